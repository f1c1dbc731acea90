import PyProof.Rows.All
import Wide.All
import OpenK.AllK
import Wide.FinOn
import Lean
import PyProof.EqAt
import PyProof.EqKinds
import PyProof.TupleCall
import PySem.Challenge.RW_fairround_k01_tables
set_option Elab.async false
set_option linter.all false
set_option maxRecDepth 100000
namespace L2
open PySem PySem.Spec PyProof.Rows
abbrev Key := Sum Int Str
def keyIs : Key → Value → Bool
  | .inl k, v => Value.isInt k v
  | .inr x, v => Value.isStrOf x v
def keyH (w : World) : Key → Int
  | .inl k => hashInt k
  | .inr x => hashStr w x
theorem keyIs_shape : ∀ {k : Key} {v : Value}, keyIs k v = true → (∃ i t, k = Sum.inl i ∧ v = Value.int i t) ∨ (∃ x t, k = Sum.inr x ∧ v = Value.str x t)
  | .inl i, v, h => by
    obtain ⟨t, e⟩ := Value.isInt_shape (k := i) (v := v) h
    exact .inl ⟨i, t, rfl, e⟩
  | .inr x, v, h => by
    obtain ⟨t, e⟩ := Value.isStrOf_shape (x := x) (v := v) h
    exact .inr ⟨x, t, rfl, e⟩
theorem keyIs_int (i : Int) (t : Tok) : keyIs (.inl i) (.int i t) = true := by simp [keyIs, Value.isInt]
theorem keyIs_str (x : Str) (t : Tok) : keyIs (.inr x) (.str x t) = true := by simp [keyIs, Value.isStrOf]
theorem key_ll (a b : Int) : decide ((Sum.inl a : Key) = Sum.inl b) = (a == b) := by
  by_cases e : a = b
  · subst e; simp
  · have h : ¬ (Sum.inl a : Key) = Sum.inl b := fun q => e (Sum.inl.inj q)
    rw [decide_eq_false h]
    exact (beq_eq_false_iff_ne.mpr e).symm
theorem key_rr (a b : Str) : decide ((Sum.inr a : Key) = Sum.inr b) = decide (a = b) := by
  by_cases e : a = b
  · subst e; simp
  · have h : ¬ (Sum.inr a : Key) = Sum.inr b := fun q => e (Sum.inr.inj q)
    rw [decide_eq_false h, decide_eq_false e]
theorem key_lr (a : Int) (b : Str) : decide ((Sum.inl a : Key) = Sum.inr b) = false := decide_eq_false (fun q => nomatch q)
theorem key_rl (a : Str) (b : Int) : decide ((Sum.inr a : Key) = Sum.inl b) = false := decide_eq_false (fun q => nomatch q)
def mixKind (prog : Program) (w : World) : PySem.KeyKind prog w Key where
  is := keyIs
  hash := keyH w
  inj := fun v a b ha hb => by
    rcases keyIs_shape ha with ⟨i, t, rfl, rfl⟩ | ⟨x, t, rfl, rfl⟩
    · rcases keyIs_shape hb with ⟨j, u, rfl, e⟩ | ⟨y, u, rfl, e⟩
      · injection e with e1 _; rw [e1]
      · exact nomatch e
    · rcases keyIs_shape hb with ⟨j, u, rfl, e⟩ | ⟨y, u, rfl, e⟩
      · exact nomatch e
      · injection e with e1 _; rw [e1]
  byValue := fun k v h => by
    rcases keyIs_shape h with ⟨i, t, rfl, rfl⟩ | ⟨x, t, rfl, rfl⟩ <;> rfl
  pyHash := fun hv h => by
    rcases keyIs_shape hv with ⟨i, t, rfl, rfl⟩ | ⟨x, t, rfl, rfl⟩
    · exact wpAny_pyHash_int h
    · exact wpAny_pyHash_str h
  eqBool := fun hu hv h => by
    rcases keyIs_shape hu with ⟨i, t, rfl, rfl⟩ | ⟨x, t, rfl, rfl⟩
    · rcases keyIs_shape hv with ⟨j, u, rfl, rfl⟩ | ⟨y, u, rfl, rfl⟩
      · rw [key_ll] at h; exact wpAny_eqBool_int h
      · rw [key_lr] at h; exact SeqAt.EqAt.int_str i t y u _ _ _ _ h
    · rcases keyIs_shape hv with ⟨j, u, rfl, rfl⟩ | ⟨y, u, rfl, rfl⟩
      · rw [key_rl] at h; exact SeqAt.EqAt.str_int x t j u _ _ _ _ h
      · rw [key_rr] at h; exact wpAny_eqBool_str h
  «strs» := fun k x t v h => by
    rcases keyIs_shape h with ⟨i, u, rfl, e⟩ | ⟨y, u, rfl, e⟩
    · exact nomatch e
    · injection e with e1 _
      subst e1
      cases v <;> rfl
theorem mixKind_int (prog : Program) (w : World) (i : Int) (t : Tok) : (mixKind prog w).is (.inl i) (.int i t) = true := keyIs_int i t
theorem mixKind_str (prog : Program) (w : World) (x : Str) (t : Tok) : (mixKind prog w).is (.inr x) (.str x t) = true := keyIs_str x t
end L2
namespace L2
open PySem PySem.Spec PyProof.Rows
inductive V where
  | non | bl (b : Bool) | int (i : Int) | str (x : Str) | byt (b : Array UInt8) | flt (b : UInt64) | ref (a : Addr) | ty (n : String)
  deriving DecidableEq
def RelV : V → Value → Prop
  | .non, u => u = Value.none
  | .bl b, u => u = Value.bool b
  | .int i, u => ∃ t, u = Value.int i t
  | .str x, u => ∃ t, u = Value.str x t
  | .byt b, u => ∃ t, u = Value.bytes b t
  | .flt b, u => ∃ t, u = Value.float b t
  | .ref a, u => u = Value.ref a
  | .ty n, u => u = Value.type n
abbrev Vals : List V → List Value → Prop := Paired RelV
theorem Vals.length {xs : List V} {us : List Value} (r : Vals xs us) : xs.length = us.length := Paired.length r
theorem Vals.get : ∀ {xs : List V} {us : List Value} {i : Nat} {x : V}, Vals xs us → xs[i]? = some x → ∃ u, us[i]? = some u ∧ RelV x u
  | _, _, _, _, .nil, e => by simp at e
  | _, _, 0, _, .cons r _, e => by simp at e; subst e; exact ⟨_, rfl, r⟩
  | _, _, i + 1, x, .cons _ t, e => by
    obtain ⟨u, h1, h2⟩ := Vals.get (i := i) (x := x) t (by simpa using e)
    exact ⟨u, by simpa using h1, h2⟩
theorem Vals.set {x : V} {u : Value} (r : RelV x u) : ∀ {xs : List V} {us : List Value} (i : Nat), Vals xs us → Vals (xs.set i x) (us.set i u)
  | _, _, _, .nil => .nil
  | _, _, 0, .cons _ t => .cons r t
  | _, _, i + 1, .cons q t => .cons q (Vals.set r i t)
theorem Vals.append : ∀ {xs ys : List V} {us ws : List Value}, Vals xs us → Vals ys ws → Vals (xs ++ ys) (us ++ ws)
  | _, _, _, _, .nil, s => s
  | _, _, _, _, .cons r t, s => .cons r (Vals.append t s)
theorem Vals.take : ∀ {xs : List V} {us : List Value} (n : Nat), Vals xs us → Vals (xs.take n) (us.take n)
  | _, _, 0, _ => .nil
  | _, _, _ + 1, .nil => .nil
  | _, _, n + 1, .cons r t => .cons r (Vals.take n t)
theorem Vals.drop : ∀ {xs : List V} {us : List Value} (n : Nat), Vals xs us → Vals (xs.drop n) (us.drop n)
  | _, _, 0, r => r
  | _, _, _ + 1, .nil => .nil
  | _, _, n + 1, .cons _ t => Vals.drop n t
theorem Vals.none_of : ∀ {xs : List V} {us : List Value} {i : Nat}, Vals xs us → xs[i]? = none → us[i]? = none := fun {xs us i} r e => by
  have h1 := r.length
  have h2 : xs.length ≤ i := List.getElem?_eq_none_iff.mp e
  exact List.getElem?_eq_none_iff.mpr (by omega)
def RelO : Option V → Option Value → Prop
  | some v, some u => RelV v u
  | none, none => True
  | _, _ => False
def KV {κ : Type} : List (κ × V) → List (κ × Value) → Prop := Paired fun (p : κ × V) (q : κ × Value) => p.1 = q.1 ∧ RelV p.2 q.2
def kV : Key → V
  | .inl i => .int i
  | .inr x => .str x
inductive HO where
  | lst (xs : List V)
  | tup (xs : List V)
  | dK (kvs : List (Key × V)) | dT (kvs : List (List Key × V))
  | set (S : Int → Bool) (n : Nat)
  | ins (C dx : Addr) (fs : List (Str × V))
  | own (x : Addr)
  | xd (fs : List (Str × V))
  | met (f x : Addr)
  | rng (lo hi : Int)
  | frz (o : Obj) (u : HO)
  | tbl (ps : Array Value)
  | ext (φ : Heap → Prop)
abbrev Hp := Addr → Option HO
def upd (H : Hp) (a : Addr) (o : HO) : Hp := fun b => if b = a then some o else H b
theorem upd_same {H : Hp} {a : Addr} {o : HO} : upd H a o a = some o := by unfold upd; rw [if_pos rfl]
theorem upd_ne {H : Hp} {a b : Addr} {o : HO} (h : b ≠ a) : upd H a o b = H b := by unfold upd; rw [if_neg h]
theorem upd_upd {H : Hp} {a : Addr} {o u : HO} : upd (upd H a o) a u = upd H a u := by
  funext b; unfold upd; split <;> rfl
theorem ne_of {H : Hp} {a b : Addr} {o u : HO} (h : H a = some o) (h' : H b = some u) (d : o ≠ u) : a ≠ b := by
  intro e; subst e; rw [h] at h'; exact d (Option.some.inj h')
theorem ne_of_none {H : Hp} {a b : Addr} {o : HO} (h : H a = some o) (h' : H b = none) : a ≠ b := by
  intro e; subst e; rw [h] at h'; cases h'
def IsTupD (h : Heap) (a : Addr) (items : Array Value) : Prop := ∃ o, h.get? a = some o ∧ o.dict = none ∧ o.cls = .type "tuple" ∧ ∃ n, o.data = .seq items n
theorem IsTupD.up {h : Heap} {a : Addr} {items : Array Value} (x : IsTupD h a items) : IsTup h a items := let ⟨o, e, _, c, d⟩ := x; ⟨o, e, c, d⟩
theorem IsTupD.lt {h : Heap} {a : Addr} {items : Array Value} (x : IsTupD h a items) : a < h.objs.size := x.up.lt
theorem IsTupD.new (h : Heap) (items : Array Value) : IsTupD (h.push { cls := .type "tuple", data := .seq items }) h.objs.size items := ⟨_, Heap.get?_push_size _ rfl, rfl, rfl, _, rfl⟩
section
variable (P : Program) (w : World)
def ObjOk (H : Hp) (h : Heap) (a : Addr) : HO → Prop
  | .lst xs => xs.length ≤ sizeLine ∧ ∃ (its : List Value) (n : Nat), Vals xs its ∧ h.get? a = some { cls := .type "list", data := .seq its.toArray n }
  | .tup xs => xs.length ≤ sizeLine ∧ ∃ its : List Value, Vals xs its ∧ IsTupD h a its.toArray
  | .dK kvs => kvs.length ≤ sizeLine ∧ (a == sysModules) = false ∧ ∃ vs, KV kvs vs ∧ h.DictOf (mixKind P w) a vs
  | .dT kvs => kvs.length ≤ sizeLine ∧ (a == sysModules) = false ∧ ∃ xs : List (List Key × Addr × Value),
      Paired (fun (p : List Key × V) (q : List Key × Addr × Value) => p.1 = q.1 ∧ H q.2.1 = some (.tup (p.1.map kV)) ∧ RelV p.2 q.2.2) kvs xs ∧
      ∃ o es ep, h.get? a = some o ∧ o.ExactDict ∧ o.data = .dict es ep ∧ es.toList = xs.map (entryOfKey (tupleKind (mixKind P w))) ∧ (xs.map (·.1)).Nodup
  | .set S n => h.SetOf (intKind P w) a S n
  | .ins C dx fs => H dx = some (.own a) ∧ fs.length ≤ 1000 ∧ dx ≠ a ∧ h.get? a = some (PySem.W.instObj C dx) ∧
      ∃ mA, h.Ns1 dx mA ∧ (∀ f, RelO (fs.lookup f) (mA f)) ∧ PySem.Within mA (fs.map (·.1))
  | .own _ => ∃ o, h.get? a = some o
  | .xd fs => ∃ mA, h.Ns1 a mA ∧ ∀ f, RelO (fs.lookup f) (mA f)
  | .rng lo hi => ∃ t u v, h.get? a = some { cls := .type "range", data := .fields #[.int lo t, .int hi u, .int 1 v] }
  | .frz o u => h.get? a = some o ∧ ObjOk H h a u
  | .tbl ps => h.get? a = some { cls := .none, data := .fields ps }
  | .met f x => h.get? a = some (PySem.W.methodObj (.ref f) (.ref x))
  | .ext φ => φ h ∧ (∃ o, h.get? a = some o) ∧ ∀ h1 h2 : Heap, φ h1 → (∀ o, h1.get? a = some o → h2.get? a = some o) → φ h2
def HOk (H : Hp) (h : Heap) : Prop := ∀ a o, H a = some o → ObjOk P w H h a o
end
section
variable {P : Program} {w : World} {H H' : Hp} {h h' : Heap} {a : Addr} {o : HO}
theorem ObjOk.lt (x : ObjOk P w H h a o) : a < h.objs.size := by
  cases o with
  | lst xs => obtain ⟨_, _, _, _, e⟩ := x; exact Heap.lt_size e
  | tup xs => obtain ⟨_, _, _, p⟩ := x; exact p.lt
  | dK kvs => obtain ⟨_, _, _, _, o, _, _, e, _⟩ := x; exact Heap.lt_size e
  | dT kvs => obtain ⟨_, _, _, _, o, _, _, e, _⟩ := x; exact Heap.lt_size e
  | set S n => obtain ⟨o, _, _, _, e, _⟩ := x; exact Heap.lt_size e
  | ins C dx fs => obtain ⟨_, _, _, e, _⟩ := x; exact Heap.lt_size e
  | own y => obtain ⟨_, e⟩ := x; exact Heap.lt_size e
  | xd fs => obtain ⟨_, ⟨_, _, _, e, _⟩, _⟩ := x; exact Heap.lt_size e
  | rng lo hi => obtain ⟨_, _, _, e⟩ := x; exact Heap.lt_size e
  | frz ob u => obtain ⟨e, _⟩ := x; exact Heap.lt_size e
  | tbl ps => exact Heap.lt_size (show h.get? a = some _ from x)
  | met f y => exact Heap.lt_size (show h.get? a = some _ from x)
  | ext φ => obtain ⟨_, ⟨_, e⟩, _⟩ := x; exact Heap.lt_size e
theorem Paired.mapP {α β : Type} {F G : α → β → Prop} : ∀ {l₁ : List α} {l₂ : List β}, Paired F l₁ l₂ → (∀ a b, F a b → G a b) → Paired G l₁ l₂
  | _, _, .nil, _ => .nil
  | _, _, .cons r t, f => .cons (f _ _ r) (Paired.mapP t f)
theorem ObjOk.stay (x : ObjOk P w H h a o) (k : ∀ b u, (b = a ∨ H b = some (.own a)) → h.get? b = some u → h'.get? b = some u)
    (ho : ∀ b, H b = some (.own a) → H' b = some (.own a)) (ht : ∀ b xs, H b = some (.tup xs) → H' b = some (.tup xs)) : ObjOk P w H' h' a o := by
  induction o with
  | lst xs => obtain ⟨z, its, n, r, e⟩ := x; exact ⟨z, its, n, r, k _ _ (.inl rfl) e⟩
  | tup xs => obtain ⟨z, its, r, ob, e, c⟩ := x; exact ⟨z, its, r, ob, k _ _ (.inl rfl) e, c⟩
  | dK kvs => obtain ⟨z, y, vs, r, ob, es, ep, e, c⟩ := x; exact ⟨z, y, vs, r, ob, es, ep, k _ _ (.inl rfl) e, c⟩
  | dT kvs =>
    obtain ⟨z, y, xs, r, ob, es, ep, e, c⟩ := x
    exact ⟨z, y, xs, Paired.mapP r fun p q z => ⟨z.1, ht _ _ z.2.1, z.2.2⟩, ob, es, ep, k _ _ (.inl rfl) e, c⟩
  | set S n => obtain ⟨ob, es, ep, t, e, c⟩ := x; exact ⟨ob, es, ep, t, k _ _ (.inl rfl) e, c⟩
  | ins C dx fs =>
    obtain ⟨d, z, ne, e, mA, ⟨od, es, ep, e2, c⟩, r⟩ := x
    exact ⟨ho _ d, z, ne, k _ _ (.inl rfl) e, mA, ⟨od, es, ep, k _ _ (.inr d) e2, c⟩, r⟩
  | own y => obtain ⟨ob, e⟩ := x; exact ⟨ob, k _ _ (.inl rfl) e⟩
  | xd fs => obtain ⟨mA, ⟨od, es, ep, e, c⟩, r⟩ := x; exact ⟨mA, ⟨od, es, ep, k _ _ (.inl rfl) e, c⟩, r⟩
  | rng lo hi => obtain ⟨t, u, v, e⟩ := x; exact ⟨t, u, v, k _ _ (.inl rfl) e⟩
  | frz ob u ih => obtain ⟨e, q⟩ := x; exact ⟨k _ _ (.inl rfl) e, ih q⟩
  | tbl ps =>
    have e : h.get? a = some { cls := .none, data := .fields ps } := x
    show h'.get? a = some { cls := .none, data := .fields ps }
    exact k a _ (.inl rfl) e
  | met f y =>
    have e : h.get? a = some (PySem.W.methodObj (.ref f) (.ref y)) := x
    show h'.get? a = some (PySem.W.methodObj (.ref f) (.ref y))
    exact k a _ (.inl rfl) e
  | ext φ => obtain ⟨p, ⟨o, e⟩, st⟩ := x; exact ⟨st _ _ p fun o q => k _ _ (.inl rfl) q, ⟨o, k _ _ (.inl rfl) e⟩, st⟩
theorem HOk.lt (x : HOk P w H h) (e : H a = some o) : a < h.objs.size := (x a o e).lt
theorem HOk.fresh (x : HOk P w H h) (e : h.objs.size ≤ a) : H a = none := by
  cases q : H a with
  | none => rfl
  | some u => exact absurd (Nat.lt_of_lt_of_le (x.lt q) e) (Nat.lt_irrefl _)
theorem HOk.kept (x : HOk P w H h) (k : ∀ b u, h.get? b = some u → h'.get? b = some u) : HOk P w H h' := fun a o e =>
  (x a o e).stay (fun b u _ q => k b u q) (fun _ q => q) fun _ _ q => q
theorem HOk.laid (x : HOk P w H h) (k : ∀ b u, h.get? b = some u → h'.get? b = some u) (hp : h.objs.size ≤ a) (new : ObjOk P w (upd H a o) h' a o) : HOk P w (upd H a o) h' := fun b u e => by
  have hn := x.fresh hp
  by_cases hb : b = a
  · subst hb; rw [upd_same] at e; cases e; exact new
  · rw [upd_ne hb] at e
    exact (x b u e).stay (fun c v _ q => k c v q) (fun c q => by rw [upd_ne (ne_of_none q hn)]; exact q) fun c xs q => by rw [upd_ne (ne_of_none q hn)]; exact q
end
def Rd (H : Hp) (a : Addr) (u : HO) : Prop := H a = some u ∨ ∃ o, H a = some (.frz o u)
theorem Rd.of {H : Hp} {a : Addr} {u : HO} (h : H a = some u) : Rd H a u := .inl h
theorem Rd.ok {P : Program} {w : World} {H : Hp} {h : Heap} {a : Addr} {u : HO} (r : Rd H a u) (x : HOk P w H h) : ObjOk P w H h a u := by
  rcases r with r | ⟨o, r⟩
  · exact x a u r
  · obtain ⟨_, q⟩ := x a _ r
    exact q
def Mut : Option HO → Prop
  | some (.lst _) => True
  | some (.dK _) => True
  | some (.dT _) => True
  | some (.set _ _) => True
  | some (.ins _ _ _) => True
  | some (.ext _) => True
  | _ => False
section
variable {P : Program} {w : World} {H : Hp} {h h' : Heap} {x e : Addr} {o' : HO}
theorem HOk.write (ok : HOk P w H h) (mu : Mut (H x)) (he : e = x ∨ H e = some (.own x)) (k : ∀ b u, b ≠ e → h.get? b = some u → h'.get? b = some u) (heo : ∃ u, h'.get? e = some u)
    (new : ObjOk P w (upd H x o') h' x o') : HOk P w (upd H x o') h' := fun b u q => by
  have nown : ∀ c y, H c = some (.own y) → c ≠ x := fun c y r z => by subst z; rw [r] at mu; exact mu
  have ntup : ∀ c xs, H c = some (.tup xs) → c ≠ x := fun c xs r z => by subst z; rw [r] at mu; exact mu
  by_cases hb : b = x
  · subst hb; rw [upd_same] at q; cases q; exact new
  · rw [upd_ne hb] at q
    by_cases hbe : b = e
    · have q' : H b = some (.own x) := by
        rcases he with z | z
        · exact absurd (hbe.trans z) hb
        · rw [hbe]; exact z
      rw [q] at q'; cases q'
      obtain ⟨v, hv⟩ := heo
      exact ⟨v, by rw [hbe]; exact hv⟩
    · refine (ok b u q).stay (fun c v hc r => k c v ?_ r) (fun c r => by rw [upd_ne (nown c b r)]; exact r) fun c xs r => by rw [upd_ne (ntup c xs r)]; exact r
      rcases hc with rfl | hc
      · exact hbe
      · rintro rfl
        rcases he with z | z
        · exact nown c b hc z
        · rw [hc] at z; cases z; exact hb rfl
end
structure Un (fs ex : List Addr) (H H' : Hp) (h h' : Heap) : Prop where
  keep : ∀ b o, h.get? b = some o → H b = none → b ∉ fs → b ∉ ex → h'.get? b = some o
  slot : ∀ b o, h.get? b = some o → H b = none → b ∈ fs → b ∉ ex → ∃ sl, h'.get? b = some { o with slots := sl }
  free : ∀ b o, h.get? b = some o → H b = none → b ∉ ex → H' b = none
  there : ∀ b o, h.get? b = some o → b ∉ ex → ∃ o', h'.get? b = some o'
  tups : ∀ b xs, H b = some (.tup xs) → H' b = some (.tup xs)
  frzs : ∀ b o u, H b = some (.frz o u) → H' b = some (.frz o u)
  tbls : ∀ b ps, H b = some (.tbl ps) → ∃ more, H' b = some (.tbl (ps ++ more))
section
variable {fs fs' ex ex' : List Addr} {H H1 H2 : Hp} {h h1 h2 h' : Heap} {a x e : Addr} {o : HO}
theorem Un.any (u : Un fs ex H H1 h h1) {b : Addr} {ob : Obj} (q : h.get? b = some ob) (n : H b = none) (hx : b ∉ ex) : ∃ sl, h1.get? b = some { ob with slots := sl } := by
  by_cases hb : b ∈ fs
  · exact u.slot b ob q n hb hx
  · exact ⟨ob.slots, u.keep b ob q n hb hx⟩
theorem Un.trans (a : Un fs ex H H1 h h1) (b : Un fs ex H1 H2 h1 h2) : Un fs ex H H2 h h2 where
  keep := fun c ob q n hc hx => b.keep c ob (a.keep c ob q n hc hx) (a.free c ob q n hx) hc hx
  slot := fun c ob q n hc hx => by
    obtain ⟨sl, e1⟩ := a.slot c ob q n hc hx
    obtain ⟨sl', e2⟩ := b.slot c _ e1 (a.free c ob q n hx) hc hx
    exact ⟨sl', e2⟩
  free := fun c ob q n hx => by
    obtain ⟨o', e1⟩ := a.there c ob q hx
    exact b.free c o' e1 (a.free c ob q n hx) hx
  there := fun c ob q hx => by
    obtain ⟨o', e1⟩ := a.there c ob q hx
    exact b.there c o' e1 hx
  tups := fun c xs q => b.tups c xs (a.tups c xs q)
  frzs := fun c ob xs q => b.frzs c ob xs (a.frzs c ob xs q)
  tbls := fun c ps q => by
    obtain ⟨m1, e1⟩ := a.tbls c ps q
    obtain ⟨m2, e2⟩ := b.tbls c _ e1
    exact ⟨m1 ++ m2, by rw [e2, Array.append_assoc]⟩
theorem Un.kept (k : ∀ b u, h.get? b = some u → h'.get? b = some u) : Un fs ex H H h h' :=
  ⟨fun b ob q _ _ _ => k b ob q, fun b ob q _ _ _ => ⟨ob.slots, k b ob q⟩, fun _ _ _ n _ => n, fun b ob q _ => ⟨ob, k b ob q⟩, fun _ _ q => q, fun _ _ _ q => q, fun _ ps q => ⟨#[], by rw [q]; simp⟩⟩
theorem Un.refl : Un fs ex H H h h := Un.kept fun _ _ q => q
theorem Un.laid (k : ∀ b u, h.get? b = some u → h'.get? b = some u) (hp : h.objs.size ≤ a) (hn : H a = none) : Un fs ex H (upd H a o) h h' where
  keep := fun b u q _ _ _ => k b u q
  slot := fun b u q _ _ _ => ⟨u.slots, k b u q⟩
  free := fun b u q n _ => by rw [upd_ne (Nat.ne_of_lt (Nat.lt_of_lt_of_le (Heap.lt_size q) hp))]; exact n
  there := fun b u q _ => ⟨u, k b u q⟩
  tups := fun b xs q => by rw [upd_ne (ne_of_none q hn)]; exact q
  frzs := fun b u xs q => by rw [upd_ne (ne_of_none q hn)]; exact q
  tbls := fun b ps q => ⟨#[], by rw [upd_ne (ne_of_none q hn), q]; simp⟩
theorem Un.write (mu : Mut (H x)) (he : e = x ∨ H e = some (.own x)) (k : ∀ b u, b ≠ e → h.get? b = some u → h'.get? b = some u) (heo : ∃ u, h'.get? e = some u) : Un fs ex H (upd H x o) h h' := by
  have hx : ∀ b, H b = none → b ≠ x := fun b n z => by subst z; rw [n] at mu; exact mu
  have hb : ∀ b, H b = none → b ≠ e := fun b n z => by
    subst z
    rcases he with r | r
    · exact hx b n r
    · rw [n] at r; cases r
  have hm : ∀ b u, H b = some u → ¬ Mut (some u) → b ≠ x := fun b u q nm z => by subst z; rw [q] at mu; exact nm mu
  refine ⟨fun b u q n _ _ => k b u (hb b n) q, fun b u q n _ _ => ⟨u.slots, k b u (hb b n) q⟩, fun b u q n _ => by rw [upd_ne (hx b n)]; exact n, fun b u q _ => ?_,
    fun b xs q => by rw [upd_ne (hm b _ q fun z => z)]; exact q, fun b u xs q => by rw [upd_ne (hm b _ q fun z => z)]; exact q, fun b ps q => ⟨#[], by rw [upd_ne (hm b _ q fun z => z), q]; simp⟩⟩
  by_cases hbe : b = e
  · subst hbe; exact heo
  · exact ⟨u, k b u hbe q⟩
theorem Un.mono (u : Un fs ex H H1 h h1) (hs : ∀ b ∈ fs, b ∈ fs') (hx : ∀ b ∈ ex, b ∈ ex') : Un fs' ex' H H1 h h1 :=
  ⟨fun b ob q n hb he => u.keep b ob q n (fun z => hb (hs b z)) fun z => he (hx b z), fun _ _ q n _ he => u.any q n fun z => he (hx _ z), fun b ob q n he => u.free b ob q n fun z => he (hx b z), fun b ob q he => u.there b ob q fun z => he (hx b z), u.tups, u.frzs, u.tbls⟩
end
def trk (h : Heap) (H : Hp) : List Addr := (List.range h.objs.size).filter fun a => (H a).isSome
def hidT (h : Heap) (H : Hp) : Heap := PySem.W.hideAll h (trk h H)
theorem hidT_size (h : Heap) (H : Hp) : (hidT h H).objs.size = h.objs.size := PySem.W.hideAll_size _ _
theorem hidT_get {h : Heap} {H : Hp} {b : Addr} {o : Obj} (e : h.get? b = some o) (n : H b = none) : (hidT h H).get? b = some o :=
  PySem.W.hideAll_get _ e fun hm => by
    have q : (H b).isSome = true := (List.mem_filter.mp hm).2
    rw [n] at q; simp at q
theorem of_hidT {h : Heap} {H : Hp} {b : Addr} {o : Obj} (e : (hidT h H).get? b = some o) : h.get? b = some o ∧ H b = none := by
  have e' : h.get? b = some o := PySem.W.of_hideAll (trk h H) e
  refine ⟨e', ?_⟩
  cases q : H b with
  | none => rfl
  | some x =>
    have hm : b ∈ trk h H := List.mem_filter.mpr ⟨List.mem_range.mpr (Heap.lt_size e'), by simp [q]⟩
    have z : (hidT h H).get? b = none := PySem.W.hideAll_none (trk h H) hm
    rw [z] at e; cases e
def allNews (g h : Heap) (L : Addr) : List (Addr × Obj) := (List.range h.objs.size).filterMap fun a => if a = L ∨ (g.get? a).isSome = true then none else (h.get? a).map fun o => (a, o)
def rest (g h : Heap) (L d : Addr) : List (Addr × Obj) := (allNews g h L).filter fun p => decide (p.1 ≠ d)
end L2
namespace L2
open PySem PySem.Spec PyProof.Rows
structure Mod (K : PySem.W.Frag) (mg : Str → Option Value) (base : Heap) : Prop where
  kin : K.In base
  glob : base.Ns mainGlobals mg
  blt : ∃ mb, base.Ns builtinsNs mb ∧ ∀ x : Str, x ≠ "__name__" → mb x = bootBuiltins x
  nolimit : base.NoLimit
structure Cx where
  prog : Program
  w : World
  K : PySem.W.Frag
  mg : Str → Option Value
  base : Heap
  A : Around
  N : List Str
  s₀ : Shared
  H₀ : Hp
  env : Env
  outer : List Env
  stack : List Env
  ex : List Addr
  fn : Str → Bool
  calm : Bool
  pn : List (Addr × Obj)
  xe : Value → Shared → Prop
def frs (l : List Env) : List Addr := l.filterMap (·.frame)
abbrev Cx.fs (X : Cx) : List Addr := frs X.outer
def Vis (sc : Scope) (x : Str) : Prop := sc.names.lookup x = some .local ∨ sc.names.lookup x = some .cell ∨ sc.names.lookup x = some .free
def Loc (sc : Scope) (x : Str) : Prop := sc.names.lookup x = some .local ∨ sc.names.lookup x = some .cell
def Look (env : Env) (h : Heap) (m : Str → Option Value) (x : Str) (u : Value) : Prop :=
  (env.kindOf x = some .local ∧ m x = some u) ∨ ((env.kindOf x = some .cell ∨ env.kindOf x = some .free) ∧ ∃ c, env.cells.lookup x = some c ∧ h.IsCell c (some u))
structure Cx.Ok (X : Cx) : Prop where
  mod : Mod X.K X.mg X.base
  kind : X.env.scope.kind = .function
  glob : X.env.globals = mainGlobals
  blt : X.env.builtins = builtinsNs
  above : X.s₀.heap.objs.size ≤ X.env.locals
  inj : ∀ x y c, X.env.cells.lookup x = some c → X.env.cells.lookup y = some c → x = y
  has : ∀ x, (X.env.kindOf x = some .cell ∨ X.env.kindOf x = some .free) → ∃ c, X.env.cells.lookup x = some c
  cab : ∀ x c, X.fn x = true → X.env.cells.lookup x = some c → X.s₀.heap.objs.size ≤ c
  hd : X.calm = true → X.A.handled = none
  frames : X.A.frames = some X.stack
  stk : X.stack = X.outer ∨ (X.stack = X.env :: X.outer ∧ X.env.frame = some X.env.locals)
  exf : ∀ b ∈ X.ex, b ≠ X.env.locals ∧ ∀ x c, X.env.cells.lookup x = some c → c ≠ b
  bs : ∀ b o, X.base.get? b = some o → X.s₀.heap.get? b = some o ∧ X.H₀ b = none
  bsz : X.base.objs.size ≤ X.s₀.heap.objs.size
  noex : ∀ b o, X.base.get? b = some o → b ∉ X.ex
  exfs : ∀ b ∈ X.ex, b ∉ X.fs
  funs : X.s₀.heap.FunFrames X.base X.outer
  frf : ∀ b ∈ X.fs, X.H₀ b = none
structure Inv (X : Cx) (pins : List (Addr × Obj)) (σ : List (Option V)) (H : Hp) (s : Shared) : Prop where
  ok : X.Ok
  os : s.os = X.s₀.os
  bare : AllBare s.gens
  base : Un X.fs X.ex X.H₀ H X.s₀.heap s.heap
  loc : ∃ m, s.heap.Ns X.env.locals m ∧ ∀ (i : Nat) (x : Str) (v : V), X.N[i]? = some x → σ[i]? = some (some v) → Vis X.env.scope x → ∃ u, RelV v u ∧ Look X.env s.heap m x u
  cell : ∀ x c, X.env.cells.lookup x = some c → ∃ v, s.heap.IsCell c v
  free : H X.env.locals = none
  freeC : ∀ x c, X.env.cells.lookup x = some c → H c = none
  pin : ∀ p ∈ X.pn ++ pins, s.heap.get? p.1 = some p.2 ∧ H p.1 = none ∧ p.1 ≠ X.env.locals ∧ p.1 ∉ X.fs ∧ ∀ v, p.2.data ≠ .cell v
  hok : HOk X.prog X.w H s.heap
  len : σ.length = X.N.length
section
variable {X : Cx} {pins : List (Addr × Obj)} {σ : List (Option V)} {H H' : Hp} {s : Shared} {h' : Heap}
theorem Cx.Ok.nofr (ok : X.Ok) {b : Addr} {o : Obj} (e : X.base.get? b = some o) : b ∉ X.fs := fun hb => by
  have := (ok.funs.mem hb).1
  rw [e] at this; cases this
theorem Inv.bs (I : Inv X pins σ H s) : ∀ b o, X.base.get? b = some o → s.heap.get? b = some o ∧ H b = none := fun b o e =>
  ⟨I.base.keep b o (I.ok.bs b o e).1 (I.ok.bs b o e).2 (I.ok.nofr e) (I.ok.noex b o e), I.base.free b o (I.ok.bs b o e).1 (I.ok.bs b o e).2 (I.ok.noex b o e)⟩
theorem Inv.bk (I : Inv X pins σ H s) : ∀ b o, X.base.get? b = some o → s.heap.get? b = some o := fun b o e => (I.bs b o e).1
theorem Inv.mod (I : Inv X pins σ H s) : Mod X.K X.mg X.base := I.ok.mod
theorem Inv.kIn (I : Inv X pins σ H s) : X.K.In s.heap := I.ok.mod.kin.keeps I.bk
theorem Inv.nolimit (I : Inv X pins σ H s) : s.heap.NoLimit := I.ok.mod.nolimit.keeps I.bk
theorem Inv.lt (I : Inv X pins σ H s) : X.env.locals < s.heap.objs.size := let ⟨_, hn, _⟩ := I.loc; hn.lt
theorem Inv.sz (I : Inv X pins σ H s) : X.s₀.heap.objs.size ≤ s.heap.objs.size := Nat.le_trans I.ok.above (Nat.le_of_lt I.lt)
theorem Inv.nofs (I : Inv X pins σ H s) {a : Addr} (h : s.heap.objs.size ≤ a) : a ∉ X.fs := fun hb => by
  obtain ⟨_, o, ho, _⟩ := I.ok.funs.mem hb
  exact absurd (Nat.lt_of_lt_of_le (Heap.lt_size ho) (Nat.le_trans I.sz h)) (Nat.lt_irrefl _)
theorem Inv.cne (I : Inv X pins σ H s) : ∀ x c, X.env.cells.lookup x = some c → c ≠ X.env.locals := fun x c e z => by
  obtain ⟨v, o, ho, hd⟩ := I.cell x c e
  obtain ⟨m, ⟨o', es, ep, ho', hd', _⟩, _⟩ := I.loc
  rw [z, ho'] at ho; cases ho; rw [hd'] at hd; cases hd
theorem Inv.funs (I : Inv X pins σ H s) : s.heap.FunFrames X.base X.outer := by
  have all : ∀ (l : List Env), (∀ b ∈ frs l, b ∈ X.fs) → X.s₀.heap.FunFrames X.base l → s.heap.FunFrames X.base l := by
    intro l
    induction l with
    | nil => intro _ _; trivial
    | cons env r ih =>
      intro hs hl
      obtain ⟨hk, ⟨L, o, hf, hn, ho, hd⟩, hr⟩ := hl
      have hL : L ∈ X.fs := hs L (by unfold frs; rw [List.filterMap_cons, hf]; exact List.mem_cons_self)
      obtain ⟨sl, e⟩ := I.base.slot L o ho (I.ok.frf L hL) hL fun z => I.ok.exfs L z hL
      exact ⟨hk, ⟨L, _, hf, hn, e, hd⟩, ih (fun b hb => hs b (by unfold frs; rw [List.filterMap_cons, hf]; exact List.mem_cons_of_mem _ hb)) hr⟩
  exact all X.outer (fun _ hb => hb) I.ok.funs
theorem Inv.stack (I : Inv X pins σ H s) : s.heap.FunFrames X.base X.stack := by
  rcases I.ok.stk with e | ⟨e, hf⟩
  · rw [e]; exact I.funs
  · rw [e]
    obtain ⟨m, hn, _⟩ := I.loc
    refine .cons (by rw [I.ok.kind]; decide) hf hn ?_ I.funs
    exact Heap.get?_none_of_le (Nat.le_trans I.ok.bsz I.ok.above)
theorem Inv.stkSub (I : Inv X pins σ H s) : ∀ b ∈ frs X.stack, b ∈ X.env.locals :: X.fs := fun b hb => by
  rcases I.ok.stk with e | ⟨e, hf⟩
  · rw [e] at hb; exact List.mem_cons_of_mem _ hb
  · rw [e] at hb
    unfold frs at hb
    rw [List.filterMap_cons, hf] at hb
    exact hb
theorem Inv.stkFree (I : Inv X pins σ H s) : ∀ b ∈ frs X.stack, H b = none := fun b hb => by
  rcases List.mem_cons.mp (I.stkSub b hb) with e | hb
  · rw [e]; exact I.free
  · obtain ⟨_, o, ho, _⟩ := I.ok.funs.mem hb
    exact I.base.free b o ho (I.ok.frf b hb) fun z => I.ok.exfs b z hb
theorem Inv.step {g' : Array GenState} {t' : Nat} {d' : Drawn} {ch : List Addr} (I : Inv X pins σ H s)
    (hch : ∀ b ∈ ch, (b ∈ X.ex ∨ X.s₀.heap.objs.size ≤ b) ∧ b ≠ X.env.locals ∧ (∀ x c, X.env.cells.lookup x = some c → c ≠ b) ∧ ∀ p ∈ X.pn ++ pins, p.1 ≠ b)
    (keep : ∀ b o, b ≠ X.env.locals → b ∉ X.fs → b ∉ ch → s.heap.get? b = some o → H b = none → h'.get? b = some o)
    (slot : ∀ b o, b ≠ X.env.locals → b ∈ X.fs → b ∉ ch → s.heap.get? b = some o → H b = none → ∃ sl, h'.get? b = some { o with slots := sl }) (free : ∀ b o, b ∉ ch → s.heap.get? b = some o → H b = none → H' b = none)
    (there : ∀ b o, b ∉ ch → s.heap.get? b = some o → ∃ o', h'.get? b = some o')
    (tups : ∀ b xs, H b = some (.tup xs) → H' b = some (.tup xs)) (frzs : ∀ b o u, H b = some (.frz o u) → H' b = some (.frz o u)) (tbls : ∀ b ps, H b = some (.tbl ps) → ∃ more, H' b = some (.tbl (ps ++ more)))
    (ns : ∀ m, s.heap.Ns X.env.locals m → h'.Ns X.env.locals m) (hok : HOk X.prog X.w H' h') (hg : AllBare g') :
    Inv X pins σ H' { s with heap := h', gens := g', drawn := d', toks := t' } := by
  have neL : ∀ b o, X.s₀.heap.get? b = some o → b ≠ X.env.locals := fun b o e => Nat.ne_of_lt (Nat.lt_of_lt_of_le (Heap.lt_size e) I.ok.above)
  have neC : ∀ b o, X.s₀.heap.get? b = some o → b ∉ X.ex → b ∉ ch := fun b o e hx hb => by
    rcases (hch b hb).1 with z | z
    · exact hx z
    · exact absurd (Nat.lt_of_lt_of_le (Heap.lt_size e) z) (Nat.lt_irrefl _)
  have cellK : ∀ x c, X.env.cells.lookup x = some c → ∀ v, s.heap.IsCell c v → h'.IsCell c v := fun x c e v ⟨o, ho, hd⟩ => by
    have nch : c ∉ ch := fun z => (hch c z).2.2.1 x c e rfl
    by_cases hc : c ∈ X.fs
    · obtain ⟨sl, q⟩ := slot c o (I.cne x c e) hc nch ho (I.freeC x c e)
      exact ⟨_, q, hd⟩
    · exact ⟨o, keep c o (I.cne x c e) hc nch ho (I.freeC x c e), hd⟩
  refine ⟨I.ok, I.os, hg, ⟨fun b o e n hb hx => ?_, fun b o e n hb hx => ?_, fun b o e n hx => ?_, fun b o e hx => ?_, fun b xs e => tups b xs (I.base.tups b xs e), fun b o xs e => frzs b o xs (I.base.frzs b o xs e), fun b ps e => ?_⟩, ?_, fun x c e => ?_, ?_, fun x c e => ?_, fun p hp => ?_, hok, I.len⟩
  · exact keep b o (neL b o e) hb (neC b o e hx) (I.base.keep b o e n hb hx) (I.base.free b o e n hx)
  · obtain ⟨sl, e1⟩ := I.base.slot b o e n hb hx
    obtain ⟨sl', e2⟩ := slot b _ (neL b o e) hb (neC b o e hx) e1 (I.base.free b o e n hx)
    exact ⟨sl', e2⟩
  · obtain ⟨o', e1⟩ := I.base.there b o e hx
    exact free b o' (neC b o e hx) e1 (I.base.free b o e n hx)
  · obtain ⟨o', e1⟩ := I.base.there b o e hx
    exact there b o' (neC b o e hx) e1
  · obtain ⟨m1, e1⟩ := I.base.tbls b ps e
    obtain ⟨m2, e2⟩ := tbls b _ e1
    exact ⟨m1 ++ m2, by rw [e2, Array.append_assoc]⟩
  · obtain ⟨m, hn, hl⟩ := I.loc
    refine ⟨m, ns m hn, fun i x v e1 e2 e3 => ?_⟩
    obtain ⟨u, r, l⟩ := hl i x v e1 e2 e3
    refine ⟨u, r, ?_⟩
    rcases l with l | ⟨k, c, e, z⟩
    · exact .inl l
    · exact .inr ⟨k, c, e, cellK x c e _ z⟩
  · obtain ⟨v, z⟩ := I.cell x c e
    exact ⟨v, cellK x c e v z⟩
  · obtain ⟨m, ⟨o, _, _, ho, _⟩, _⟩ := I.loc
    exact free _ o (fun z => (hch _ z).2.1 rfl) ho I.free
  · obtain ⟨v, o, ho, hd⟩ := I.cell x c e
    exact free c o (fun z => (hch c z).2.2.1 x c e rfl) ho (I.freeC x c e)
  · obtain ⟨e, n, ne, nf, d⟩ := I.pin p hp
    have nch : p.1 ∉ ch := fun z => (hch p.1 z).2.2.2 p hp rfl
    exact ⟨keep p.1 p.2 ne nf nch e n, free p.1 p.2 nch e n, ne, nf, d⟩
theorem Inv.un {t' : Nat} (I : Inv X pins σ H s) (u : Un X.fs [] H H' s.heap h') (hok : HOk X.prog X.w H' h') : Inv X pins σ H' { s with heap := h', toks := t' } := by
  obtain ⟨m, ⟨o, es, ep, ho, r⟩, _⟩ := id I.loc
  obtain ⟨sl, hL⟩ := u.any ho I.free (by simp)
  exact I.step (g' := s.gens) (d' := s.drawn) (ch := []) (fun _ z => nomatch z) (fun b o _ hb _ e n => u.keep b o e n hb (by simp)) (fun b o _ hb _ e n => u.slot b o e n hb (by simp)) (fun b o _ e n => u.free b o e n (by simp)) (fun b o _ e => u.there b o e (by simp)) u.tups u.frzs u.tbls (fun m' hm => by
    obtain ⟨o', es', ep', ho', r'⟩ := hm
    rw [ho] at ho'; cases ho'
    exact ⟨_, es', ep', hL, r'⟩) hok I.bare
theorem Inv.call {g' : Array GenState} {t' : Nat} {d' : Drawn} {ch : List Addr} (I : Inv X pins σ H s) (u : Un (frs X.stack) ch H H' s.heap h') (hok : HOk X.prog X.w H' h') (hg : AllBare g')
    (hch : ∀ b ∈ ch, (b ∈ X.ex ∨ X.s₀.heap.objs.size ≤ b) ∧ b ≠ X.env.locals ∧ (∀ x c, X.env.cells.lookup x = some c → c ≠ b) ∧ ∀ p ∈ X.pn ++ pins, p.1 ≠ b) :
    Inv X pins σ H' { s with heap := h', gens := g', drawn := d', toks := t' } := by
  obtain ⟨m, ⟨o, es, ep, ho, r⟩, _⟩ := id I.loc
  obtain ⟨sl, hL⟩ := u.any ho I.free fun z => (hch _ z).2.1 rfl
  exact I.step (ch := ch) hch (fun b o hL hb hc e n => u.keep b o e n (fun z => (List.mem_cons.mp (I.stkSub b z)).elim hL hb) hc) (fun b o _ _ hc e n => u.any e n hc) (fun b o hc e n => u.free b o e n hc) (fun b o hc e => u.there b o e hc) u.tups u.frzs u.tbls (fun m' hm => by
    obtain ⟨o', es', ep', ho', r'⟩ := hm
    rw [ho] at ho'; cases ho'
    exact ⟨_, es', ep', hL, r'⟩) hok hg
theorem Inv.turned {t' : Nat} {it : Addr} (I : Inv X pins σ H s) (k : ∀ b o, b ≠ it → s.heap.get? b = some o → h'.get? b = some o) (hn : H it = none) (hL : it ≠ X.env.locals)
    (h1 : it ∈ X.ex ∨ X.s₀.heap.objs.size ≤ it) (h2 : ∀ x c, X.env.cells.lookup x = some c → c ≠ it) (h3 : ∀ p ∈ X.pn ++ pins, p.1 ≠ it) : Inv X pins σ H { s with heap := h', toks := t' } := by
  have nit : ∀ b u, H b = some u → b ≠ it := fun b u e z => by rw [z, hn] at e; cases e
  refine I.step (g' := s.gens) (d' := s.drawn) (ch := [it]) (fun b hb => ?_) (fun b o _ _ hc e _ => k b o (fun z => hc (by simp [z])) e) (fun b o _ _ hc e _ => ⟨o.slots, k b o (fun z => hc (by simp [z])) e⟩) (fun _ _ _ _ n => n)
    (fun b o hc e => ⟨o, k b o (fun z => hc (by simp [z])) e⟩) (fun _ _ e => e) (fun _ _ _ e => e) (fun b ps e => ⟨#[], by rw [e]; simp⟩) (fun m hm => ?_) (fun b u e => ?_) I.bare
  · have e : b = it := by simpa using hb
    subst e
    exact ⟨h1, hL, h2, h3⟩
  · obtain ⟨o, es, ep, ho, r⟩ := hm
    exact ⟨o, es, ep, k _ o (Ne.symm hL) ho, r⟩
  · refine (I.hok b u e).stay (fun c v hc q => k c v ?_ q) (fun _ q => q) fun _ _ q => q
    rcases hc with z | z
    · rw [z]; exact nit b u e
    · exact nit c _ z
theorem Inv.tok (I : Inv X pins σ H s) (t : Nat) : Inv X pins σ H { s with toks := t } := I.un (h' := s.heap) (t' := t) Un.refl I.hok
theorem Inv.kept {t' : Nat} (I : Inv X pins σ H s) (k : ∀ b u, s.heap.get? b = some u → h'.get? b = some u) : Inv X pins σ H { s with heap := h', toks := t' } := I.un (Un.kept k) (I.hok.kept k)
theorem Inv.laid {a : Addr} {o : HO} {t' : Nat} (I : Inv X pins σ H s) (k : ∀ b u, s.heap.get? b = some u → h'.get? b = some u) (hp : s.heap.objs.size ≤ a) (new : ObjOk X.prog X.w (upd H a o) h' a o) :
    Inv X pins σ (upd H a o) { s with heap := h', toks := t' } := I.un (Un.laid k hp (I.hok.fresh hp)) (I.hok.laid k hp new)
theorem Inv.write {x e : Addr} {o : HO} {t' : Nat} (I : Inv X pins σ H s) (mu : Mut (H x)) (he : e = x ∨ H e = some (.own x)) (k : ∀ b u, b ≠ e → s.heap.get? b = some u → h'.get? b = some u) (heo : ∃ u, h'.get? e = some u)
    (new : ObjOk X.prog X.w (upd H x o) h' x o) : Inv X pins σ (upd H x o) { s with heap := h', toks := t' } := I.un (Un.write mu he k heo) (I.hok.write mu he k heo new)
theorem Inv.weak {σ' : List (Option V)} (I : Inv X pins σ H s) (hl : σ'.length = σ.length) (w : ∀ (i : Nat) v, σ'[i]? = some (some v) → σ[i]? = some (some v)) : Inv X pins σ' H s :=
  ⟨I.ok, I.os, I.bare, I.base, let ⟨m, hn, hl'⟩ := I.loc; ⟨m, hn, fun i x v e1 e2 e3 => hl' i x v e1 (w i v e2) e3⟩, I.cell, I.free, I.freeC, I.pin, I.hok, hl.trans I.len⟩
theorem Inv.pins_of {pins' : List (Addr × Obj)} (I : Inv X pins σ H s) (h : ∀ p ∈ pins', s.heap.get? p.1 = some p.2 ∧ H p.1 = none ∧ p.1 ≠ X.env.locals ∧ p.1 ∉ X.fs ∧ ∀ v, p.2.data ≠ .cell v) : Inv X pins' σ H s :=
  ⟨I.ok, I.os, I.bare, I.base, I.loc, I.cell, I.free, I.freeC, fun p hp => (List.mem_append.mp hp).elim (fun z => I.pin p (List.mem_append_left _ z)) (h p), I.hok, I.len⟩
theorem nodup_ix {N : List Str} (hN : N.Nodup) {i j : Nat} {x : Str} (a : N[i]? = some x) (b : N[j]? = some x) : i = j := by
  obtain ⟨h1, e1⟩ := List.getElem?_eq_some_iff.mp a
  obtain ⟨h2, e2⟩ := List.getElem?_eq_some_iff.mp b
  exact (List.getElem_inj hN).mp (e1.trans e2.symm)
theorem store_ok2 {M : Model} {A : Around} {E : Value → Shared → Prop} {i : Nat} {x : Str} {v : V} {u : Value} {Q : Unit → Shared → Prop} (I : Inv X pins σ H s) (hN : X.N.Nodup) (hi : X.N[i]? = some x) (hx : Loc X.env.scope x) (r : RelV v u)
    (h : ∀ s', Inv X pins (σ.set i (some v)) H s' → (∃ a, Heap.SameBut a s.heap s'.heap ∧ (a = X.env.locals ∨ X.env.cells.lookup x = some a)) → Q () s') (hf : X.fn x = true ∨ X.env.scope.names.lookup x = some .local := by first | exact .inl rfl | exact .inr rfl | assumption) : wpAny M A (storeName X.env x u) Q E s := by
  obtain ⟨m, hn, hl⟩ := id I.loc
  have hcls : (X.env.scope.kind == .class || (X.env.scope.kind == .module && X.env.locals != X.env.globals)) = false := by rw [I.ok.kind]; rfl
  have hiσ : i < σ.length := by rw [I.len]; exact (List.getElem?_eq_some_iff.mp hi).1
  have cne := I.cne
  have tracked : ∀ {a : Addr} {h' : Heap}, (∃ o, s.heap.get? a = some o ∧ H a = none) → Heap.SameBut a s.heap h' → HOk X.prog X.w H h' := fun {a h'} ha hs b ob e => by
    obtain ⟨_, _, hfree⟩ := ha
    refine (I.hok b ob e).stay (fun c w' hc q => (hs.2 c ?_).trans q) (fun _ q => q) fun _ _ q => q
    rintro rfl
    rcases hc with rfl | hc
    · rw [hfree] at e; cases e
    · rw [hfree] at hc; cases hc
  rcases hx with hk | hk
  · refine wpAny_storeName_local hk hn (fun h' hn' hs => ?_) hcls
    obtain ⟨oL, _, _, hoL, _⟩ := id hn
    refine h _ ⟨I.ok, I.os, I.bare, ⟨fun b o e n hb hx => ?_, fun b o e n hb hx => ?_, I.base.free, fun b o e hx => ?_, I.base.tups, I.base.frzs, I.base.tbls⟩, ⟨_, hn', fun j y v' e1 e2 e3 => ?_⟩, fun y c e => ?_, I.free, I.freeC, fun p hp => ?_, tracked ⟨oL, hoL, I.free⟩ hs, by simpa using I.len⟩ ⟨_, hs, .inl rfl⟩
    · exact (hs.2 b (Nat.ne_of_lt (Nat.lt_of_lt_of_le (Heap.lt_size e) I.ok.above))).trans (I.base.keep b o e n hb hx)
    · obtain ⟨sl, e1⟩ := I.base.slot b o e n hb hx
      exact ⟨sl, (hs.2 b (Nat.ne_of_lt (Nat.lt_of_lt_of_le (Heap.lt_size e) I.ok.above))).trans e1⟩
    · obtain ⟨o', e1⟩ := I.base.there b o e hx
      exact ⟨o', (hs.2 b (Nat.ne_of_lt (Nat.lt_of_lt_of_le (Heap.lt_size e) I.ok.above))).trans e1⟩
    · by_cases hj : j = i
      · subst hj
        rw [hi] at e1; cases e1
        rw [List.getElem?_set_self hiσ] at e2
        cases e2
        exact ⟨u, r, .inl ⟨hk, by simp⟩⟩
      · rw [List.getElem?_set_ne (Ne.symm hj)] at e2
        obtain ⟨u', r', q⟩ := hl j y v' e1 e2 e3
        refine ⟨u', r', ?_⟩
        rcases q with ⟨k, e⟩ | ⟨k, c, e, z⟩
        · refine .inl ⟨k, ?_⟩
          have : y ≠ x := fun e => hj (nodup_ix hN e1 (e ▸ hi))
          simp [this, e]
        · exact .inr ⟨k, c, e, z.sameBut hs (cne y c e)⟩
    · obtain ⟨w', z⟩ := I.cell y c e
      exact ⟨w', z.sameBut hs (cne y c e)⟩
    · obtain ⟨e, n, ne, nf, d⟩ := I.pin p hp
      exact ⟨(hs.2 p.1 ne).trans e, n, ne, nf, d⟩
  · have hfn : X.fn x = true := by
      rcases hf with z | z
      · exact z
      · rw [z] at hk; cases hk
    obtain ⟨c, hc⟩ := I.ok.has x (.inl hk)
    obtain ⟨w', z⟩ := I.cell x c hc
    refine wpAny_storeName_cell I.ok.kind hk hc z (fun h' hc' hs => ?_)
    obtain ⟨oc, hoc, hocd⟩ := id z
    refine h { s with heap := h' } ⟨I.ok, I.os, I.bare, ⟨fun b o e n hb hx => ?_, fun b o e n hb hx => ?_, I.base.free, fun b o e hx => ?_, I.base.tups, I.base.frzs, I.base.tbls⟩, ⟨m, hn.sameBut hs (Ne.symm (cne x c hc)), fun j y v' e1 e2 e3 => ?_⟩, fun y c' e => ?_, I.free, I.freeC, fun p hp => ?_, tracked ⟨oc, hoc, I.freeC x c hc⟩ hs, by simpa using I.len⟩ ⟨c, hs, .inr hc⟩
    · exact (hs.2 b (Nat.ne_of_lt (Nat.lt_of_lt_of_le (Heap.lt_size e) (I.ok.cab x c hfn hc)))).trans (I.base.keep b o e n hb hx)
    · obtain ⟨sl, e1⟩ := I.base.slot b o e n hb hx
      exact ⟨sl, (hs.2 b (Nat.ne_of_lt (Nat.lt_of_lt_of_le (Heap.lt_size e) (I.ok.cab x c hfn hc)))).trans e1⟩
    · obtain ⟨o', e1⟩ := I.base.there b o e hx
      exact ⟨o', (hs.2 b (Nat.ne_of_lt (Nat.lt_of_lt_of_le (Heap.lt_size e) (I.ok.cab x c hfn hc)))).trans e1⟩
    · by_cases hj : j = i
      · subst hj
        rw [hi] at e1; cases e1
        rw [List.getElem?_set_self hiσ] at e2
        cases e2
        exact ⟨u, r, .inr ⟨.inl hk, c, hc, hc'⟩⟩
      · rw [List.getElem?_set_ne (Ne.symm hj)] at e2
        obtain ⟨u', r', q⟩ := hl j y v' e1 e2 e3
        refine ⟨u', r', ?_⟩
        rcases q with q | ⟨k, c', e, z'⟩
        · exact .inl q
        · refine .inr ⟨k, c', e, z'.sameBut hs ?_⟩
          rintro rfl
          exact hj (nodup_ix hN e1 (I.ok.inj _ _ _ e hc ▸ hi))
    · by_cases hcc : c' = c
      · subst hcc; exact ⟨_, hc'⟩
      · obtain ⟨w2, z2⟩ := I.cell y c' e
        exact ⟨w2, z2.sameBut hs hcc⟩
    · obtain ⟨e, n, ne, nf, d⟩ := I.pin p hp
      refine ⟨(hs.2 p.1 ?_).trans e, n, ne, nf, d⟩
      intro q
      rw [q, hoc] at e
      have q' : oc = p.2 := Option.some.inj e
      exact d w' (by rw [← q']; exact hocd)
theorem store_ok {M : Model} {A : Around} {E : Value → Shared → Prop} {i : Nat} {x : Str} {v : V} {u : Value} {Q : Unit → Shared → Prop} (I : Inv X pins σ H s) (hN : X.N.Nodup) (hi : X.N[i]? = some x) (hx : Loc X.env.scope x) (r : RelV v u)
    (h : ∀ s', Inv X pins (σ.set i (some v)) H s' → Q () s') (hf : X.fn x = true ∨ X.env.scope.names.lookup x = some .local := by first | exact .inl rfl | exact .inr rfl | assumption) : wpAny M A (storeName X.env x u) Q E s :=
  store_ok2 I hN hi hx r (fun s' I' _ => h s' I') hf
theorem Inv.call' {s' : Shared} {ch : List Addr} (I : Inv X pins σ H s) (ho : s'.os = s.os) (u : Un (frs X.stack) ch H H' s.heap s'.heap) (hok : HOk X.prog X.w H' s'.heap) (hg : AllBare s'.gens)
    (hch : ∀ b ∈ ch, (b ∈ X.ex ∨ X.s₀.heap.objs.size ≤ b) ∧ b ≠ X.env.locals ∧ (∀ x c, X.env.cells.lookup x = some c → c ≠ b) ∧ ∀ p ∈ X.pn ++ pins, p.1 ≠ b) : Inv X pins σ H' s' := by
  obtain ⟨h', g', d', t', o'⟩ := s'
  have e : o' = s.os := ho
  subst e
  exact I.call (g' := g') (t' := t') (d' := d') u hok hg hch
end
abbrev XK := Value → Option Addr → Hp → Prop
abbrev St := List (Option V)
abbrev VK := V → Hp → Prop
abbrev TE := St → Hp → VK → Prop
abbrev TT := St → Hp → (Bool → Hp → Prop) → Prop
abbrev TA := St → Hp → (List V → Hp → Prop) → Prop
structure Ends where
  nx : St → Hp → Prop
  rt : VK
  bk : St → Hp → Prop := fun _ _ => False
  ct : St → Hp → Prop := fun _ _ => False
abbrev TS := Ends → St → Hp → Prop
def EP (X : Cx) (pins : List (Addr × Obj)) (σ : St) (Q : VK) (u : Value) (s' : Shared) : Prop := ∃ v H', Inv X pins σ H' s' ∧ RelV v u ∧ Q v H'
def TP (X : Cx) (pins : List (Addr × Obj)) (σ : St) (Q : Bool → Hp → Prop) (b : Bool) (s' : Shared) : Prop := ∃ H', Inv X pins σ H' s' ∧ Q b H'
def AP (X : Cx) (pins : List (Addr × Obj)) (σ : St) (Q : List V → Hp → Prop) (us : List Value) (s' : Shared) : Prop := ∃ vs H', Inv X pins σ H' s' ∧ Vals vs us ∧ Q vs H'
def SP (X : Cx) (pins : List (Addr × Obj)) (D : Ends) (f : Flow) (s' : Shared) : Prop :=
  match f with
  | .next => ∃ σ' H', Inv X pins σ' H' s' ∧ D.nx σ' H'
  | .brk => ∃ σ' H', Inv X pins σ' H' s' ∧ D.bk σ' H'
  | .cont => ∃ σ' H', Inv X pins σ' H' s' ∧ D.ct σ' H'
  | .ret u => ∃ v σ' H', Inv X pins σ' H' s' ∧ RelV v u ∧ D.rt v H'
def PE (X : Cx) (e : Expr) (t : TE) : Prop :=
  ∀ (pins : List (Addr × Obj)) (s : Shared) (σ : St) (H : Hp) (Q : VK), Inv X pins σ H s → t σ H Q → wpAny (model X.prog X.w) X.A (eval e X.env) (EP X pins σ Q) X.xe s
def PT (X : Cx) (e : Expr) (t : TT) : Prop :=
  ∀ (pins : List (Addr × Obj)) (s : Shared) (σ : St) (H : Hp) (Q : Bool → Hp → Prop), Inv X pins σ H s → t σ H Q → wpAny (model X.prog X.w) X.A (isTrue e X.env (eval e X.env)) (TP X pins σ Q) X.xe s
def PW (X : Cx) (e : Expr) (t : TT) : Prop :=
  ∀ (whole : Sem Value) (pins : List (Addr × Obj)) (s : Shared) (σ : St) (H : Hp) (Q : Bool → Hp → Prop), Inv X pins σ H s → t σ H Q → wpAny (model X.prog X.w) X.A (isTrue e X.env whole) (TP X pins σ Q) X.xe s
theorem PW.pt {X : Cx} {e : Expr} {t : TT} (h : PW X e t) : PT X e t := h _
def PA (X : Cx) (es : List Expr) (t : TA) : Prop :=
  ∀ (pos : Pos) (pins : List (Addr × Obj)) (s : Shared) (σ : St) (H : Hp) (Q : List V → Hp → Prop), Inv X pins σ H s → t σ H Q → wpAny (model X.prog X.w) X.A (spliced (backTo pos (starEach es X.env))) (AP X pins σ Q) X.xe s
def PS (X : Cx) (st : Stmt) (t : TS) : Prop :=
  ∀ (pins : List (Addr × Obj)) (s : Shared) (σ : St) (H : Hp) (D : Ends), Inv X pins σ H s → t D σ H → wpAny (model X.prog X.w) X.A (exec st X.env) (SP X pins D) X.xe s
def PSs (X : Cx) (st : List Stmt) (t : TS) : Prop :=
  ∀ (pins : List (Addr × Obj)) (s : Shared) (σ : St) (H : Hp) (D : Ends), Inv X pins σ H s → t D σ H → wpAny (model X.prog X.w) X.A (execs st X.env) (SP X pins D) X.xe s
theorem thn {α : Type} {t : Sem α} {Q Q' : α → Shared → Prop} {M : Model} {A : Around} {E : Value → Shared → Prop} {s : Shared} (h : wpAny M A t Q E s) (hQ : ∀ a s, Q a s → Q' a s) : wpAny M A t Q' E s := wpAny_mono h hQ fun _ _ x => x
end L2
namespace L2
open PySem PySem.Spec PyProof.Rows
section
variable {X : Cx}
def tVar (i : Nat) : TE := fun σ H Q => ∃ v, σ[i]? = some (some v) ∧ Q v H
def tC (v : V) : TE := fun _ H Q => Q v H
theorem pe_var {i : Nat} {x : Str} {pos : Pos} (hN : X.N[i]? = some x) (hv : Vis X.env.scope x) (hd : (x == ("__debug__" : Str)) = false := by decide) (hcd : (x == ("__classdict__" : Str)) = false := by decide) : PE X (.Name x pos) (tVar i) := by
  intro pins s σ H Q I h
  obtain ⟨v, e, h⟩ := h
  obtain ⟨m, hn, hl⟩ := I.loc
  obtain ⟨u, r, l⟩ := hl i x v hN e hv
  have fin : EP X pins σ Q u s := ⟨v, H, I, r, h⟩
  rcases l with ⟨hk, hm⟩ | ⟨hk, c, hc, hcell⟩
  · exact wpAny_Name (wpAny_loadName_local I.ok.kind hk hn hm fin) hd
  · rcases hk with hk | hk
    · exact wpAny_Name (wpAny_loadName_cell I.ok.kind hk hc hcell fin) hd
    · exact wpAny_Name (wpAny_loadName_free I.ok.kind hk hc hcell fin hcd) hd
theorem pe_int {i j pos} : PE X (.Constant (.int i) j pos) (tC (.int i)) := fun _ _ _ H _ I h => wpAny_Constant_int ⟨.int i, H, I.tok _, ⟨_, rfl⟩, h⟩
theorem pe_bl {b j pos} : PE X (.Constant (.bool b) j pos) (tC (.bl b)) := fun _ _ _ H _ I h => Constant_bool ⟨.bl b, H, I, rfl, h⟩
theorem pe_non {j pos} : PE X (.Constant .none j pos) (tC .non) := fun _ _ _ H _ I h => Constant_none ⟨.non, H, I, rfl, h⟩
theorem pe_str {x j pos} : PE X (.Constant (.str x) j pos) (tC (.str x)) := fun _ _ _ H _ I h => Calls.Constant_str ⟨.str x, H, I.tok _, ⟨_, rfl⟩, h⟩
def Gl (X : Cx) (x : Str) : Prop := X.env.kindOf x = some .globalImplicit
theorem ld_glob {E : Value → Shared → Prop} {pins : List (Addr × Obj)} {s : Shared} {σ : St} {H : Hp} {x : Str} {u : Value} {pos : Pos} {Q : Value → Shared → Prop} (I : Inv X pins σ H s) (hg : Gl X x) (hm : X.mg x = some u) (h : Q u s)
    (hd : (x == ("__debug__" : Str)) = false := by decide) : wpAny (model X.prog X.w) X.A (eval (.Name x pos) X.env) Q E s :=
  Calls.Name_function_global I.ok.kind hg (Calls.loadGlobal_global (by rw [I.ok.glob]; exact I.mod.glob.keeps I.bk) hm h) hd
theorem ld_blt {E : Value → Shared → Prop} {pins : List (Addr × Obj)} {s : Shared} {σ : St} {H : Hp} {x : Str} {u : Value} {pos : Pos} {Q : Value → Shared → Prop} (I : Inv X pins σ H s) (hg : Gl X x) (hm : X.mg x = none) (hv : bootBuiltins x = some u) (h : Q u s)
    (hn : x ≠ "__name__" := by decide) (hd : (x == ("__debug__" : Str)) = false := by decide) : wpAny (model X.prog X.w) X.A (eval (.Name x pos) X.env) Q E s := by
  obtain ⟨mb, h1, h2⟩ := I.mod.blt
  exact Calls.Name_function_global I.ok.kind hg (Calls.loadGlobal_builtin (by rw [I.ok.glob]; exact I.mod.glob.keeps I.bk) hm (by rw [I.ok.blt]; exact h1.keeps I.bk) ((h2 x hn).trans hv) h) hd
theorem pe_glob {x : Str} {v : V} {u : Value} {pos : Pos} (hg : Gl X x) (hm : X.mg x = some u) (r : RelV v u) (hd : (x == ("__debug__" : Str)) = false := by decide) : PE X (.Name x pos) (tC v) :=
  fun _ _ _ H _ I h => ld_glob I hg hm ⟨v, H, I, r, h⟩ hd
theorem pe_bltn {x : Str} {v : V} {u : Value} {pos : Pos} (hg : Gl X x) (hm : X.mg x = none) (hv : bootBuiltins x = some u) (r : RelV v u) (hn : x ≠ "__name__" := by decide) (hd : (x == ("__debug__" : Str)) = false := by decide) : PE X (.Name x pos) (tC v) :=
  fun _ _ _ H _ I h => ld_blt I hg hm hv ⟨v, H, I, r, h⟩ hn hd
variable {a b : Expr} {ta tb : TE} {pos : Pos}
def tB (t : TE) : TT := fun σ H Q => t σ H fun x H1 => ∃ c, x = .bl c ∧ Q c H1
variable {tA tB' : TT} {rest : List Expr}
def tAnd (t u : TT) : TT := fun σ H Q => t σ H fun c H1 => if c = true then u σ H1 Q else Q false H1
def tOr (t u : TT) : TT := fun σ H Q => t σ H fun c H1 => if c = true then Q true H1 else u σ H1 Q
def tNot (t : TT) : TT := fun σ H Q => t σ H fun c H1 => Q (!c) H1
theorem pw_and1 (ha : PT X a tA) : PW X (.BoolOp .And [a] pos) tA := by
  intro wh pins s σ H Q I h
  refine isTrue_and (thn (ha pins s σ H Q I h) fun c s1 e => ?_)
  cases c with
  | true => exact isTrue_and_nil e
  | false => exact e
theorem pw_or1 (ha : PT X a tA) : PW X (.BoolOp .Or [a] pos) tA := by
  intro wh pins s σ H Q I h
  refine isTrue_or (thn (ha pins s σ H Q I h) fun c s1 e => ?_)
  cases c with
  | false => exact isTrue_or_nil e
  | true => exact e
theorem pw_and (ha : PT X a tA) (hb : PW X (.BoolOp .And (b :: rest) pos) tB') : PW X (.BoolOp .And (a :: b :: rest) pos) (tAnd tA tB') := by
  intro wh pins s σ H Q I h
  refine isTrue_and (thn (ha pins s σ H _ I h) fun c s1 ⟨H1, I1, q1⟩ => ?_)
  cases c with
  | true => exact hb wh pins s1 σ H1 Q I1 q1
  | false => exact ⟨H1, I1, q1⟩
theorem pw_or (ha : PT X a tA) (hb : PW X (.BoolOp .Or (b :: rest) pos) tB') : PW X (.BoolOp .Or (a :: b :: rest) pos) (tOr tA tB') := by
  intro wh pins s σ H Q I h
  refine isTrue_or (thn (ha pins s σ H _ I h) fun c s1 ⟨H1, I1, q1⟩ => ?_)
  cases c with
  | true => exact ⟨H1, I1, q1⟩
  | false => exact hb wh pins s1 σ H1 Q I1 q1
theorem pt_not (ha : PT X a tA) : PT X (.UnaryOp .Not a pos) (tNot tA) := by
  intro pins s σ H Q I h
  exact isTrue_not (ha pins s σ H (fun c H1 => Q (!c) H1) I h)
def tAndV (ta tb : TE) : TE := fun σ H Q => ta σ H fun x H1 => ∃ c, x = .bl c ∧ if c = true then tb σ H1 Q else Q (.bl false) H1
def tNotV (ta : TE) : TE := fun σ H Q => ta σ H fun x H1 => ∃ c, x = .bl c ∧ Q (.bl (!c)) H1
theorem pe_one {op} {t : TE} (h : PE X a t) : PE X (.BoolOp op [a] pos) t := fun pins s σ H Q I hw => BoolOp_one (h pins s σ H Q I hw)
theorem pe_and (ha : PE X a ta) (hb : PE X (.BoolOp .And (b :: rest) pos) tb) : PE X (.BoolOp .And (a :: b :: rest) pos) (tAndV ta tb) := by
  intro pins s σ H Q I h
  refine BoolOp_and (thn (ha pins s σ H _ I h) fun v s1 ⟨x, H1, I1, r1, q1⟩ => ?_)
  obtain ⟨c, rfl, q1⟩ := q1
  cases r1
  refine wpAny_truthy_bool ?_
  cases c with
  | true => exact hb pins s1 σ H1 Q I1 q1
  | false => exact ⟨.bl false, H1, I1, rfl, q1⟩
theorem pe_not (ha : PE X a ta) : PE X (.UnaryOp .Not a pos) (tNotV ta) := by
  intro pins s σ H Q I h
  refine UnaryOp_ (thn (ha pins s σ H _ I h) fun v s1 ⟨x, H1, I1, r1, q1⟩ => ?_)
  obtain ⟨c, rfl, q1⟩ := q1
  cases r1
  exact not_of (wpAny_truthy_bool ⟨.bl (!c), H1, I1, rfl, q1⟩)
end
end L2
namespace L2
open PySem PySem.Spec PyProof.Rows
def SqL (K : PySem.W.Frag) (H : Hp) (a : Addr) (xs : List V) : Prop :=
  Rd H a (.lst xs) ∨
    ∃ (o : Obj) (its : Array Value) (n : Nat), K.lookup a = some o ∧ o.cls = .type "list" ∧ o.dict = none ∧ o.data = .seq its n ∧ its.size ≤ sizeLine ∧ Vals xs its.toList
def SqT (K : PySem.W.Frag) (H : Hp) (a : Addr) (xs : List V) : Prop :=
  Rd H a (.tup xs) ∨
    ∃ (o : Obj) (its : Array Value) (n : Nat), K.lookup a = some o ∧ o.dict = none ∧ o.cls = .type "tuple" ∧ o.data = .seq its n ∧ its.size ≤ sizeLine ∧ Vals xs its.toList
def absV : Value → Option V
  | .none => some .non
  | .bool b => some (.bl b)
  | .int i _ => some (.int i)
  | .str x _ => some (.str x)
  | .bytes b _ => some (.byt b)
  | .float b _ => some (.flt b)
  | .ref a => some (.ref a)
  | .type n => some (.ty n)
  | _ => none
theorem RelV.abs {x : V} {u : Value} (r : RelV x u) : absV u = some x := by
  cases x with
  | non => cases r; rfl
  | bl _ => cases r; rfl
  | int _ => obtain ⟨t, rfl⟩ := r; rfl
  | str _ => obtain ⟨t, rfl⟩ := r; rfl
  | byt _ => obtain ⟨t, rfl⟩ := r; rfl
  | flt _ => obtain ⟨t, rfl⟩ := r; rfl
  | ref _ => cases r; rfl
  | ty _ => cases r; rfl
theorem RelV.inj {x y : V} {u : Value} (r : RelV x u) (q : RelV y u) : x = y := Option.some.inj (r.abs.symm.trans q.abs)
theorem Vals.inj : ∀ {xs ys : List V} {us : List Value}, Vals xs us → Vals ys us → xs = ys
  | _, _, _, .nil, .nil => rfl
  | _, _, _, .cons r t, .cons r' t' => by rw [r.inj r', Vals.inj t t']
section
variable {X : Cx} {pins : List (Addr × Obj)} {σ : St} {H : Hp} {s : Shared} {a : Addr} {xs ys : List V}
theorem SqL.of {K : PySem.W.Frag} (h : H a = some (.lst xs)) : SqL K H a xs := .inl (.inl h)
theorem SqT.of {K : PySem.W.Frag} (h : H a = some (.tup xs)) : SqT K H a xs := .inl (.inl h)
theorem Inv.list (I : Inv X pins σ H s) (h : SqL X.K H a xs) : ∃ its : List Value, Vals xs its ∧ PlainL s.heap a its.toArray ∧ xs.length ≤ sizeLine := by
  rcases h with h | ⟨o, its, n, hk, hc, hd, hs, hz, r⟩
  · obtain ⟨z, its, n, r, e⟩ := h.ok I.hok
    exact ⟨its, r, ⟨_, n, e, rfl, rfl, rfl⟩, z⟩
  · refine ⟨its.toList, r, ⟨o, n, I.kIn a o hk, hc, hd, by simpa using hs⟩, ?_⟩
    have e := r.length
    simp only [Array.length_toList] at e
    omega
theorem Inv.tupleD (I : Inv X pins σ H s) (h : SqT X.K H a xs) : ∃ its : List Value, Vals xs its ∧ IsTupD s.heap a its.toArray ∧ xs.length ≤ sizeLine := by
  rcases h with h | ⟨o, its, n, hk, hdn, hc, hs, hz, r⟩
  · obtain ⟨z, its, r, p⟩ := h.ok I.hok
    exact ⟨its, r, p, z⟩
  · refine ⟨its.toList, r, ⟨o, I.kIn a o hk, hdn, hc, n, by simpa using hs⟩, ?_⟩
    have e := r.length
    simp only [Array.length_toList] at e
    omega
theorem Inv.tuple (I : Inv X pins σ H s) (h : SqT X.K H a xs) : ∃ its : List Value, Vals xs its ∧ IsTup s.heap a its.toArray ∧ xs.length ≤ sizeLine := let ⟨its, r, p, z⟩ := I.tupleD h; ⟨its, r, p.up, z⟩
theorem Inv.list_inj (I : Inv X pins σ H s) (h : SqL X.K H a xs) (h' : SqL X.K H a ys) : xs = ys := by
  obtain ⟨its, r, ⟨o, n, e, _, _, d⟩, _⟩ := I.list h
  obtain ⟨its', r', ⟨o', n', e', _, _, d'⟩, _⟩ := I.list h'
  rw [e] at e'; cases e'
  rw [d] at d'
  injection d' with d1 _
  have : its = its' := by simpa using congrArg Array.toList d1
  subst this
  exact r.inj r'
theorem Inv.tuple_inj (I : Inv X pins σ H s) (h : SqT X.K H a xs) (h' : SqT X.K H a ys) : xs = ys := by
  obtain ⟨its, r, ⟨o, e, _, n, d⟩, _⟩ := I.tuple h
  obtain ⟨its', r', ⟨o', e', _, n', d'⟩, _⟩ := I.tuple h'
  rw [e] at e'; cases e'
  rw [d] at d'
  injection d' with d1 _
  have : its = its' := by simpa using congrArg Array.toList d1
  subst this
  exact r.inj r'
end
abbrev Cx.wish (X : Cx) (E : Value → Shared → Prop) : Cx := { X with xe := E }
abbrev Cx.nox (X : Cx) : Cx := X.wish fun _ _ => False
theorem Cx.Ok.wish {X : Cx} (ok : X.Ok) (E : Value → Shared → Prop) : (X.wish E).Ok :=
  ⟨ok.mod, ok.kind, ok.glob, ok.blt, ok.above, ok.inj, ok.has, ok.cab, ok.hd, ok.frames, ok.stk, ok.exf, ok.bs, ok.bsz, ok.noex, ok.exfs, ok.funs, ok.frf⟩
theorem Cx.Ok.unwish {X : Cx} {E : Value → Shared → Prop} (ok : (X.wish E).Ok) : X.Ok :=
  ⟨ok.mod, ok.kind, ok.glob, ok.blt, ok.above, ok.inj, ok.has, ok.cab, ok.hd, ok.frames, ok.stk, ok.exf, ok.bs, ok.bsz, ok.noex, ok.exfs, ok.funs, ok.frf⟩
section
variable {X : Cx} {pins : List (Addr × Obj)} {σ : St} {H : Hp} {s : Shared} {E : Value → Shared → Prop}
theorem Inv.wish (I : Inv X pins σ H s) (E : Value → Shared → Prop) : Inv (X.wish E) pins σ H s := ⟨I.ok.wish E, I.os, I.bare, I.base, I.loc, I.cell, I.free, I.freeC, I.pin, I.hok, I.len⟩
theorem Inv.unwish (I : Inv (X.wish E) pins σ H s) : Inv X pins σ H s := ⟨I.ok.unwish, I.os, I.bare, I.base, I.loc, I.cell, I.free, I.freeC, I.pin, I.hok, I.len⟩
theorem SP.unwish {D : Ends} {f : Flow} {s' : Shared} (h : SP (X.wish E) pins D f s') : SP X pins D f s' := by
  cases f with
  | next => obtain ⟨σ', H', I, q⟩ := h; exact ⟨σ', H', I.unwish, q⟩
  | brk => obtain ⟨σ', H', I, q⟩ := h; exact ⟨σ', H', I.unwish, q⟩
  | cont => obtain ⟨σ', H', I, q⟩ := h; exact ⟨σ', H', I.unwish, q⟩
  | ret u => obtain ⟨v, σ', H', I, r, q⟩ := h; exact ⟨v, σ', H', I.unwish, r, q⟩
theorem PE.nox {e : Expr} {t : TE} (h : PE X.nox e t) : PE X e t := fun pins s σ H Q I hw =>
  wpAny_mono (h pins s σ H Q (I.wish _) hw) (fun _ _ ⟨v, H', I', r, q⟩ => ⟨v, H', I'.unwish, r, q⟩) fun _ _ z => False.elim z
theorem PT.nox {e : Expr} {t : TT} (h : PT X.nox e t) : PT X e t := fun pins s σ H Q I hw =>
  wpAny_mono (h pins s σ H Q (I.wish _) hw) (fun _ _ ⟨H', I', q⟩ => ⟨H', I'.unwish, q⟩) fun _ _ z => False.elim z
theorem PSs.nox {st : List Stmt} {t : TS} (h : PSs X.nox st t) : PSs X st t := fun pins s σ H D I hw =>
  wpAny_mono (h pins s σ H D (I.wish _) hw) (fun _ _ q => q.unwish) fun _ _ z => False.elim z
end
section
variable {X : Cx} {st : Stmt} {rest : List Stmt} {t u : TS} {e : Expr} {te : TE} {pos : Pos}
def tNext : TS := fun D σ H => D.nx σ H
def tSeq (t u : TS) : TS := fun D σ H => t { D with nx := u D } σ H
theorem pss_nil : PSs X [] tNext := fun _ _ σ H _ I h => wpAny_execs_nil ⟨σ, H, I, h⟩
theorem pss_cons (h1 : PS X st t) (h2 : PSs X rest u) : PSs X (st :: rest) (tSeq t u) := by
  intro pins s σ H D I h
  refine wpAny_execs_cons (thn (h1 pins s σ H { D with nx := u D } I h) fun f s1 q => ?_)
  cases f with
  | next =>
    obtain ⟨σ', H', I', q⟩ := q
    exact h2 pins s1 σ' H' D I' q
  | ret v => exact q
  | brk => exact q
  | cont => exact q
theorem pss_one (h1 : PS X st t) : PSs X [st] t := by
  intro pins s σ H D I h
  refine wpAny_execs_cons (thn (h1 pins s σ H D I h) fun f s1 q => ?_)
  cases f with
  | next => exact wpAny_execs_nil q
  | ret v => exact q
  | brk => exact q
  | cont => exact q
theorem Inv.quiet {pins : List (Addr × Obj)} {σ : St} {H : Hp} {s : Shared} (I : Inv X pins σ H s) : interactive X.env = false := by simp [interactive, I.ok.kind]
def tDrop (te : TE) : TS := fun D σ H => te σ H fun _ H1 => D.nx σ H1
theorem ps_expr (he : PE X e te) (hs : swapsWith e none pos.line X.env = pure false := by rfl) : PS X (.Expr e pos) (tDrop te) := by
  intro pins s σ H D I h
  exact wpAny_Expr_any (thn (he pins s σ H _ I h) fun v s1 ⟨x, H1, I1, r1, q1⟩ => ⟨σ, H1, I1, q1⟩) I.quiet hs
def tRet (te : TE) : TS := fun D σ H => te σ H D.rt
theorem ps_ret (he : PE X e te) : PS X (.Return (some e) pos) (tRet te) := by
  intro pins s σ H D I h
  exact wpAny_Return_some (thn (he pins s σ H _ I h) fun v s1 ⟨x, H1, I1, r1, q1⟩ => ⟨x, σ, H1, I1, r1, q1⟩)
def tIfS (c : TT) (t u : TS) : TS := fun D σ H => c σ H fun b H1 => if b = true then t D σ H1 else u D σ H1
theorem ps_if {c : Expr} {a b : List Stmt} {tc : TT} (hc : PT X c tc) (ha : PSs X a t) (hb : PSs X b u) : PS X (.If c a b pos) (tIfS tc t u) := by
  intro pins s σ H D I h
  refine wpAny_If (thn (hc pins s σ H _ I h) fun d s1 ⟨H1, I1, q1⟩ => ?_)
  cases d with
  | true => exact ha pins s1 σ H1 D I1 q1
  | false => exact hb pins s1 σ H1 D I1 q1
end
abbrev TG := V → St → Hp → (St → Hp → Prop) → Prop
def PG (X : Cx) (target : Expr) (t : TG) : Prop :=
  ∀ (pins : List (Addr × Obj)) (s : Shared) (σ : St) (H : Hp) (v : V) (u : Value) (Q : St → Hp → Prop), Inv X pins σ H s → RelV v u → t v σ H Q →
    wpAny (model X.prog X.w) X.A (assign target X.env u) (fun _ s' => ∃ σ' H', Inv X pins σ' H' s' ∧ Q σ' H') X.xe s
section
variable {X : Cx} {pos : Pos}
def gName (i : Nat) : TG := fun v σ H Q => Q (σ.set i (some v)) H
theorem pg_name {i : Nat} {x : Str} (hN : X.N.Nodup) (hi : X.N[i]? = some x) (hx : Loc X.env.scope x) (hf : X.fn x = true ∨ X.env.scope.names.lookup x = some .local := by first | exact .inl rfl | exact .inr rfl | assumption) : PG X (.Name x pos) (gName i) := by
  intro pins s σ H v u Q I r h
  exact wpAny_assign_Name (store_ok I hN hi hx r (fun s' I' => ⟨_, H, I', h⟩) hf)
def tAsg (te : TE) (g : TG) : TS := fun D σ H => te σ H fun x H1 => g x σ H1 D.nx
theorem ps_set {i : Nat} {x : Str} {e : Expr} {te : TE} {pos' : Pos} (hN : X.N.Nodup) (hi : X.N[i]? = some x) (hx : Loc X.env.scope x) (he : PE X e te) (hs : swapsWith e (some (.Name x pos')) pos.line X.env = pure false := by rfl) (hf : X.fn x = true ∨ X.env.scope.names.lookup x = some .local := by first | exact .inl rfl | exact .inr rfl | assumption) :
    PS X (.Assign [.Name x pos'] e pos) (tAsg te (gName i)) := by
  intro pins s σ H D I h
  refine wpAny_Assign_Name (thn (he pins s σ H _ I h) fun v s1 ⟨y, H1, I1, r1, q1⟩ => ?_) hs
  exact store_ok I1 hN hi hx r1 (fun s2 I2 => ⟨_, H1, I2, q1⟩) hf
end
section
variable {X : Cx} {pos : Pos}
end
structure It where
  go : Nat → Hp → Prop
  yld : Nat → Hp → V → Hp → Prop
  stop : Nat → Hp → Prop
def FpOk (X : Cx) (pins : List (Addr × Obj)) (H : Hp) (b : Addr) : Prop :=
  H b = none ∧ b ≠ X.env.locals ∧ b ∉ X.fs ∧ (b ∈ X.ex ∨ X.s₀.heap.objs.size ≤ b) ∧ (∀ x c, X.env.cells.lookup x = some c → c ≠ b) ∧ ∀ p ∈ X.pn ++ pins, p.1 ≠ b
theorem Inv.fpOk {X : Cx} {pins : List (Addr × Obj)} {σ : St} {H H' : Hp} {s : Shared} {b : Addr} (I : Inv X pins σ H s) (hb : s.heap.objs.size ≤ b) (hn : H' b = none) : FpOk X pins H' b := by
  refine ⟨hn, Nat.ne_of_gt (Nat.lt_of_lt_of_le I.lt hb), I.nofs hb, .inr (Nat.le_trans I.sz hb), fun x c e z => ?_, fun p hp z => ?_⟩
  · obtain ⟨v, q⟩ := I.cell x c e
    exact absurd (Nat.lt_of_lt_of_le q.lt (by rw [z]; exact hb)) (Nat.lt_irrefl _)
  · exact absurd (Nat.lt_of_lt_of_le (Heap.lt_size (I.pin p hp).1) (by rw [z]; exact hb)) (Nat.lt_irrefl _)
structure Turn (P : Program) (w : World) (K : PySem.W.Frag) (tg : Expr) (J : It) (fp : List Addr) (it : Addr) (tn : Nat → Heap → Prop) : Prop where
  mem : it ∈ fp
  obj : ∀ i h, tn i h → ∀ b ∈ fp, ∃ o, h.get? b = some o ∧ ∀ v, o.data ≠ .cell v
  keep : ∀ i h h', tn i h → (∀ b ∈ fp, ∀ o, h.get? b = some o → h'.get? b = some o) → tn i h'
  item : ∀ (X : Cx), X.prog = P → X.w = w → X.K = K → X.calm = true → ∀ (i : Nat) (pins : List (Addr × Obj)) (s : Shared) (σ : St) (H : Hp) (E : Value → Shared → Prop), Inv X pins σ H s → (∀ b ∈ fp, FpOk X pins H b) → tn i s.heap → J.go i H →
    wpAny (model P w) X.A (pyNext (.ref it)) (fun r s1 => ∃ u, r = some u ∧
      wpAny (model P w) X.A (letOwnedTupleGo tg (.ref it) u) (fun _ s2 => ∃ x H', Inv X pins σ H' s2 ∧ RelV x u ∧ J.yld i H x H' ∧ tn (i + 1) s2.heap ∧ ∀ b ∈ fp, H' b = none) E s1) E s
  done : ∀ (X : Cx), X.prog = P → X.w = w → X.K = K → X.calm = true → ∀ (i : Nat) (pins : List (Addr × Obj)) (s : Shared) (σ : St) (H : Hp) (E : Value → Shared → Prop), Inv X pins σ H s → (∀ b ∈ fp, FpOk X pins H b) → tn i s.heap → J.stop i H →
    wpAny (model P w) X.A (pyNext (.ref it)) (fun r s1 => r = none ∧ Inv X pins σ H s1) E s
  self : ∀ (A : Around) (i : Nat) (s : Shared) (Q : Value → Shared → Prop) (E : Value → Shared → Prop), tn i s.heap → Q (.ref it) s → wpAny (model P w) A (pyIter (.ref it)) Q E s
abbrev TI := St → Hp → (It → Hp → Prop) → Prop
def PIE (X : Cx) (pins : List (Addr × Obj)) (σ : St) (tg : Expr) (R : It → Hp → Prop) (itv : Value) (s2 : Shared) : Prop :=
  ∃ (it : Addr) (fp : List Addr) (tn : Nat → Heap → Prop) (J : It) (H' : Hp), itv = .ref it ∧ Inv X pins σ H' s2 ∧ Turn X.prog X.w X.K tg J fp it tn ∧ tn 0 s2.heap ∧ (∀ b ∈ fp, FpOk X pins H' b) ∧ R J H'
def PI (X : Cx) (tg iter : Expr) (wi : TI) : Prop :=
  ∀ (pins : List (Addr × Obj)) (s : Shared) (σ : St) (H : Hp) (R : It → Hp → Prop), Inv X pins σ H s → wi σ H R →
    wpAny (model X.prog X.w) X.A (eval iter X.env) (fun v s1 => wpAny (model X.prog X.w) X.A (pyIter v) (PIE X pins σ tg R) X.xe s1) X.xe s
theorem go_of {M : Model} {A : Around} {E : Value → Shared → Prop} {s : Shared} {tg : Expr} {it : Addr} {u : Value} {o : Obj} {n : String} {vs : Array Value} {Q : Unit → Shared → Prop} (ho : s.heap.get? it = some o) (hc : o.cls = .type n) (hd : o.data = .fields vs)
    (hn : ["enumerate", "zip", "dict_itemiterator", "dict_reverseitemiterator", "odict_iterator", "itertools.zip_longest", "itertools.pairwise"].contains n = false) (hQ : Q () s) : wpAny M A (letOwnedTupleGo tg (.ref it) u) Q E s := by
  unfold letOwnedTupleGo
  cases tg <;> first
    | exact wpAny_pure hQ
    | (cases u <;> first
        | exact wpAny_pure hQ
        | (refine wpAny_bind (wpAny_load ho ?_)
           rw [hc, hd]
           show wpAny M A (if (["enumerate", "zip", "dict_itemiterator", "dict_reverseitemiterator", "odict_iterator", "itertools.zip_longest", "itertools.pairwise"].contains n && vs[0]? == some (rawInt _)) = true then _ else _) Q E s
           rw [if_neg (by intro h; rw [hn, Bool.false_and] at h; cases h)]
           exact wpAny_pure hQ))
def Itl (K : PySem.W.Frag) (a : Addr) : It :=
  ⟨fun i H => ∃ xs x, SqL K H a xs ∧ xs[i]? = some x, fun i H x H' => H' = H ∧ ∀ xs, SqL K H a xs → xs[i]? = some x, fun i H => ∃ xs, SqL K H a xs ∧ xs.length ≤ i⟩
def Itt (K : PySem.W.Frag) (a : Addr) : It :=
  ⟨fun i H => ∃ xs x, SqT K H a xs ∧ xs[i]? = some x, fun i H x H' => H' = H ∧ ∀ xs, SqT K H a xs → xs[i]? = some x, fun i H => ∃ xs, SqT K H a xs ∧ xs.length ≤ i⟩
def Itr (lo : Int) (n : Nat) : It := ⟨fun i _ => i < n, fun i H x H' => H' = H ∧ x = .int (lo + i), fun i _ => n ≤ i⟩
theorem turn_list {P : Program} {w : World} {K : PySem.W.Frag} {tg : Expr} (a it : Addr) : Turn P w K tg (Itl K a) [it] it (fun i h => h.IsListIter it a i) where
  mem := by simp
  obj := fun i h st b hb => by
    have e : b = it := by simpa using hb
    subst e
    obtain ⟨o, e, c, d⟩ := st
    exact ⟨o, e, fun v z => by rw [d] at z; cases z⟩
  keep := fun i h h' st k => st.at fun o e => k it (by simp) o e
  item := by
    intro X hP hw hK hc i pins s σ H E I hf st hg
    subst hP hw hK
    obtain ⟨xs, x, hq, hx⟩ := hg
    obtain ⟨its, rv, p, hz⟩ := I.list hq
    obtain ⟨u, hu, ru⟩ := rv.get hx
    obtain ⟨f0, f1, f2, f3, f4, f5⟩ := hf it (by simp)
    refine wpAny_pyNext_list_item st p.isList (x := u) (by simpa using hu) fun h' st' sb => ?_
    have I1 : Inv X pins σ H { s with heap := h' } := I.turned (t' := s.toks) (fun b o hb e => (sb.2 b hb).trans e) f0 f1 f3 f4 f5
    obtain ⟨o, e, c, d⟩ := id st'
    exact ⟨u, rfl, go_of (s := { s with heap := h' }) e c d (by decide) ⟨x, H, I1, ru, ⟨rfl, fun ys hy => by rw [I.list_inj hy hq]; exact hx⟩, st', fun b hb => (hf b hb).1⟩⟩
  done := by
    intro X hP hw hK hc i pins s σ H E I hf st hg
    subst hP hw hK
    obtain ⟨xs, hq, hx⟩ := hg
    obtain ⟨its, rv, p, hz⟩ := I.list hq
    obtain ⟨f0, f1, f2, f3, f4, f5⟩ := hf it (by simp)
    have hl := rv.length
    exact wpAny_pyNext_list_end (I.ok.hd hc) st p.isList (by simp; omega) fun h' eb => ⟨rfl, I.turned (t' := s.toks) (fun b o hb e => eb b o hb e) f0 f1 f3 f4 f5⟩
  self := fun _ _ _ _ _ st h => wpAny_pyIter_listiter st h
theorem turn_tuple {P : Program} {w : World} {K : PySem.W.Frag} {tg : Expr} (a it : Addr) : Turn P w K tg (Itt K a) [it] it (fun i h => h.IsTupleIter it a i) where
  mem := by simp
  obj := fun i h st b hb => by
    have e : b = it := by simpa using hb
    subst e
    obtain ⟨o, e, c, d⟩ := st
    exact ⟨o, e, fun v z => by rw [d] at z; cases z⟩
  keep := fun i h h' st k => st.at fun o e => k it (by simp) o e
  item := by
    intro X hP hw hK hc i pins s σ H E I hf st hg
    subst hP hw hK
    obtain ⟨xs, x, hq, hx⟩ := hg
    obtain ⟨its, rv, p, hz⟩ := I.tuple hq
    obtain ⟨u, hu, ru⟩ := rv.get hx
    obtain ⟨f0, f1, f2, f3, f4, f5⟩ := hf it (by simp)
    refine wpAny_pyNext_tuple_item st (show s.heap.IsTuple a its.toArray from p) (x := u) (by simpa using hu) fun h' st' sb => ?_
    have I1 : Inv X pins σ H { s with heap := h' } := I.turned (t' := s.toks) (fun b o hb e => (sb.2 b hb).trans e) f0 f1 f3 f4 f5
    obtain ⟨o, e, c, d⟩ := id st'
    exact ⟨u, rfl, go_of (s := { s with heap := h' }) e c d (by decide) ⟨x, H, I1, ru, ⟨rfl, fun ys hy => by rw [I.tuple_inj hy hq]; exact hx⟩, st', fun b hb => (hf b hb).1⟩⟩
  done := by
    intro X hP hw hK hc i pins s σ H E I hf st hg
    subst hP hw hK
    obtain ⟨xs, hq, hx⟩ := hg
    obtain ⟨its, rv, p, hz⟩ := I.tuple hq
    obtain ⟨f0, f1, f2, f3, f4, f5⟩ := hf it (by simp)
    have hl := rv.length
    exact wpAny_pyNext_tuple_end (I.ok.hd hc) st (show s.heap.IsTuple a its.toArray from p) (by simp; omega) fun h' eb => ⟨rfl, I.turned (t' := s.toks) (fun b o hb e => eb b o hb e) f0 f1 f3 f4 f5⟩
  self := fun _ _ _ _ _ st h => wpAny_pyIter_tupleiter st h
theorem turn_range {P : Program} {w : World} {K : PySem.W.Frag} {tg : Expr} (it : Addr) (lo : Int) (n : Nat) : Turn P w K tg (Itr lo n) [it] it (fun i h => IsRangeIter h it (lo + (i : Nat) * 1) ((n : Int) - (i : Nat)) 1) where
  mem := by simp
  obj := fun i h st b hb => by
    have e : b = it := by simpa using hb
    subst e
    exact ⟨_, st, fun v z => by
      have z' : Data.fields _ = Data.cell v := z
      cases z'⟩
  keep := fun i h h' st k => k it (by simp) _ st
  item := by
    intro X hP hw hK hc i pins s σ H E I hf st hg
    subst hP hw hK
    obtain ⟨f0, f1, f2, f3, f4, f5⟩ := hf it (by simp)
    have W := Walks.range (prog := X.prog) (w := X.w) (I.ok.hd hc) it lo 1 n
    refine W.item i s _ _ hg st fun v h' tk hv st' kk => ?_
    obtain ⟨t, rfl⟩ := hv
    have I1 : Inv X pins σ H { s with heap := h', toks := tk } := I.turned (fun b o hb e => kk b o (by simpa using hb) e) f0 f1 f3 f4 f5
    refine ⟨_, rfl, go_of (s := { s with heap := h', toks := tk }) (n := "range_iterator") st' rfl rfl (by decide) ⟨.int (lo + i), H, I1, ⟨t, ?_⟩, ⟨rfl, rfl⟩, st', fun b hb => (hf b hb).1⟩⟩
    rw [Int.mul_one]
  done := by
    intro X hP hw hK hc i pins s σ H E I hf st hg
    subst hP hw hK
    obtain ⟨f0, f1, f2, f3, f4, f5⟩ := hf it (by simp)
    exact wpAny_pyNext_range_end (I.ok.hd hc) st (by have : n ≤ i := hg; omega) fun h' eb => ⟨rfl, I.turned (t' := s.toks) (fun b o hb e => eb b o hb e) f0 f1 f3 f4 f5⟩
  self := fun _ _ _ _ _ st h => wpAny_pyIter_rangeiter st h
end L2
namespace L2
open PySem PySem.Spec PyProof.Rows
section
variable {X : Cx} {tg : Expr}
def iTup (K : PySem.W.Frag) (tl : TE) : TI := fun σ H R => tl σ H fun x H1 => ∃ a, x = .ref a ∧ (∃ xs, SqT K H1 a xs) ∧ R (Itt K a) H1
theorem pi_tup {l : Expr} {tl : TE} (hl : PE X l tl) : PI X tg l (iTup X.K tl) := by
  intro pins s σ H R I h
  refine thn (hl pins s σ H _ I h) fun v s1 ⟨x, H1, I1, r1, q1⟩ => ?_
  obtain ⟨a, e, ⟨xs, hq⟩, q⟩ := q1
  subst e
  cases r1
  obtain ⟨its, rv, p, hz⟩ := I1.tuple hq
  refine wpAny_pyIter_tuple (show s1.heap.IsTuple a its.toArray from p) ?_
  refine ⟨s1.heap.objs.size, [s1.heap.objs.size], _, _, H1, rfl, I1.kept (t' := s1.toks) fun b o e => Heap.get?_push_of_some _ e, turn_tuple a _, ⟨_, Heap.get?_push_size _ rfl, rfl, rfl⟩, fun b hb => ?_, q⟩
  have e : b = s1.heap.objs.size := by simpa using hb
  subst e
  exact I1.fpOk (Nat.le_refl _) (I1.hok.fresh (Nat.le_refl _))
theorem range_it {pins : List (Addr × Obj)} {σ : St} {H : Hp} {s : Shared} {R : It → Hp → Prop} {E : Value → Shared → Prop} {lo hi : Int} {t u v : Tok} {tk : Nat} (I : Inv X pins σ H s) (h1 : -(2 ^ 62) ≤ lo) (h2 : lo < 2 ^ 62) (h3 : -(2 ^ 62) ≤ hi) (h4 : hi < 2 ^ 62)
    (q : R (Itr lo (hi - lo).toNat) H) : wpAny (model X.prog X.w) X.A (pyIter (.ref s.heap.objs.size)) (PIE X pins σ tg R) E { s with heap := s.heap.push { cls := .type "range", data := .fields #[.int lo t, .int hi u, .int 1 v] }, toks := tk } := by
  refine wpAny_pyIter_range (IsRange.new ..) (small_one h1 h2 h3 h4) ?_
  have I1 : Inv X pins σ H { s with heap := s.heap.push { cls := .type "range", data := .fields #[.int lo t, .int hi u, .int 1 v] }, toks := tk } := I.kept fun b o e => Heap.get?_push_of_some _ e
  refine ⟨(s.heap.push { cls := .type "range", data := .fields #[.int lo t, .int hi u, .int 1 v] }).objs.size, [(s.heap.push { cls := .type "range", data := .fields #[.int lo t, .int hi u, .int 1 v] }).objs.size], _, _, H, rfl,
    I1.kept (t' := tk) fun b o e => Heap.get?_push_of_some _ e, turn_range _ lo (hi - lo).toNat, ?_, fun b hb => ?_, q⟩
  · have e1 : lo + ((0 : Nat) : Int) * 1 = lo := by simp
    have e2 : (((hi - lo).toNat : Nat) : Int) - ((0 : Nat) : Int) = Builtin.Range.rangeSize lo hi 1 := by rw [rangeSize_one]; split <;> omega
    show IsRangeIter _ _ (lo + ((0 : Nat) : Int) * 1) ((((hi - lo).toNat : Nat) : Int) - ((0 : Nat) : Int)) 1
    rw [e1, e2]
    exact Heap.get?_push_size _ rfl
  · have e : b = (s.heap.push { cls := .type "range", data := .fields #[.int lo t, .int hi u, .int 1 v] }).objs.size := by simpa using hb
    subst e
    exact I1.fpOk (Nat.le_refl _) (I1.hok.fresh (Nat.le_refl _))
def iRng1 (ta : TA) : TI := fun σ H R => ta σ H fun vs H1 => ∃ j : Int, vs = [.int j] ∧ -(2 ^ 62) ≤ j ∧ j < 2 ^ 62 ∧ R (Itr 0 j.toNat) H1
theorem pi_range1 {a : Expr} {ta : TA} {p pos : Pos} (hg : Gl X "range") (hm : X.mg "range" = none) (ha : PA X [a] ta) (hs : starEach [a] X.env = [(false, eval a X.env)] := by rfl) : PI X tg (.Call (.Name "range" p) [a] [] pos) (iRng1 ta) := by
  intro pins s σ H R I h
  refine Call_ (ld_blt I hg hm boot_range (PyProof.Rows.callWith_type1 (thn (ha pos pins s σ H _ I h) fun us s1 ⟨vs, H1, I1, r1, q1⟩ => ?_) hs rfl))
  obtain ⟨j, e, q1, q2, q⟩ := q1
  subst e
  cases r1 with
  | cons r rr =>
    cases rr
    obtain ⟨t, rfl⟩ := r
    exact call_range_1 (range_it I1 (by omega) (by omega) q1 q2 (by simpa using q))
def tFor (wi : TI) (g : TG) (tb : TS) : TS := fun D σ H => wi σ H fun J H1 => ∃ W : Nat → Nat → St → Hp → Prop, (∃ m, W 0 m σ H1) ∧ ∀ i m σ H, W i m σ H →
  (J.stop i H ∧ D.nx σ H) ∨ (J.go i H ∧ ∃ N : St → Hp → Prop, (∀ σ' H', N σ' H' → ∃ m', m' < m ∧ W (i + 1) m' σ' H') ∧ ∀ x H', J.yld i H x H' → g x σ H' fun σ2 H2 => tb { D with nx := N, ct := N, bk := D.nx } σ2 H2)
def pinsAt (fp : List Addr) (h : Heap) : List (Addr × Obj) := fp.filterMap fun b => (h.get? b).map fun o => (b, o)
theorem mem_pinsAt {fp : List Addr} {h : Heap} {b : Addr} {o : Obj} (hb : b ∈ fp) (e : h.get? b = some o) : (b, o) ∈ pinsAt fp h := List.mem_filterMap.mpr ⟨b, hb, by rw [e]; rfl⟩
theorem of_pinsAt {fp : List Addr} {h : Heap} {p : Addr × Obj} (hp : p ∈ pinsAt fp h) : p.1 ∈ fp ∧ h.get? p.1 = some p.2 := by
  obtain ⟨b, hb, e⟩ := List.mem_filterMap.mp hp
  cases q : h.get? b with
  | none => rw [q] at e; cases e
  | some o =>
    rw [q] at e
    have e' : (b, o) = p := Option.some.inj e
    subst e'
    exact ⟨hb, q⟩
theorem Inv.pinned {pins : List (Addr × Obj)} {σ : St} {H : Hp} {s : Shared} {fp : List Addr} (I : Inv X pins σ H s) (hf : ∀ b ∈ fp, FpOk X pins H b) (ho : ∀ b ∈ fp, ∃ o, s.heap.get? b = some o ∧ ∀ v, o.data ≠ .cell v) : Inv X (pins ++ pinsAt fp s.heap) σ H s :=
  I.pins_of fun p hp => (List.mem_append.mp hp).elim (fun z => I.pin p (List.mem_append_right _ z)) fun z => by
    obtain ⟨hb, e⟩ := of_pinsAt z
    obtain ⟨f0, f1, f2, _⟩ := hf p.1 hb
    obtain ⟨o, e', d⟩ := ho p.1 hb
    rw [e] at e'; cases e'
    exact ⟨e, f0, f1, f2, d⟩
theorem Inv.unpinned {pins pl : List (Addr × Obj)} {σ : St} {H : Hp} {s : Shared} (I : Inv X (pins ++ pl) σ H s) : Inv X pins σ H s := I.pins_of fun p hp => I.pin p (List.mem_append_right _ (List.mem_append_left _ hp))
theorem ps_for {iter : Expr} {body : List Stmt} {wi : TI} {g : TG} {tb : TS} {pos : Pos} (hp : PassesOwn (model X.prog X.w) X.A X.env X.xe) (hc : X.calm = true) (hi : PI X tg iter wi) (hg : PG X tg g) (hb : PSs X body tb)
    (hs : ∀ x, foldedSetIterable iter X.env x = pure x := by intro _; rfl) : PS X (.For tg iter body [] pos) (tFor wi g tb) := by
  intro pins s σ H D I h
  refine wpAny_For (thn (hi pins s σ H _ I h) fun v s1 h1 => thn h1 fun itv s2 h2 => ?_) hs
  obtain ⟨it, fp, tn, J, H2, e, I2, T, st2, f2, W, ⟨m0, w0⟩, turn⟩ := h2
  subst e
  have stat : ∀ {H' : Hp}, (∀ b ∈ fp, H' b = none) → ∀ b ∈ fp, FpOk X pins H' b := fun hn b hb => ⟨hn b hb, (f2 b hb).2⟩
  refine codeAny_forLoop_any (fun n s' => ∃ i σ' H', Inv X pins σ' H' s' ∧ tn i s'.heap ∧ (∀ b ∈ fp, H' b = none) ∧ W i n σ' H') ?_ m0 ⟨0, σ, H2, I2, st2, fun b hb => (f2 b hb).1, w0⟩
  rintro n s3 ⟨i, σ3, H3, I3, st3, fr3, w3⟩
  rcases turn i n σ3 H3 w3 with ⟨stop, qn⟩ | ⟨go, N, hN, step⟩
  · refine wpAny_passesOwn hp (thn (T.done X rfl rfl rfl hc i pins s3 σ3 H3 X.xe I3 (stat fr3) st3 stop) fun r s4 ⟨hr, I4⟩ => ?_)
    subst hr
    exact wpAny_execs_nil ⟨σ3, H3, I4, qn⟩
  · refine wpAny_passesOwn hp (thn (T.item X rfl rfl rfl hc i pins s3 σ3 H3 X.xe I3 (stat fr3) st3 go) fun r s4 ⟨u, hr, h4⟩ => ?_)
    subst hr
    refine wpAny_passesOwn hp (thn h4 fun _ s5 ⟨x, H5, I5, r5, y5, st5, fr5⟩ => ?_)
    have I5' := I5.pinned (stat fr5) (T.obj _ _ st5)
    refine wpAny_passesOwn hp (thn (hg _ s5 σ3 H5 x u _ I5' r5 (step x H5 y5)) fun _ s6 ⟨σ6, H6, I6, q6⟩ => ?_)
    refine wpAny_passesOwn hp (thn (hb _ s6 σ6 H6 _ I6 q6) fun f s7 q7 => ?_)
    have again : ∀ {σ7 : St} {H7 : Hp}, Inv X (pins ++ pinsAt fp s5.heap) σ7 H7 s7 → N σ7 H7 → ∃ m, m < n ∧ ∃ i σ' H', Inv X pins σ' H' s7 ∧ tn i s7.heap ∧ (∀ b ∈ fp, H' b = none) ∧ W i m σ' H' := fun {σ7 H7} I7 n7 => by
      obtain ⟨m', hm, w7⟩ := hN σ7 H7 n7
      refine ⟨m', hm, i + 1, σ7, H7, I7.unpinned, T.keep _ _ _ st5 fun b hb o e => (I7.pin (b, o) (List.mem_append_right _ (List.mem_append_right _ (mem_pinsAt hb e)))).1, fun b hb => ?_, w7⟩
      obtain ⟨o, e, d⟩ := T.obj _ _ st5 b hb
      exact (I7.pin (b, o) (List.mem_append_right _ (List.mem_append_right _ (mem_pinsAt hb e)))).2.1
    cases f with
    | next => obtain ⟨σ7, H7, I7, n7⟩ := q7; exact again I7 n7
    | cont => obtain ⟨σ7, H7, I7, n7⟩ := q7; exact again I7 n7
    | brk => obtain ⟨σ7, H7, I7, q7⟩ := q7; exact ⟨σ7, H7, I7.unpinned, q7⟩
    | ret v => obtain ⟨x7, σ7, H7, I7, r7, q7⟩ := q7; exact ⟨x7, σ7, H7, I7.unpinned, r7, q7⟩
end
theorem for_tup {K : PySem.W.Frag} {a : Addr} {xs : List V} {g : TG} {tb : TS} {D : Ends} {σ : St} {H : Hp} (Pv : Nat → St → Hp → Prop) (h0 : Pv 0 σ H) (hl : ∀ i σ H, i ≤ xs.length → Pv i σ H → SqT K H a xs)
    (hs : ∀ i x σ H, xs[i]? = some x → Pv i σ H → g x σ H fun σ2 H2 => tb { D with nx := Pv (i + 1), ct := Pv (i + 1), bk := D.nx } σ2 H2) (hd : ∀ σ H, Pv xs.length σ H → D.nx σ H) :
    ∃ W : Nat → Nat → St → Hp → Prop, (∃ m, W 0 m σ H) ∧ ∀ i m σ H, W i m σ H →
      ((Itt K a).stop i H ∧ D.nx σ H) ∨ ((Itt K a).go i H ∧ ∃ N : St → Hp → Prop, (∀ σ' H', N σ' H' → ∃ m', m' < m ∧ W (i + 1) m' σ' H') ∧ ∀ x H', (Itt K a).yld i H x H' → g x σ H' fun σ2 H2 => tb { D with nx := N, ct := N, bk := D.nx } σ2 H2) := by
  refine ⟨fun i m σ H => m = xs.length - i ∧ i ≤ xs.length ∧ Pv i σ H, ⟨xs.length, by simp, Nat.zero_le _, h0⟩, ?_⟩
  rintro i m σ H ⟨rfl, hi, p⟩
  have q := hl i σ H hi p
  by_cases hlt : i < xs.length
  · refine .inr ⟨⟨xs, xs[i], q, by simp [hlt]⟩, Pv (i + 1), fun σ' H' p' => ⟨xs.length - (i + 1), by omega, rfl, hlt, p'⟩, fun x H' y => ?_⟩
    obtain ⟨e, y⟩ := y
    subst e
    exact hs i x σ _ (y xs q) p
  · have e : i = xs.length := by omega
    subst e
    exact .inl ⟨⟨xs, q, Nat.le_refl _⟩, hd σ H p⟩
end L2
namespace L2
open PySem PySem.Spec PyProof.Rows
abbrev R2 := V → V → Hp → VK → Prop
def OpR (X : Cx) (f : Value → Value → Sem Value) (r : R2) : Prop :=
  ∀ (pins : List (Addr × Obj)) (s : Shared) (σ : St) (H : Hp) (x y : V) (v u : Value) (Q : VK), Inv X pins σ H s → RelV x v → RelV y u → r x y H Q →
    wpAny (model X.prog X.w) X.A (f v u) (EP X pins σ Q) X.xe s
def UnR (X : Cx) (f : Value → Sem Value) (r : V → Hp → VK → Prop) : Prop :=
  ∀ (pins : List (Addr × Obj)) (s : Shared) (σ : St) (H : Hp) (x : V) (v : Value) (Q : VK), Inv X pins σ H s → RelV x v → r x H Q →
    wpAny (model X.prog X.w) X.A (f v) (EP X pins σ Q) X.xe s
def CallR (X : Cx) (f : Value) (r : List V → Hp → VK → Prop) : Prop :=
  ∀ (pins : List (Addr × Obj)) (s : Shared) (σ : St) (H : Hp) (xs : List V) (us : List Value) (Q : VK), Inv X pins σ H s → Vals xs us → r xs H Q →
    wpAny (model X.prog X.w) X.A (call f us) (EP X pins σ Q) X.xe s
def TruR (X : Cx) (r : V → Hp → (Bool → Hp → Prop) → Prop) : Prop :=
  ∀ (pins : List (Addr × Obj)) (s : Shared) (σ : St) (H : Hp) (x : V) (v : Value) (Q : Bool → Hp → Prop), Inv X pins σ H s → RelV x v → r x H Q →
    wpAny (model X.prog X.w) X.A (truthy v) (TP X pins σ Q) X.xe s
def tOp (r : R2) (ta tb : TE) : TE := fun σ H Q => ta σ H fun x H1 => tb σ H1 fun y H2 => r x y H2 Q
def tUn (r : V → Hp → VK → Prop) (ta : TE) : TE := fun σ H Q => ta σ H fun x H1 => r x H1 Q
def rI (C : Int → Int → Prop) (g : Int → Int → V) : R2 := fun x y H Q => ∃ i j, x = .int i ∧ y = .int j ∧ C i j ∧ Q (g i j) H
def rI0 (g : Int → Int → V) : R2 := fun x y H Q => ∃ i j, x = .int i ∧ y = .int j ∧ Q (g i j) H
def rU (g : Int → V) : V → Hp → VK → Prop := fun x H Q => ∃ i, x = .int i ∧ Q (g i) H
section
variable {X : Cx} {a b c : Expr} {ta tb tc : TE} {pos : Pos}
theorem binT (ha : PE X a ta) (hb : PE X b tb) {pins : List (Addr × Obj)} {s : Shared} {σ : St} {H : Hp} {R : V → V → Hp → Prop} (I : Inv X pins σ H s)
    (h : ta σ H fun x H1 => tb σ H1 fun y H2 => R x y H2) {Q : Value → Shared → Prop} {f : Value → Value → Sem Value}
    (hf : ∀ v u s2 x y H2, Inv X pins σ H2 s2 → RelV x v → RelV y u → R x y H2 → wpAny (model X.prog X.w) X.A (f v u) Q X.xe s2) :
    wpAny (model X.prog X.w) X.A (eval a X.env) (fun v s₁ => wpAny (model X.prog X.w) X.A (eval b X.env) (fun u s₂ => wpAny (model X.prog X.w) X.A (f v u) Q X.xe s₂) X.xe s₁) X.xe s := by
  refine thn (ha pins s σ H _ I h) fun v s1 ⟨x, H1, I1, r1, q1⟩ => ?_
  refine thn (hb pins s1 σ H1 _ I1 q1) fun u s2 ⟨y, H2, I2, r2, q2⟩ => ?_
  exact hf v u s2 x y H2 I2 r1 r2 q2
theorem pe_op {op : Operator} {r : R2} (ho : OpR X (binaryOp op) r) (ha : PE X a ta) (hb : PE X b tb) : PE X (.BinOp a op b pos) (tOp r ta tb) := by
  intro pins s σ H Q I h
  exact wpAny_BinOp (binT ha hb I h fun v u s2 x y H2 I2 rx ry q => ho pins s2 σ H2 x y v u Q I2 rx ry q)
theorem pe_un {op : UnaryOp} {r : V → Hp → VK → Prop} (ho : UnR X (unaryOp op) r) (ha : PE X a ta) : PE X (.UnaryOp op a pos) (tUn r ta) := by
  intro pins s σ H Q I h
  exact UnaryOp_ (thn (ha pins s σ H _ I h) fun v s1 ⟨x, H1, I1, r1, q1⟩ => ho pins s1 σ H1 x v Q I1 r1 q1)
theorem opI {f : Value → Value → Sem Value} {C : Int → Int → Prop} {g : Int → Int → Int}
    (rule : ∀ (i j : Int) (t u : Tok) (s : Shared) (Q : Value → Shared → Prop) (E : Value → Shared → Prop), C i j → Q (.int (g i j) s.toks) { s with toks := s.toks + 1 } → wpAny (model X.prog X.w) X.A (f (.int i t) (.int j u)) Q E s) :
    OpR X f (rI C fun i j => .int (g i j)) := by
  intro pins s σ H x y v u Q I rx ry h
  obtain ⟨i, j, rfl, rfl, hc, q⟩ := h
  obtain ⟨t, rfl⟩ := rx
  obtain ⟨t', rfl⟩ := ry
  exact rule i j t t' s _ _ hc ⟨.int (g i j), H, I.tok _, ⟨_, rfl⟩, q⟩
theorem opI0 {f : Value → Value → Sem Value} {g : Int → Int → Int}
    (rule : ∀ (i j : Int) (t u : Tok) (s : Shared) (Q : Value → Shared → Prop) (E : Value → Shared → Prop), Q (.int (g i j) s.toks) { s with toks := s.toks + 1 } → wpAny (model X.prog X.w) X.A (f (.int i t) (.int j u)) Q E s) :
    OpR X f (rI0 fun i j => .int (g i j)) := by
  intro pins s σ H x y v u Q I rx ry h
  obtain ⟨i, j, rfl, rfl, q⟩ := h
  obtain ⟨t, rfl⟩ := rx
  obtain ⟨t', rfl⟩ := ry
  exact rule i j t t' s _ _ ⟨.int (g i j), H, I.tok _, ⟨_, rfl⟩, q⟩
theorem opB0 {f : Value → Value → Sem Value} {g : Int → Int → Bool}
    (rule : ∀ (i j : Int) (t u : Tok) (s : Shared) (Q : Value → Shared → Prop) (E : Value → Shared → Prop), Q (.bool (g i j)) s → wpAny (model X.prog X.w) X.A (f (.int i t) (.int j u)) Q E s) :
    OpR X f (rI0 fun i j => .bl (g i j)) := by
  intro pins s σ H x y v u Q I rx ry h
  obtain ⟨i, j, rfl, rfl, q⟩ := h
  obtain ⟨t, rfl⟩ := rx
  obtain ⟨t', rfl⟩ := ry
  exact rule i j t t' s _ _ ⟨.bl (g i j), H, I, rfl, q⟩
def CDiv (i j : Int) : Prop := 0 < j ∧ j < 1073741824
def CMul (i j : Int) : Prop := (-(2 ^ 64) < i ∧ i < 2 ^ 64) ∨ (-(2 ^ 64) < j ∧ j < 2 ^ 64)
theorem CMul.ok {i j : Int} (h : CMul i j) : IntMulOk i j := by
  rcases h with ⟨h1, h2⟩ | ⟨h1, h2⟩
  · exact .of_left (intBits_le_64 h1 h2)
  · exact .of_right (intBits_le_64 h1 h2)
theorem op_add : OpR X (binaryOp .Add) (rI0 fun i j => .int (i + j)) := opI0 fun _ _ _ _ _ _ _ q => add_int q
theorem op_sub : OpR X (binaryOp .Sub) (rI0 fun i j => .int (i - j)) := opI0 fun _ _ _ _ _ _ _ q => sub_int q
theorem op_mul : OpR X (binaryOp .Mult) (rI CMul fun i j => .int (i * j)) := opI fun _ _ _ _ _ _ _ hc q => mul_int q hc.ok
theorem op_fdiv : OpR X (binaryOp .FloorDiv) (rI CDiv fun i j => .int (i / j)) := opI fun i j _ _ _ _ _ hc q => by
  have h1 : (0 : Int) < j := hc.1
  have h2 : j < 1073741824 := hc.2
  exact floordiv_int (by omega) (by rw [Int.fdiv_eq_ediv_of_nonneg i (by omega)]; exact q) (.inl (PyProof.noPylong_small (by omega)))
theorem op_mod : OpR X (binaryOp .Mod) (rI (fun _ j => 0 < j) fun i j => .int (i % j)) := opI fun i j _ _ _ _ _ hc q => by
  have h1 : (0 : Int) < j := hc
  exact mod_int' (by omega) (by rw [Int.fmod_eq_emod_of_nonneg i (by omega)]; exact q)
theorem unI {f : Value → Sem Value} {g : Int → Int}
    (rule : ∀ (i : Int) (t : Tok) (s : Shared) (Q : Value → Shared → Prop) (E : Value → Shared → Prop), Q (.int (g i) s.toks) { s with toks := s.toks + 1 } → wpAny (model X.prog X.w) X.A (f (.int i t)) Q E s) :
    UnR X f (rU fun i => .int (g i)) := by
  intro pins s σ H x v Q I rx h
  obtain ⟨i, rfl, q⟩ := h
  obtain ⟨t, rfl⟩ := rx
  exact rule i t s _ _ ⟨.int (g i), H, I.tok _, ⟨_, rfl⟩, q⟩
theorem un_neg : UnR X (unaryOp .USub) (rU fun i => .int (-i)) := unI fun _ _ _ _ _ q => neg_int q
end
def scal : V → V → Bool
  | .non, .non => true | .non, .int _ => true | .int _, .non => true | .non, .bl _ => true | .bl _, .non => true | .non, .str _ => true | .str _, .non => true
  | .int _, .int _ => true | .bl _, .bl _ => true | .str _, .str _ => true | .byt _, .byt _ => true
  | .int _, .str _ => true | .str _, .int _ => true | .bl _, .str _ => true | .str _, .bl _ => true
  | _, _ => false
def rEq : R2 := fun x y H Q => scal x y = true ∧ Q (.bl (decide (x = y))) H
theorem dec_int {i j : Int} : decide (V.int i = V.int j) = (i == j) := by
  rw [Bool.eq_iff_iff]
  simp
theorem dec_bl {i j : Bool} : decide (V.bl i = V.bl j) = (i == j) := by
  rw [Bool.eq_iff_iff]
  simp
theorem dec_str {i j : Str} : decide (V.str i = V.str j) = (i == j) := by
  rw [Bool.eq_iff_iff]
  simp
theorem dec_byt {i j : Array UInt8} : decide (V.byt i = V.byt j) = (i.toList == j.toList) := by
  rw [Bool.eq_iff_iff]
  cases i
  cases j
  simp
section
variable {X : Cx} {a b c : Expr} {ta tb tc : TE} {pos : Pos}
theorem fin_bl {pins : List (Addr × Obj)} {σ : St} {H : Hp} {s : Shared} {Q : VK} {k k' : Bool} (I : Inv X pins σ H s) (q : Q (.bl k) H) (e : k = k') : EP X pins σ Q (.bool k') s := by
  subst e
  exact ⟨.bl k, H, I, rfl, q⟩
theorem op_eq : OpR X (compareOp .Eq) rEq := by
  intro pins s σ H x y v u Q I rx ry h
  obtain ⟨hs, q⟩ := h
  cases x with
  | non =>
    cases rx
    cases y with
    | non => cases ry; exact PySem.EqNone.eq_none_none (fin_bl I q (by simp))
    | bl j => cases ry; exact PySem.EqNone.eq_none_bool (fin_bl I q (by simp))
    | int j => obtain ⟨t', rfl⟩ := ry; exact PySem.EqNone.eq_none_int (fin_bl I q (by simp))
    | str j => obtain ⟨t', rfl⟩ := ry; exact PySem.EqNone.eq_none_str (fin_bl I q (by simp))
    | _ => exact absurd (show false = true from hs) Bool.false_ne_true
  | bl i =>
    cases rx
    cases y with
    | non => cases ry; exact PySem.EqNone.eq_bool_none (fin_bl I q (by simp))
    | bl j => cases ry; exact eq_bool (fin_bl I q dec_bl)
    | str j => obtain ⟨t', rfl⟩ := ry; exact PySem.EqMixed.eq_bool_str (fin_bl I q (by simp))
    | _ => exact absurd (show false = true from hs) Bool.false_ne_true
  | int i =>
    obtain ⟨t, rfl⟩ := rx
    cases y with
    | non => cases ry; exact PySem.EqNone.eq_int_none (fin_bl I q (by simp))
    | int j => obtain ⟨t', rfl⟩ := ry; exact eq_int (fin_bl I q dec_int)
    | str j => obtain ⟨t', rfl⟩ := ry; exact PySem.EqMixed.eq_int_str (fin_bl I q (by simp))
    | _ => exact absurd (show false = true from hs) Bool.false_ne_true
  | str i =>
    obtain ⟨t, rfl⟩ := rx
    cases y with
    | non => cases ry; exact PySem.EqNone.eq_str_none (fin_bl I q (by simp))
    | bl j => cases ry; exact PySem.EqMixed.eq_str_bool (fin_bl I q (by simp))
    | int j => obtain ⟨t', rfl⟩ := ry; exact PySem.EqMixed.eq_str_int (fin_bl I q (by simp))
    | str j => obtain ⟨t', rfl⟩ := ry; exact eq_str (fin_bl I q dec_str)
    | _ => exact absurd (show false = true from hs) Bool.false_ne_true
  | byt i =>
    obtain ⟨t, rfl⟩ := rx
    cases y with
    | byt j => obtain ⟨t', rfl⟩ := ry; exact PySem.W.eq_bytes (fin_bl I q dec_byt)
    | _ => exact absurd (show false = true from hs) Bool.false_ne_true
  | _ => cases y <;> exact absurd (show false = true from hs) Bool.false_ne_true
theorem op_lt : OpR X (compareOp .Lt) (rI0 fun i j => .bl (decide (i < j))) := opB0 fun _ _ _ _ _ _ _ q => lt_int q
theorem op_le : OpR X (compareOp .LtE) (rI0 fun i j => .bl (decide (i ≤ j))) := opB0 fun _ _ _ _ _ _ _ q => le_int q
theorem op_gt : OpR X (compareOp .Gt) (rI0 fun i j => .bl (decide (j < i))) := opB0 fun _ _ _ _ _ _ _ q => gt_int q
theorem OpR.or {f : Value → Value → Sem Value} {r r' : R2} (h : OpR X f r) (h' : OpR X f r') : OpR X f (fun x y H Q => r x y H Q ∨ r' x y H Q) := by
  intro pins s σ H x y v u Q I rx ry q
  rcases q with q | q
  · exact h pins s σ H x y v u Q I rx ry q
  · exact h' pins s σ H x y v u Q I rx ry q
theorem nomark (b : Expr) {op : CmpOp} (h : op ≠ .In := by decide) (h2 : op ≠ .NotIn := by decide) : behindInMarks op b = false := by
  have e1 : (op == CmpOp.In) = false := by cases op <;> first | rfl | exact absurd rfl h
  have e2 : (op == CmpOp.NotIn) = false := by cases op <;> first | rfl | exact absurd rfl h2
  cases b <;> simp [behindInMarks, e1, e2]
theorem pe_cmpR {op : CmpOp} {r : R2} (ho : OpR X (compareOp op) r) (ha : PE X a ta) (hb : PE X b tb) (hm : behindInMarks op b = false) : PE X (.Compare a [op] [b] pos) (tOp r ta tb) := by
  intro pins s σ H Q I h
  exact wpAny_Compare1 (binT ha hb I h fun v u s2 x y H2 I2 rx ry q => ho pins s2 σ H2 x y v u Q I2 rx ry q) hm
def tTest (t : TE) : TT := fun σ H Q => t σ H fun x H' => ∃ k, x = .bl k ∧ Q k H'
theorem pt_cmpR {op : CmpOp} {r : R2} (ho : OpR X (compareOp op) r) (ha : PE X a ta) (hb : PE X b tb) (hm : behindInMarks op b = false) : PT X (.Compare a [op] [b] pos) (tTest (tOp r ta tb)) := by
  intro pins s σ H Q I h
  refine wpAny_isTrue_Compare1 (thn (ha pins s σ H _ I h) fun v s1 ⟨x, H1, I1, r1, q1⟩ => thn (hb pins s1 σ H1 _ I1 q1) fun u s2 ⟨y, H2, I2, r2, q2⟩ =>
    thn (ho pins s2 σ H2 x y v u _ I2 r1 r2 q2) fun c s3 ⟨z, H3, I3, r3, k, e, q3⟩ => ?_) hm
  subst e
  cases r3
  exact wpAny_truthy_bool ⟨H3, I3, q3⟩
def tChain (r r' : R2) (ta tb tc : TE) : TE := fun σ H Q => ta σ H fun x H1 => tb σ H1 fun y H2 => r x y H2 fun z H3 => ∃ k, z = .bl k ∧
  (if k = true then tc σ H3 fun w' H4 => r' y w' H4 Q else Q (.bl false) H3)
theorem pe_chain {op op' : CmpOp} {r r' : R2} (ho : OpR X (compareOp op) r) (ho' : OpR X (compareOp op') r') (ha : PE X a ta) (hb : PE X b tb) (hc : PE X c tc)
    (hm : lastMarks [op, op'] [b, c] = false := by with_unfolding_all rfl) : PE X (.Compare a [op, op'] [b, c] pos) (tChain r r' ta tb tc) := by
  intro pins s σ H Q I h
  refine Compare_chain (thn (ha pins s σ H _ I h) fun v s1 ⟨x, H1, I1, r1, q1⟩ => chain_link (thn (hb pins s1 σ H1 _ I1 q1) fun u s2 ⟨y, H2, I2, r2, q2⟩ =>
    thn (ho pins s2 σ H2 x y v u _ I2 r1 r2 q2) fun d s3 ⟨z, H3, I3, r3, k, e, q3⟩ => ?_)) hm
  subst e
  cases r3
  refine wpAny_truthy_bool ?_
  cases k with
  | false => exact ite_ff ⟨.bl false, H3, I3, rfl, q3⟩
  | true => exact ite_tt (chain_last (thn (hc pins s3 σ H3 _ I3 q3) fun w' s4 ⟨z', H4, I4, r4, q4⟩ => ho' pins s4 σ H4 y z' u w' Q I4 r2 r4 q4))
theorem pt_chain {op op' : CmpOp} {r r' : R2} (ho : OpR X (compareOp op) r) (ho' : OpR X (compareOp op') r') (ha : PE X a ta) (hb : PE X b tb) (hc : PE X c tc)
    (hm : lastMarks [op, op'] [b, c] = false := by with_unfolding_all rfl) : PT X (.Compare a [op, op'] [b, c] pos) (tTest (tChain r r' ta tb tc)) := by
  intro pins s σ H Q I h
  refine isTrue_chain (thn (ha pins s σ H _ I h) fun v s1 ⟨x, H1, I1, r1, q1⟩ => test_link (thn (hb pins s1 σ H1 _ I1 q1) fun u s2 ⟨y, H2, I2, r2, q2⟩ =>
    thn (ho pins s2 σ H2 x y v u _ I2 r1 r2 q2) fun d s3 ⟨z, H3, I3, r3, k, e, q3⟩ => ?_)) hm
  subst e
  cases r3
  refine wpAny_truthy_bool ?_
  cases k with
  | false =>
    obtain ⟨k', e', q'⟩ := q3
    cases e'
    exact ite_ff ⟨H3, I3, q'⟩
  | true =>
    refine ite_tt (test_last (thn (hc pins s3 σ H3 _ I3 q3) fun w' s4 ⟨z', H4, I4, r4, q4⟩ => thn (ho' pins s4 σ H4 y z' u w' _ I4 r2 r4 q4) fun d' s5 ⟨z2, H5, I5, r5, k2, e2, q5⟩ => ?_))
    subst e2
    cases r5
    exact wpAny_truthy_bool ⟨H5, I5, q5⟩
def TruV (K : PySem.W.Frag) (x : V) (H : Hp) (k : Bool) : Prop :=
  match x with
  | .non => k = false
  | .bl b => k = b
  | .int i => k = (i != 0)
  | .str y => y.length ≤ sizeLine ∧ k = ((y.length : Int) != 0)
  | .byt y => y.size ≤ sizeLine ∧ k = ((y.size : Int) != 0)
  | .ref p => (∃ xs, SqL K H p xs ∧ k = !xs.isEmpty) ∨ (∃ xs, SqT K H p xs ∧ k = !xs.isEmpty) ∨ ∃ kvs, H p = some (.dK kvs) ∧ k = !kvs.isEmpty
  | _ => False
theorem isEmpty_kv {κ : Type} {kvs : List (κ × V)} {vs : List (κ × Value)} (r : KV kvs vs) : (!vs.isEmpty) = !kvs.isEmpty := by
  cases r <;> rfl
theorem isEmpty_of {xs : List V} {its : List Value} (r : Vals xs its) : (!its.toArray.isEmpty) = !xs.isEmpty := by
  cases r <;> simp
theorem line63 : (sizeLine : Nat) < 2 ^ 63 := by rw [sizeLine_eq]; decide
theorem tru_ok : TruR X (fun x H Q => ∃ k, TruV X.K x H k ∧ Q k H) := by
  intro pins s σ H x v Q I rx h
  obtain ⟨k, e, q⟩ := h
  have hl := line63
  have hs : sizeLine = 16777216 := sizeLine_eq
  cases x with
  | non =>
    cases rx
    have e' : k = false := e
    subst e'
    exact truthy_none ⟨H, I, q⟩
  | bl b =>
    cases rx
    have e' : k = b := e
    subst e'
    exact wpAny_truthy_bool ⟨H, I, q⟩
  | int i =>
    obtain ⟨t, rfl⟩ := rx
    have e' : k = (i != 0) := e
    subst e'
    exact PySem.P.truthy_int ⟨H, I, q⟩
  | str y =>
    obtain ⟨t, rfl⟩ := rx
    obtain ⟨hy, e'⟩ : y.length ≤ sizeLine ∧ k = ((y.length : Int) != 0) := e
    subst e'
    exact PySem.P.truthy_str (by omega) ⟨H, I.tok _, q⟩
  | byt y =>
    obtain ⟨t, rfl⟩ := rx
    obtain ⟨hy, e'⟩ : y.size ≤ sizeLine ∧ k = ((y.size : Int) != 0) := e
    subst e'
    exact PySem.W.truthy_bytes (by omega) ⟨H, I.tok _, q⟩
  | ref p =>
    cases rx
    have e' : (∃ xs, SqL X.K H p xs ∧ k = !xs.isEmpty) ∨ (∃ xs, SqT X.K H p xs ∧ k = !xs.isEmpty) ∨ ∃ kvs, H p = some (.dK kvs) ∧ k = !kvs.isEmpty := e
    rcases e' with ⟨xs, hx, e'⟩ | ⟨xs, hx, e'⟩ | ⟨kvs, hx, e'⟩
    · subst e'
      obtain ⟨its, r, pl, hz⟩ := I.list hx
      have hlen := r.length
      exact wpAny_truthy_list pl.isList (by simp only [List.size_toArray]; omega) ⟨H, I.tok _, by rw [isEmpty_of r]; exact q⟩
    · subst e'
      obtain ⟨its, r, pl, hz⟩ := I.tuple hx
      have hlen := r.length
      exact truthy_tuple pl (by simp only [List.size_toArray]; omega) ⟨H, I.tok _, by rw [isEmpty_of r]; exact q⟩
    · subst e'
      obtain ⟨hz, hS, vs, r, m⟩ : kvs.length ≤ sizeLine ∧ (p == sysModules) = false ∧ ∃ vs, KV kvs vs ∧ s.heap.DictOf (mixKind X.prog X.w) p vs := I.hok p _ hx
      have hlen : kvs.length = vs.length := Paired.length r
      exact wpAny_truthy_dict hS m (by omega) ⟨H, I.tok _, by rw [isEmpty_kv r]; exact q⟩
  | _ => exact (show False from e).elim
theorem pt_truth (ha : PE X a ta) (he : ∀ whole, isTrue a X.env whole = (do let v ← whole; standAt a.pos; holding [v] (truthy v))) :
    PT X a (fun σ H Q => ta σ H fun x H' => ∃ k, TruV X.K x H' k ∧ Q k H') := by
  intro pins s σ H Q I h
  exact isTrue_plain (thn (ha pins s σ H _ I h) fun v s1 ⟨x, H1, I1, r1, q1⟩ => tru_ok pins s1 σ H1 x v Q I1 r1 q1) (he _)
theorem vals1 {x : V} {us : List Value} (r : Vals [x] us) : ∃ u, us = [u] ∧ RelV x u := by
  cases r with
  | cons r1 r2 => cases r2; exact ⟨_, rfl, r1⟩
theorem vals2 {x y : V} {us : List Value} (r : Vals [x, y] us) : ∃ u w', us = [u, w'] ∧ RelV x u ∧ RelV y w' := by
  cases r with
  | cons r1 r2 =>
    cases r2 with
    | cons r3 r4 => cases r4; exact ⟨_, _, rfl, r1, r3⟩
end
end L2
namespace L2
open PySem PySem.Spec PyProof.Rows
structure ObjM (h : Heap) (x dx C : Addr) (mA : Str → Option Value) : Prop where
  obj : h.get? x = some (PySem.W.instObj C dx)
  ns : h.Ns1 dx mA
  ne : dx ≠ x
theorem lookIn_ns {h : Heap} {dx : Addr} {mA : Str → Option Value} (n : h.Ns1 dx mA) : ∃ od, h.get? dx = some od ∧ ∀ name, PySem.W.lookIn name od = some (mA name) := by
  obtain ⟨o, es, ep, ho, hd, hk, _, hm⟩ := n
  refine ⟨o, ho, fun name => ?_⟩
  have e := hm name
  unfold nsFind findBy at e
  rw [← Array.find?_toList] at e
  unfold PySem.W.lookIn
  rw [hd]
  dsimp only
  split
  · rename_i y q
    rw [q] at e
    exact congrArg some e
  · rename_i q
    rw [q] at e
    have a : es.toList.any (·.refKey) = false := by
      rw [List.any_eq_false]
      intro y hy
      obtain ⟨z, t, hkey⟩ := hk y (Array.mem_toList_iff.mp hy)
      simp [DictEntry.refKey, hkey]
    have a' : ¬ es.toList.any (·.refKey) = true := by rw [a]; exact Bool.false_ne_true
    rw [if_neg a']
    exact congrArg some e
theorem ObjM.look {h : Heap} {x dx C : Addr} {mA : Str → Option Value} (I : ObjM h x dx C mA) : ∃ od, PySem.W.InstAt h x (PySem.W.instObj C dx) C (some od) ∧ ∀ name, PySem.W.lookIn name od = some (mA name) :=
  let ⟨od, ho, hl⟩ := lookIn_ns I.ns
  ⟨od, ⟨I.obj, rfl, rfl, ho⟩, hl⟩
section
variable {prog : Program} {w : World} {A : Around} {E : Value → Shared → Prop} {s : Shared} {K : PySem.W.Frag} {x dx C f : Addr} {mA : Str → Option Value} {name : Str} {v : Value}
end
theorem RelO.none_of {o : Option Value} (r : RelO none o) : o = none := by
  cases o with
  | none => rfl
  | some u => exact (show False from r).elim
section
variable {P : Program} {w : World} {H H' : Hp} {h h' : Heap} {a C dx : Addr} {fs fs' : List (Str × V)}
theorem ins_get (hok : HOk P w H h) (e : H a = some (.ins C dx fs)) : ∃ mA, ObjM h a dx C mA ∧ (∀ f, RelO (fs.lookup f) (mA f)) ∧ PySem.Within mA (fs.map (·.1)) ∧ fs.length ≤ 1000 ∧ H dx = some (.own a) := by
  obtain ⟨d, z, ne, ob, mA, n, r, q⟩ := (show ObjOk P w H h a (.ins C dx fs) from hok a _ e)
  exact ⟨mA, ⟨ob, n, ne⟩, r, q, z, d⟩
end
structure Cls (K : PySem.W.Frag) (C : Addr) : Prop where
  pg : PySem.W.plainGet K C Str.empty = true
  hd : PySem.W.hasDictIn K C = true
  po : PySem.W.plainOver K C = true
  sa : PySem.W.findIn K (.ref C) "__setattr__" = some (some (.builtin "object.__setattr__"))
theorem Cls.get {K : PySem.W.Frag} {C : Addr} (c : Cls K C) (f : Str) : PySem.W.plainGet K C f = true := c.pg
structure Con (K : PySem.W.Frag) (C : Addr) (f : Str) (v : V) (u : Value) : Prop where
  at_ : PySem.W.findIn K (.ref C) f = some (some u)
  rel : RelV v u
  get : PySem.W.specialIn K u "__get__" = some none
  cp : PySem.W.copiedNames.contains f = false
structure Meth (K : PySem.W.Frag) (C : Addr) (m : Str) (f : Addr) : Prop where
  at_ : PySem.W.findIn K (.ref C) m = some (some (.ref f))
  fn : PySem.W.isFn K (.ref f) = true
  kp : PySem.W.keepIn K (.ref f) = true
section
variable {X : Cx} {pins : List (Addr × Obj)} {σ : St} {H : Hp} {s : Shared} {a C dx : Addr} {fs : List (Str × V)} {f : Str} {v : V} {A : Around} {E : Value → Shared → Prop}
end
section
variable {X : Cx} {o e value : Expr} {f : Str} {pos pos' tpos : Pos} {ta tv : TE}
end
section
variable {X : Cx} {pins : List (Addr × Obj)} {σ : St} {H : Hp} {s : Shared} {A : Around} {E : Value → Shared → Prop} {Q : Value → Shared → Prop} {c : Value} {b : Bool}
inductive TyOf (K : PySem.W.Frag) (H : Hp) : V → Value → Prop where
  | non : TyOf K H .non (.type "NoneType")
  | bl (x : Bool) : TyOf K H (.bl x) (.type "bool")
  | int (i : Int) : TyOf K H (.int i) (.type "int")
  | str (x : Str) : TyOf K H (.str x) (.type "str")
  | flt (x : UInt64) : TyOf K H (.flt x) (.type "float")
  | lst {a : Addr} {xs : List V} (e : H a = some (.lst xs)) : TyOf K H (.ref a) (.type "list")
  | frz {a : Addr} {o : Obj} {xs : List V} (e : H a = some (.frz o (.lst xs))) : TyOf K H (.ref a) (.type "list")
  | tup {a : Addr} {xs : List V} (e : H a = some (.tup xs)) : TyOf K H (.ref a) (.type "tuple")
  | dK {a : Addr} {kvs : List (Key × V)} (e : H a = some (.dK kvs)) : TyOf K H (.ref a) (.type "dict")
  | dT {a : Addr} {kvs : List (List Key × V)} (e : H a = some (.dT kvs)) : TyOf K H (.ref a) (.type "dict")
  | ins {a C dx : Addr} {fs : List (Str × V)} (e : H a = some (.ins C dx fs)) (cl : Cls K C) (ha : PySem.W.findIn K (.ref C) "__class__" = some (some (.builtin "object.__class__")))
      (hn : PySem.W.specialIn K (.builtin "object.__class__") "__get__" = some (some (.builtin "getset_descriptor.__get__"))) (htk : PySem.W.takesIn K (.builtin "object.__class__") = some true)
      (hm : PySem.W.mroIn K C (.type "object") = some true) : TyOf K H (.ref a) (.ref C)
theorem isinst_ok {x : V} {u t : Value} (I : Inv X pins σ H s) (rx : RelV x u) (ty : TyOf X.K H x t) (e : PySem.W.kitOne X.K t c = some b) (h : ∀ tk, Q (.bool b) { s with toks := tk }) :
    wpAny (model X.prog X.w) A (call (.builtin "isinstance") [u, c]) Q E s := by
  cases ty with
  | non => cases (show u = Value.none from rx); exact PySem.W.kia_one PySem.W.kitx_none I.kIn True.intro e (fun z => nomatch z) h
  | bl y => cases (show u = Value.bool y from rx); exact PySem.W.kia_one PySem.W.kitx_bool I.kIn True.intro e (fun z => nomatch z) h
  | int i => obtain ⟨t, q⟩ := (show ∃ t, u = Value.int i t from rx); cases q; exact PySem.W.kia_one PySem.W.kitx_int I.kIn True.intro e (fun z => nomatch z) h
  | str y => obtain ⟨t, q⟩ := (show ∃ t, u = Value.str y t from rx); cases q; exact PySem.W.kia_one PySem.W.kitx_str I.kIn True.intro e (fun z => nomatch z) h
  | flt y => obtain ⟨t, q⟩ := (show ∃ t, u = Value.float y t from rx); cases q; exact PySem.W.kia_one PySem.W.kitx_float I.kIn True.intro e (fun z => nomatch z) h
  | @lst a xs ea =>
    cases (show u = Value.ref a from rx)
    obtain ⟨_, _, n, _, h1⟩ := (show ObjOk X.prog X.w H s.heap a (.lst xs) from I.hok a _ ea)
    exact PySem.W.kia_one PySem.W.kitx_list I.kIn ⟨_, h1, rfl⟩ e (fun z => nomatch z) h
  | @frz a ob xs ea =>
    cases (show u = Value.ref a from rx)
    obtain ⟨_, _, _, n, _, h1⟩ := (show ObjOk X.prog X.w H s.heap a (.frz ob (.lst xs)) from I.hok a _ ea)
    exact PySem.W.kia_one PySem.W.kitx_list I.kIn ⟨_, h1, rfl⟩ e (fun z => nomatch z) h
  | @tup a xs ea =>
    cases (show u = Value.ref a from rx)
    obtain ⟨_, _, _, p⟩ := (show ObjOk X.prog X.w H s.heap a (.tup xs) from I.hok a _ ea)
    obtain ⟨o, h1, h2, _⟩ := p.up
    exact PySem.W.kia_one PySem.W.kitx_tuple I.kIn ⟨o, h1, h2⟩ e (fun z => nomatch z) h
  | @dK a kvs ea =>
    cases (show u = Value.ref a from rx)
    obtain ⟨_, _, vs, _, p⟩ := (show ObjOk X.prog X.w H s.heap a (.dK kvs) from I.hok a _ ea)
    obtain ⟨o, es, ep, h1, h2, _⟩ := p
    exact PySem.W.kia_one PySem.W.kitx_dict I.kIn ⟨o, h1, h2.1⟩ e (fun z => nomatch z) h
  | @dT a kvs ea =>
    cases (show u = Value.ref a from rx)
    obtain ⟨_, _, xs, _, o, es, ep, h1, h2, _⟩ := (show ObjOk X.prog X.w H s.heap a (.dT kvs) from I.hok a _ ea)
    exact PySem.W.kia_one PySem.W.kitx_dict I.kIn ⟨o, h1, h2.1⟩ e (fun z => nomatch z) h
  | @ins a C dx fs ea cl ha hn htk hm =>
    cases (show u = Value.ref a from rx)
    obtain ⟨mA, O, _⟩ := ins_get I.hok ea
    obtain ⟨od, J, _⟩ := O.look
    exact PySem.W.kia_one (PySem.W.kitx_own (cl.get _) cl.hd ha hn htk hm) I.kIn J e (fun z => nomatch z) h
end
end L2
namespace L2
open PySem PySem.Spec PyProof.Rows
structure Room (k : Nat) (A : Around) : Prop where
  hd : A.handled = none
  dp : A.depth + 3 * k + 5 < recursionLimit
  un : A.units + 16 * k + 200 < cLine
theorem Room.mono {j k : Nat} {A : Around} (r : Room k A) (h : j ≤ k) : Room j A := ⟨r.hd, by have := r.dp; omega, by have := r.un; omega⟩
theorem Room.deeper {k : Nat} {A : Around} (r : Room (k + 1) A) (env : Env) : Room k (A.deeper env) :=
  ⟨r.hd, by have := r.dp; show A.depth + 1 + 3 * k + 5 < _; omega, by have := r.un; show A.units + 3 + 16 * k + 200 < _; omega⟩
theorem Room.in1 {k : Nat} {A : Around} (r : Room (k + 1) A) : Room k A.in1 :=
  ⟨r.hd, by have := r.dp; show A.depth + 3 * k + 5 < _; omega, by have := r.un; show A.units + 1 + 16 * k + 200 < _; omega⟩
theorem Room.depth {k : Nat} {A : Around} (r : Room k A) : A.depth < recursionLimit := by have := r.dp; omega
theorem Room.units {k : Nat} {A : Around} (r : Room k A) : A.units + 64 < cLine := by have := r.un; omega
def tNil : TA := fun _ H Q => Q [] H
def tCons (ta : TE) (tr : TA) : TA := fun σ H Q => ta σ H fun x H1 => tr σ H1 fun xs H2 => Q (x :: xs) H2
section
variable {X : Cx} {e : Expr} {es : List Expr} {te : TE} {t : TA} {pos : Pos}
theorem pa_nil : PA X [] tNil := fun _ _ _ _ H Q I h => Calls.spliced_nil ⟨[], H, I, .nil, h⟩
theorem pa_cons (ha : PE X e te) (hr : PA X es t) (hs : starEach (e :: es) X.env = (false, eval e X.env) :: starEach es X.env := by rfl) : PA X (e :: es) (tCons te t) := by
  intro pos pins s σ H Q I h
  rw [hs]
  show wpAny _ _ (spliced ((false, eval e X.env) :: backTo pos (starEach es X.env))) _ _ s
  refine Calls.spliced_cons (thn (ha pins s σ H _ I h) fun u s1 ⟨x, H1, I1, r1, q1⟩ => ?_)
  exact thn (hr pos pins s1 σ H1 _ I1 q1) fun us s2 ⟨xs, H2, I2, r2, q2⟩ => ⟨x :: xs, H2, I2, .cons r1 r2, q2⟩
def tTup (t : TA) : TE := fun σ H Q => t σ H fun xs H1 => xs.length ≤ sizeLine ∧ ∀ p, H1 p = none → Q (.ref p) (upd H1 p (.tup xs))
def tLst (t : TA) : TE := fun σ H Q => t σ H fun xs H1 => xs.length ≤ sizeLine ∧ ∀ p, H1 p = none → Q (.ref p) (upd H1 p (.lst xs))
theorem pe_tup {x1} (h : PA X es t) : PE X (.Tuple es x1 pos) (tTup t) := by
  intro pins s σ H Q I hq
  refine wpAny_Tuple_spliced (thn (h pos pins s σ H _ I hq) fun us s1 ⟨xs, H1, I1, r, z, q⟩ => ⟨by rw [← r.length]; exact z, ?_⟩)
  have hf : H1 s1.heap.objs.size = none := I1.hok.fresh (Nat.le_refl _)
  refine ⟨.ref s1.heap.objs.size, upd H1 s1.heap.objs.size (.tup xs), I1.laid (t' := s1.toks) (fun b u e => Heap.get?_push_of_some _ e) (Nat.le_refl _) ?_, rfl, q _ hf⟩
  exact ⟨z, us, r, IsTupD.new _ _⟩
theorem pe_lst (h : PA X es t) : PE X (.List es pos) (tLst t) := by
  intro pins s σ H Q I hq
  refine wpAny_List_spliced (thn (h pos pins s σ H _ I hq) fun us s1 ⟨xs, H1, I1, r, z, q⟩ => ⟨by rw [← r.length]; exact z, ?_⟩)
  have hf : H1 s1.heap.objs.size = none := I1.hok.fresh (Nat.le_refl _)
  refine ⟨.ref s1.heap.objs.size, upd H1 s1.heap.objs.size (.lst xs), I1.laid (t' := s1.toks) (fun b u e => Heap.get?_push_of_some _ e) (Nat.le_refl _) ?_, rfl, q _ hf⟩
  exact ⟨z, us, 0, r, Heap.get?_push_size _ rfl⟩
end
abbrev Sp := List V → Hp → VK → XK → Prop
abbrev CXT := List Env → Hp → Shared → XK → Value → Shared → Prop
structure Env0 (P : Program) (w : World) (K : PySem.W.Frag) (mg : Str → Option Value) (base : Heap) (A : Around) (outer : List Env) (s : Shared) (H : Hp) : Prop where
  frames : A.frames = some outer
  mod : Mod K mg base
  bs : ∀ b o, base.get? b = some o → s.heap.get? b = some o ∧ H b = none
  bsz : base.objs.size ≤ s.heap.objs.size
  funs : s.heap.FunFrames base outer
  frf : ∀ b ∈ frs outer, H b = none
  hok : HOk P w H s.heap
  bare : AllBare s.gens
def CE (outer : List Env) (P : Program) (w : World) (H : Hp) (s : Shared) (Q : VK) (u : Value) (s' : Shared) : Prop :=
  ∃ v H', s'.os = s.os ∧ AllBare s'.gens ∧ Un (frs outer) [] H H' s.heap s'.heap ∧ HOk P w H' s'.heap ∧ RelV v u ∧ Q v H'
def CR (CX : CXT) (outer : List Env) (P : Program) (w : World) (H : Hp) (s : Shared) (Q : VK) (E : XK) (r : Result) (s' : Shared) : Prop :=
  match r with
  | .ok (.ret u) => CE outer P w H s Q u s'
  | .ok _ => False
  | .error e => CX outer H s E e s'
structure FnOk (P : Program) (w : World) (K : PySem.W.Frag) (mg : Str → Option Value) (base : Heap) (CX : CXT) (k : Nat) (f : Addr) (fd : FuncData) (ps : List Str) (sp : Sp) : Prop where
  len : ∀ vs H Q E, sp vs H Q E → vs.length = ps.length
  run : ∀ (A : Around) (outer : List Env) (s : Shared) (H : Hp) (args : Args) (us : List Value) (vs : List V) (Q : VK) (E : XK), Room k A → Env0 P w K mg base A outer s H → BindsTo s fd args (ps.zip us) → Vals vs us → sp vs H Q E →
    codeAny (model P w) A (.call (.ref f) args) (CR CX outer P w H s Q E) s
theorem FnOk.mono {P : Program} {w : World} {K : PySem.W.Frag} {mg : Str → Option Value} {base : Heap} {CX : CXT} {j k : Nat} {f : Addr} {fd : FuncData} {ps : List Str} {sp : Sp} (F : FnOk P w K mg base CX j f fd ps sp) (h : j ≤ k) :
    FnOk P w K mg base CX k f fd ps sp := ⟨F.len, fun A outer s H args us vs Q E hr => F.run A outer s H args us vs Q E (hr.mono h)⟩
theorem FnOk.imp {P : Program} {w : World} {K : PySem.W.Frag} {mg : Str → Option Value} {base : Heap} {CX : CXT} {k : Nat} {f : Addr} {fd : FuncData} {ps : List Str} {sp sp' : Sp} (F : FnOk P w K mg base CX k f fd ps sp)
    (h : ∀ vs H Q E, sp' vs H Q E → sp vs H Q E) : FnOk P w K mg base CX k f fd ps sp' :=
  ⟨fun vs H Q E q => F.len vs H Q E (h _ _ _ _ q), fun A outer s H args us vs Q E hr he hb hv hs => F.run A outer s H args us vs Q E hr he hb hv (h _ _ _ _ hs)⟩
theorem Env0.in1 {P : Program} {w : World} {K : PySem.W.Frag} {mg : Str → Option Value} {base : Heap} {A : Around} {outer : List Env} {s : Shared} {H : Hp} (e : Env0 P w K mg base A outer s H) :
    Env0 P w K mg base A.in1 outer s H := ⟨e.frames, e.mod, e.bs, e.bsz, e.funs, e.frf, e.hok, e.bare⟩
section
variable {X : Cx} {pins : List (Addr × Obj)} {σ : St} {H : Hp} {s s' : Shared}
theorem Inv.env0 (I : Inv X pins σ H s) : Env0 X.prog X.w X.K X.mg X.base X.A X.stack s H :=
  ⟨I.ok.frames, I.ok.mod, I.bs, Nat.le_trans I.ok.bsz I.sz, I.stack, I.stkFree, I.hok, I.bare⟩
theorem Inv.after {Q : VK} {u : Value} (I : Inv X pins σ H s) (h : CE X.stack X.prog X.w H s Q u s') : EP X pins σ Q u s' := by
  obtain ⟨v, H', os, bare, un, hok, r, q⟩ := h
  obtain ⟨hh, g, d, t, os'⟩ := s'
  obtain rfl : os' = s.os := os
  exact ⟨v, H', I.call (h' := hh) (g' := g) (d' := d) (t' := t) (ch := []) un hok bare (fun b z => absurd z (by simp)), r, q⟩
end
def tCall (sp : Sp) (dvs : List V) (E : XK) (t : TA) : TE := fun σ H Q => t σ H fun vs H1 => sp (vs ++ dvs) H1 Q E
def Binds (K : PySem.W.Frag) (fd : FuncData) (ps : List Str) (ds : List Value) : Prop :=
  ∀ (s : Shared) (us : List Value), K.In s.heap → (us ++ ds).length = ps.length → BindsTo s fd ⟨us, []⟩ (ps.zip (us ++ ds))
theorem Binds.all {K : PySem.W.Frag} {fd : FuncData} {ps : List Str} (h : ∀ us : List Value, us.length = ps.length → bindArgs fd ⟨us, []⟩ = pure (ps.zip us)) : Binds K fd ps [] := fun s us _ hl => by
  rw [List.append_nil] at hl ⊢
  exact .of_eq (h us hl)
def Passes (CX : CXT) (X : Cx) (E : XK) : Prop := ∀ (pins : List (Addr × Obj)) (σ : St) (H : Hp) (s : Shared) (e : Value) (s' : Shared), Inv X pins σ H s → CX X.stack H s E e s' → X.xe e s'
section
variable {X : Cx} {CX : CXT} {k : Nat} {f C : Addr} {fd : FuncData} {ps : List Str} {sp : Sp} {dvs : List V} {ds : List Value} {E : XK} {x m : Str} {p pos apos : Pos} {e o : Expr} {es : List Expr} {ta : TE} {t : TA}
theorem run_fn {pins : List (Addr × Obj)} {σ : St} {H : Hp} {s : Shared} {Q : VK} {us : List Value} {vs : List V} (F : FnOk X.prog X.w X.K X.mg X.base CX k f fd ps sp) (hr : Room k X.A) (hb : Binds X.K fd ps ds) (hd : Vals dvs ds) (hx : Passes CX X E)
    (I : Inv X pins σ H s) (r : Vals vs us) (h : sp (vs ++ dvs) H Q E) : wpAny (model X.prog X.w) X.A (call (.ref f) us) (EP X pins σ Q) X.xe s := by
  have r2 : Vals (vs ++ dvs) (us ++ ds) := r.append hd
  have hl : (us ++ ds).length = ps.length := by rw [← r2.length]; exact F.len _ _ _ _ h
  refine wpAny_call (codeAny_mono (F.run X.A X.stack s H ⟨us, []⟩ (us ++ ds) (vs ++ dvs) Q E hr I.env0 (hb s us I.kIn hl) r2 h) fun r s' hq => ?_)
  cases r with
  | error e => exact hx pins σ H s e s' I hq
  | ok fl =>
    cases fl with
    | ret u => exact I.after hq
    | next => exact False.elim hq
    | brk => exact False.elim hq
    | cont => exact False.elim hq
theorem pe_call (F : FnOk X.prog X.w X.K X.mg X.base CX k f fd ps sp) (hr : Room k X.A) (hg : Gl X x) (hm : X.mg x = some (.ref f)) (hk : PySem.W.keepIn X.K (.ref f) = true) (hb : Binds X.K fd ps ds) (hd : Vals dvs ds) (hx : Passes CX X E)
    (ha : PA X (e :: es) t) (hdb : (x == ("__debug__" : Str)) = false := by decide) (he : starEach (e :: es) X.env = (false, eval e X.env) :: starEach es X.env := by rfl) (hpl : (backTo pos (starEach es X.env)).any (·.1) = false := by rfl) :
    PE X (.Call (.Name x p) (e :: es) [] pos) (tCall sp dvs E t) := by
  intro pins s σ H Q I h
  refine wpAny_Call_Name_kw (ld_glob I hg hm ?_ hdb)
  refine PySem.W.callWith_K (h₀ := X.base) I.ok.mod.kin hk (thn (ha pos pins s σ H _ I h) fun us s1 ⟨vs, H1, I1, r, q⟩ => ⟨I1.kIn, ?_⟩) he hpl
  exact run_fn F hr hb hd hx I1 r q
structure Mk (K : PySem.W.Frag) (C f : Addr) : Prop where
  makes : PySem.W.makesIn K C = true
  init : PySem.W.findIn K (.ref C) "__init__" = some (some (.ref f))
  fn : PySem.W.isFn K (.ref f) = true
  kp : PySem.W.keepIn K (.ref C) = true
end
section
variable {X : Cx} {CX : CXT} {k : Nat} {f C : Addr} {fd : FuncData} {ps ks : List Str} {sp : Sp} {E : XK} {x m : Str} {p pos apos kpos : Pos} {e o : Expr} {es : List Expr} {kws : List Keyword} {te ta : TE} {t tk : TA} {nm : Option Str}
structure KBinds (K : PySem.W.Frag) (fd : FuncData) (ps ks : List Str) (g : List Value → List Value → List Value) (gV : List V → List V → List V) : Prop where
  to : ∀ (s : Shared) (us ws : List Value), K.In s.heap → (g us ws).length = ps.length → BindsTo s fd ⟨us, ks.zip ws⟩ (ps.zip (g us ws))
  rel : ∀ {vs : List V} {us : List Value} {zs : List V} {ws : List Value}, Vals vs us → Vals zs ws → Vals (gV vs zs) (g us ws)
variable {g : List Value → List Value → List Value} {gV : List V → List V → List V}
end
structure FnScope (N P : List Str) (sc : Scope) : Prop where
  kind : sc.kind = .function
  co : sc.isCoroutine = false
  gen : sc.isGenerator = false
  nd : N.Nodup
  pre : N.take P.length = P
  par : ∀ x ∈ P, sc.names.lookup x = some .local ∨ sc.names.lookup x = some .cell
  nofree : ∀ y ∈ sc.names, y.2 ≠ .free
theorem bindL_out {kindOf : Str → Option NameKind} {x : Str} : ∀ {binds : List (Str × Value)} {m : Str → Option Value}, (∀ v, (x, v) ∉ binds) → bindL kindOf binds m x = m x
  | [], _, _ => rfl
  | (n, v) :: r, m, h => by
    unfold bindL
    rw [bindL_out fun w hw => h w (List.mem_cons_of_mem _ hw)]
    split
    · have : x ≠ n := by rintro rfl; exact h v List.mem_cons_self
      simp [this]
    · rfl
theorem bindC_out {kindOf : Str → Option NameKind} {x : Str} : ∀ {binds : List (Str × Value)} {m : Str → Option Value}, (∀ v, (x, v) ∉ binds) → bindC kindOf binds m x = m x
  | [], _, _ => rfl
  | (n, v) :: r, m, h => by
    unfold bindC
    rw [bindC_out fun w hw => h w (List.mem_cons_of_mem _ hw)]
    split
    · rfl
    · have : x ≠ n := by rintro rfl; exact h v List.mem_cons_self
      simp [this]
theorem bindL_get {kindOf : Str → Option NameKind} {x : Str} {v : Value} : ∀ {P : List Str} {vs : List Value} {i : Nat} {m : Str → Option Value}, P.Nodup → P[i]? = some x → vs[i]? = some v → kindOf x = some .local →
    bindL kindOf (P.zip vs) m x = some v
  | [], _, _, _, _, h, _, _ => by simp at h
  | _ :: _, [], _, _, _, _, h, _ => by simp at h
  | p :: P, w :: vs, 0, m, nd, h1, h2, hk => by
    simp at h1 h2; subst h1; subst h2
    show bindL kindOf ((p, w) :: P.zip vs) m p = _
    unfold bindL
    rw [bindL_out fun v hv => (List.nodup_cons.mp nd).1 (List.of_mem_zip hv).1, if_pos hk]
    simp
  | p :: P, w :: vs, i + 1, m, nd, h1, h2, hk => by
    show bindL kindOf ((p, w) :: P.zip vs) m x = _
    unfold bindL
    exact bindL_get (i := i) (List.nodup_cons.mp nd).2 (by simpa using h1) (by simpa using h2) hk
theorem bindC_get {kindOf : Str → Option NameKind} {x : Str} {v : Value} : ∀ {P : List Str} {vs : List Value} {i : Nat} {m : Str → Option Value}, P.Nodup → P[i]? = some x → vs[i]? = some v → kindOf x ≠ some .local →
    bindC kindOf (P.zip vs) m x = some v
  | [], _, _, _, _, h, _, _ => by simp at h
  | _ :: _, [], _, _, _, _, h, _ => by simp at h
  | p :: P, w :: vs, 0, m, nd, h1, h2, hk => by
    simp at h1 h2; subst h1; subst h2
    show bindC kindOf ((p, w) :: P.zip vs) m p = _
    unfold bindC
    rw [bindC_out fun v hv => (List.nodup_cons.mp nd).1 (List.of_mem_zip hv).1, if_neg hk]
    simp
  | p :: P, w :: vs, i + 1, m, nd, h1, h2, hk => by
    show bindC kindOf ((p, w) :: P.zip vs) m x = _
    unfold bindC
    exact bindC_get (i := i) (List.nodup_cons.mp nd).2 (by simpa using h1) (by simpa using h2) hk
def start (N : List Str) (vs : List V) : St := vs.map some ++ List.replicate (N.length - vs.length) none
def cxOf (CX : CXT) (P : Program) (w : World) (K : PySem.W.Frag) (mg : Str → Option Value) (base : Heap) (N : List Str) (qual : Str) (scope : Scope) (f : Addr) (cd : Value) (A : Around) (outer : List Env) (s : Shared) (H : Hp) (E : XK) : Cx where
  prog := P
  w := w
  K := K
  mg := mg
  base := base
  A := A.deeper (envOfC qual scope s.heap.objs.size f cd)
  N := N
  s₀ := s
  H₀ := H
  env := envOfC qual scope s.heap.objs.size f cd
  outer := outer
  stack := envOfC qual scope s.heap.objs.size f cd :: outer
  ex := []
  calm := true
  fn := fun _ => true
  pn := []
  xe := fun e s' => wpAny (model P w) (A.deeper (envOfC qual scope s.heap.objs.size f cd)) (leaving (envOfC qual scope s.heap.objs.size f cd) e) (fun _ s'' => CX outer H s E e s'') (fun e' s'' => CX outer H s E e' s'') s'
theorem cell_has {sc : Scope} {n : Nat} {x : Str} (h : sc.names.lookup x = some .cell) : ∃ c, (cellsFrom n sc.names []).lookup x = some c := by
  have q := PySem.W.cellsFrom_some sc.names n [] (.inl h)
  exact Option.isSome_iff_exists.mp q
theorem inv_start {CX : CXT} {P : Program} {w : World} {K : PySem.W.Frag} {mg : Str → Option Value} {base : Heap} {N ps : List Str} {qual : Str} {scope : Scope} {f : Addr} {cd : Value} {A : Around} {outer : List Env} {s s1 : Shared} {H : Hp} {E : XK} {us : List Value} {vs : List V}
    (S : FnScope N ps scope) (hd : A.handled = none) (e0 : Env0 P w K mg base A outer s H) (hl : vs.length = ps.length) (r : Vals vs us)
    (x : InCallC s s.heap.objs.size (bindL (envOfC qual scope s.heap.objs.size f cd).kindOf (ps.zip us) fun _ => none) (cellsFrom (s.heap.objs.size + 1) scope.names []) (bindC (envOfC qual scope s.heap.objs.size f cd).kindOf (ps.zip us) fun _ => none) s1) :
    Inv (cxOf CX P w K mg base N qual scope f cd A outer s H E) [] (start N vs) H s1 := by
  have hpl : ps.length ≤ N.length := by have := congrArg List.length S.pre; rw [List.length_take] at this; omega
  obtain ⟨h1, tk, rfl, hk⟩ := x.done
  have noA : ∀ b : Addr, b ∉ (cxOf CX P w K mg base N qual scope f cd A outer s H E).ex := fun b z => absurd (show b ∈ ([] : List Addr) from z) (by simp)
  refine ⟨⟨e0.mod, S.kind, rfl, rfl, Nat.le_refl _, fun y z c h1 h2 => ?_, fun y hy => ?_, fun y c _ h => ?_, fun _ => hd, Around.frames_deeper e0.frames, .inr ⟨rfl, rfl⟩, fun b z => absurd z (noA b), e0.bs, e0.bsz, fun b _ _ => noA b, fun b z => absurd z (noA b), e0.funs, e0.frf⟩,
    rfl, e0.bare, Un.kept hk, ⟨_, x.toInCall.ns, fun i y v h1 h2 h3 => ?_⟩, fun y c h => ⟨_, x.cell y c h⟩, e0.hok.fresh (Nat.le_refl _), fun y c h => ?_, fun p hp => absurd (show p ∈ ([] : List (Addr × Obj)) from hp) (by simp), e0.hok.kept hk, ?_⟩
  · exact name_of_addr x.apart (PySem.mem_of_lookup h1) (PySem.mem_of_lookup h2)
  · have hy : scope.names.lookup y = some .cell ∨ scope.names.lookup y = some .free := hy
    rcases hy with hy | hy
    · exact cell_has hy
    · exact absurd rfl (S.nofree _ (PySem.mem_of_lookup hy))
  · exact Nat.le_of_lt (x.above y c (PySem.mem_of_lookup h))
  · have hi : i < vs.length := by
      unfold start at h2
      by_cases hi : i < vs.length
      · exact hi
      · rw [List.getElem?_append_right (by simpa using hi)] at h2
        rw [List.getElem?_replicate] at h2
        split at h2 <;> cases h2
    have ha : vs[i]? = some v := by
      unfold start at h2
      rw [List.getElem?_append_left (by simpa using hi), List.getElem?_map] at h2
      cases e : vs[i]? with
      | none => rw [e] at h2; cases h2
      | some a => rw [e] at h2; cases h2; rfl
    obtain ⟨u, hu, rv⟩ := r.get ha
    have hp : ps[i]? = some y := by
      rw [← S.pre, List.getElem?_take_of_lt (by omega)]; exact h1
    have ndP : ps.Nodup := by rw [← S.pre]; exact S.nd.sublist (List.take_sublist _ _)
    refine ⟨u, rv, ?_⟩
    rcases S.par y (List.mem_of_getElem? hp) with k | k
    · exact .inl ⟨k, bindL_get ndP hp hu k⟩
    · obtain ⟨c, e⟩ := cell_has (n := s.heap.objs.size + 1) k
      refine .inr ⟨.inl k, c, e, ?_⟩
      have q := x.cell y c e
      rw [bindC_get ndP hp hu (by show scope.names.lookup y ≠ _; rw [k]; decide)] at q
      exact q
  · exact e0.hok.fresh (Nat.le_of_lt (x.above y c (PySem.mem_of_lookup h)))
  · unfold start
    show _ = N.length
    rw [List.length_append, List.length_map, List.length_replicate]
    omega
theorem fn_of {CX : CXT} {P : Program} {w : World} {K : PySem.W.Frag} {mg : Str → Option Value} {base : Heap} {k : Nat} {f : Addr} {name qual : Str} {params : Arguments} {body : List Stmt} {scope : Scope} {dV kV doc pm cdv ct oc : Value} {an od : Option Addr}
    {osl : Array (Option Value)} {N ps : List Str} {sp : Sp} (lk : K.lookup f = some ⟨oc, od, .func (PySem.W.fnOf name qual params body scope dV kV doc pm an cdv ct), osl⟩) (hcd : PySem.W.codeIn K cdv qual = true) (S : FnScope N ps scope)
    (len : ∀ vs H Q E, sp vs H Q E → vs.length = ps.length)
    (hbody : ∀ (A : Around) (outer : List Env) (s : Shared) (H : Hp) (vs : List V) (Q : VK) (E : XK), Room k (A.deeper (envOfC qual scope s.heap.objs.size f cdv)) → sp vs H Q E →
      ∃ t, PSs (cxOf CX P w K mg base N qual scope f cdv A outer s H E) body t ∧ t { nx := fun _ H' => Q .non H', rt := Q } (start N vs) H) :
    FnOk P w K mg base CX (k + 1) f (PySem.W.fnOf name qual params body scope dV kV doc pm an cdv ct) ps sp := by
  refine ⟨len, fun A outer s H args us vs Q E hr e0 hb r hsp => ?_⟩
  have hl := len _ _ _ _ hsp
  have KX : K.In s.heap := e0.mod.kin.keeps fun b o e => (e0.bs b o e).1
  have lim : s.heap.NoLimit := e0.mod.nolimit.keeps fun b o e => (e0.bs b o e).1
  have hkind : ∀ y ∈ ps.zip us, scope.names.lookup y.1 = some .local ∨ (scope.names.lookup y.1 = some .cell ∧ ((cellsFrom (s.heap.objs.size + 1) scope.names []).lookup y.1).isSome = true) := fun ⟨n, v⟩ hy => by
    rcases S.par n (List.of_mem_zip hy).1 with q | q
    · exact .inl q
    · exact .inr ⟨q, PySem.W.cellsFrom_some _ _ _ (.inl q)⟩
  refine codeAny_call_function hr.depth (KX _ _ lk) rfl S.co S.gen rfl (PySem.W.codeRec_of KX hcd) (hb _ _ _ _ ?_)
  refine wpAny_newFunctionEnv_cells S.kind hkind fun env he s1 x => ?_
  subst he
  refine ⟨lim.keeps x.toInCall.keep, codeAny_func ?_⟩
  obtain ⟨t, ht, hq⟩ := hbody A outer s H vs Q E (hr.deeper _) hsp
  have I : Inv (cxOf CX P w K mg base N qual scope f cdv A outer s H E) [] (start N vs) H s1 := inv_start S hr.hd e0 hl r x
  refine wpAny_mono (ht [] s1 (start N vs) H _ I hq) (fun fl s' hs => ?_) fun e s' hs => hs
  have fin : ∀ {σ' : St} {H' : Hp} {v : V} {u : Value}, Inv (cxOf CX P w K mg base N qual scope f cdv A outer s H E) [] σ' H' s' → RelV v u → Q v H' → CE outer P w H s Q u s' :=
    fun {σ' H' v u} J rv q => ⟨v, H', J.os, J.bare, J.base, J.hok, rv, q⟩
  cases fl with
  | ret u =>
    obtain ⟨v, σ', H', J, rv, q⟩ := hs
    exact fin J rv q
  | next =>
    obtain ⟨σ', H', J, q⟩ := hs
    exact fin (v := V.non) (u := Value.none) J rfl q
  | brk =>
    obtain ⟨_, _, _, q⟩ := hs
    exact False.elim q
  | cont =>
    obtain ⟨_, _, _, q⟩ := hs
    exact False.elim q
end L2
namespace L2
open PySem PySem.Spec PyProof.Rows
section
variable {X : Cx} {x : Str} {p pos : Pos} {e : Expr} {es : List Expr} {t : TA} {id T : String} {r : List V → Hp → VK → Prop}
def tCB (r : List V → Hp → VK → Prop) (t : TA) : TE := fun σ H Q => t σ H fun vs H1 => r vs H1 Q
theorem pe_callB (hc : CallR X (.builtin id) r) (hg : Gl X x) (hm : X.mg x = none) (hv : bootBuiltins x = some (.builtin id)) (ha : PA X (e :: es) t) (hn : x ≠ "__name__" := by decide) (hdb : (x == ("__debug__" : Str)) = false := by decide)
    (he : starEach (e :: es) X.env = (false, eval e X.env) :: starEach es X.env := by rfl) (hpl : (backTo pos (starEach es X.env)).any (·.1) = false := by rfl) : PE X (.Call (.Name x p) (e :: es) [] pos) (tCB r t) := by
  intro pins s σ H Q I h
  refine wpAny_Call_Name_kw (ld_blt I hg hm hv ?_ hn hdb)
  exact PyProof.Rows.callWith_builtin1 (thn (ha pos pins s σ H _ I h) fun us s1 ⟨vs, H1, I1, r1, q1⟩ => hc pins s1 σ H1 vs us Q I1 r1 q1) he hpl
theorem pe_callTy (hc : CallR X (.type T) r) (hg : Gl X x) (hm : X.mg x = none) (hv : bootBuiltins x = some (.type T)) (ha : PA X (e :: es) t) (hn : x ≠ "__name__" := by decide) (hdb : (x == ("__debug__" : Str)) = false := by decide)
    (he : starEach (e :: es) X.env = (false, eval e X.env) :: starEach es X.env := by rfl) (hpl : (backTo pos (starEach es X.env)).any (·.1) = false := by rfl) : PE X (.Call (.Name x p) (e :: es) [] pos) (tCB r t) := by
  intro pins s σ H Q I h
  refine wpAny_Call_Name_kw (ld_blt I hg hm hv ?_ hn hdb)
  exact PyProof.Rows.callWith_type1 (thn (ha pos pins s σ H _ I h) fun us s1 ⟨vs, H1, I1, r1, q1⟩ => hc pins s1 σ H1 vs us Q I1 r1 q1) he hpl
end
end L2
namespace HT
open PySem PyProof.Rows
section
open PySem.SeqAt
open PySem.AutoSeq1 (wpAny_loadPart')
open PySem.MeetsSeq PySem.MeetsSeq2 PySem.MeetsSeq3
end
section
variable {prog : Program} {w : World} {A : Around} {E : Value → Shared → Prop} {s : Shared}
theorem cat_tup {t b : Addr} {vs ws : List Value} {Q : Value → Shared → Prop} (ht : IsTup s.heap t vs.toArray) (hb : IsTup s.heap b ws.toArray) (hv : vs ≠ [])
    (h1 : ws = [] → Q (.ref t) s) (h2 : ws ≠ [] → Q (.ref s.heap.objs.size) { s with heap := s.heap.push { cls := .type "tuple", data := .seq (vs ++ ws).toArray } })
    (hsz : vs.length + ws.length ≤ sizeLine) : wpAny (model prog w) A (binaryOp .Add (.ref t) (.ref b)) Q E s := by
  obtain ⟨⟨cls, dd, data, sl⟩, ho, hc, n, hd⟩ := id ht
  obtain ⟨⟨cls2, dd2, data2, sl2⟩, ho2, hc2, n2, hd2⟩ := id hb
  simp only at hc hd hc2 hd2
  subst hc hd hc2 hd2
  have e : vs.toArray ++ ws.toArray = (vs ++ ws).toArray := by simp
  by_cases hw : ws = []
  · exact concat_meets ⟨_, ho, rfl⟩ ⟨_, ho2, rfl⟩ noFill_tuple_add seq_tuple_add PySem.F.slot_tuple_add PySem.F.entry_tuple_add (PySem.F.args_tuple_add_2 _ _)
      (tuple_addW1 t b vs.toArray ws.toArray n n2 dd dd2 sl sl2 (by simpa using hv) (by simp [hw])) ⟨ho, ho2, h1 hw⟩
  · refine concat_meets ⟨_, ho, rfl⟩ ⟨_, ho2, rfl⟩ noFill_tuple_add seq_tuple_add PySem.F.slot_tuple_add PySem.F.entry_tuple_add (PySem.F.args_tuple_add_2 _ _)
      (tuple_addW2 t b vs.toArray ws.toArray n n2 dd dd2 sl sl2 (by simpa using hv) (by simpa using hw) (by rw [List.size_toArray, List.size_toArray]; exact hsz)) ⟨ho, ho2, ?_⟩
    rw [e]
    exact h2 hw
def sIx (n d : Nat) : Option Int → Nat
  | none => d
  | some v => if v < 0 then (v + (n : Int)).toNat else min v.toNat n
theorem sIx_le (n d : Nat) (hd : d ≤ n) (o : Option Int) : sIx n d o ≤ n := by
  cases o with
  | none => exact hd
  | some v =>
    show (if v < 0 then (v + (n : Int)).toNat else min v.toNat n) ≤ n
    by_cases hv : v < 0
    · rw [if_pos hv]; omega
    · rw [if_neg hv]; exact Nat.min_le_right _ _
theorem clip_eq (v : Int) (n d : Nat) : (if v < 0 then max (v + (n : Int)) 0 else min v (n : Int)) = ((sIx n d (some v) : Nat) : Int) := by
  show (if v < 0 then max (v + (n : Int)) 0 else min v (n : Int)) = (((if v < 0 then (v + (n : Int)).toNat else min v.toNat n) : Nat) : Int)
  by_cases hv : v < 0
  · simp only [if_pos hv]; omega
  · simp only [if_neg hv]; omega
theorem adjust_gen (lo hi : Option Int) (n : Nat) : Builtin.Slice.sliceAdjust lo hi 1 (n : Int) = (((sIx n 0 lo : Nat) : Int), ((sIx n n hi : Nat) : Int)) := by
  have h1 : ¬ ((1 : Int) < 0) := by omega
  unfold Builtin.Slice.sliceAdjust
  simp only [h1, if_false]
  refine Prod.ext ?_ ?_
  · cases lo with
    | none => rfl
    | some v => exact clip_eq v n 0
  · cases hi with
    | none => rfl
    | some v => exact clip_eq v n n
theorem places_gen (i j : Nat) : Builtin.Slice.slicePlaces (i : Int) (j : Int) 1 = j - i := by
  unfold Builtin.Slice.slicePlaces
  have h1 : (1 : Int) > 0 := by omega
  simp only [h1, if_true, Int.ediv_one]
  split <;> omega
theorem slicePart_ {v : Value} {o : Option Int} {Q : Option Int → Shared → Prop} (p : IsPart v o) (h : Q o s) : wpAny (model prog w) A (Builtin.Slice.slicePartIndex v) Q E s := by
  cases p with
  | none => exact slicePart_none h
  | int i t => exact slicePart_int h
theorem sliceApplied_gen {sl : Addr} {vl vu : Value} {lo hi : Option Int} {n : Nat} {Q : Int × Int × Nat → Shared → Prop} (hs : s.heap.IsSliceOf sl vl vu .none) (pl : IsPart vl lo) (pu : IsPart vu hi)
    (h : Q (((sIx n 0 lo : Nat) : Int), 1, sIx n n hi - sIx n 0 lo) s) : wpAny (model prog w) A (Builtin.Slice.sliceApplied (.ref sl) (pure (n : Int))) Q E s := by
  obtain ⟨os, hos, hcs, hds⟩ := id hs
  unfold Builtin.Slice.sliceApplied Builtin.Slice.sliceFields
  refine wpAny_bind (wpAny_bind (wpAny_field hos hds (x := vl) rfl (wpAny_bind (wpAny_field hos hds (x := vu) rfl (wpAny_bind (wpAny_field hos hds (x := .none) rfl (wpAny_pure ?_)))))))
  refine wpAny_bind (slicePart_none ?_)
  show wpAny _ _ (if ((1 : Int) == 0) = true then _ else _) _ _ s
  rw [if_neg (by decide)]
  refine wpAny_bind (slicePart_ pl (wpAny_bind (slicePart_ pu (wpAny_bind (wpAny_pure ?_)))))
  show wpAny _ _ (match Builtin.Slice.sliceAdjust lo hi 1 (n : Int) with | (lo, hi) => pure (lo, (1 : Int), Builtin.Slice.slicePlaces lo hi 1)) _ _ s
  rw [adjust_gen lo hi n]
  show wpAny _ _ (pure (((sIx n 0 lo : Nat) : Int), (1 : Int), Builtin.Slice.slicePlaces ((sIx n 0 lo : Nat) : Int) ((sIx n n hi : Nat) : Int) 1)) _ _ s
  rw [places_gen]
  exact wpAny_pure h
theorem pick_gen (xs : Array Value) (i k : Nat) : ((List.range k).filterMap fun (m : Nat) => xs[((i : Int) + (m : Int) * 1).toNat]?).toArray = ((xs.toList.drop i).take k).toArray := by
  have e : (fun (m : Nat) => xs[((i : Int) + (m : Int) * 1).toNat]?) = fun m => xs[i + m]? := by
    funext m
    have : ((i : Int) + (m : Int) * 1).toNat = i + m := by omega
    rw [this]
  rw [e]
  have := pick_run xs i k
  rw [List.filterMap_map] at this
  have e2 : ((fun x => xs[x]?) ∘ fun x => i + x) = fun m => xs[i + m]? := rfl
  rw [e2] at this
  rw [this]
theorem getItem_tuple_cut {t sl : Addr} {items : Array Value} {vl vu : Value} {lo hi : Option Int} {Q : Value → Shared → Prop} (ht : IsTup s.heap t items) (hs : s.heap.IsSliceOf sl vl vu .none) (pl : IsPart vl lo) (pu : IsPart vu hi)
    (hw : ¬ (sIx items.size 0 lo = 0 ∧ sIx items.size items.size hi = items.size))
    (h : Q (.ref s.heap.objs.size) { s with heap := s.heap.push { cls := .type "tuple", data := .seq ((items.toList.drop (sIx items.size 0 lo)).take (sIx items.size items.size hi - sIx items.size 0 lo)).toArray } })
    (hsz : items.size ≤ sizeLine) : wpAny (model prog w) A (getItem (.ref t) (.ref sl)) Q E s := by
  have htake : sizeOk (.seq ((items.toList.drop (sIx items.size 0 lo)).take (sIx items.size items.size hi - sIx items.size 0 lo)).toArray) := by
    show ((items.toList.drop (sIx items.size 0 lo)).take (sIx items.size items.size hi - sIx items.size 0 lo)).toArray.size ≤ sizeLine
    rw [List.size_toArray, List.length_take, List.length_drop, Array.length_toList]
    omega
  have hj : sIx items.size items.size hi ≤ items.size := sIx_le _ _ (Nat.le_refl _) hi
  obtain ⟨os, hos, hcs, hds⟩ := id hs
  have hTs : s.TypeIs (.ref sl) "slice" := ⟨os, hos, hcs⟩
  unfold getItem
  try with_reducible refine wpAny_holding ?_
  first | refine wpAny_bind (wpAny_pure ?_) | skip
  refine wpAny_bind (wpAny_sequenceKey ht.typeIs (by decide) ?_)
  refine wpAny_bind (wpAny_callSpecial?_slot (name := Str.ofString "__getitem__") ht.typeIs PyProof.Rows.slot_tuple_getitem
    (wpAny_call_entry PyProof.Rows.slot_tuple_getitem ht.typeIs entry_tuple_getitem ?_ (args_tuple_getitem _ _)))
  show wpAny _ _ (Builtin.Tuple.tupleItemsOf (.ref t) >>= _) _ _ s
  refine wpAny_bind (tupleItemsOf_ ht ?_)
  refine wpAny_bind (wpAny_typeOf hTs ?_)
  rw [if_pos (by decide)]
  refine wpAny_bind (sliceApplied_gen hs pl pu ?_)
  have hno : ¬ ((((sIx items.size 0 lo : Nat) : Int) == 0 && (1 : Int) == 1 && (sIx items.size items.size hi - sIx items.size 0 lo) == items.size) = true) := by
    intro q
    rw [Bool.and_eq_true, Bool.and_eq_true] at q
    have q1 : ((sIx items.size 0 lo : Nat) : Int) = 0 := eq_of_beq q.1.1
    have q2 : sIx items.size items.size hi - sIx items.size 0 lo = items.size := eq_of_beq q.2
    exact hw ⟨by omega, by omega⟩
  show wpAny _ _ (if (((sIx items.size 0 lo : Nat) : Int) == 0 && (1 : Int) == 1 && (sIx items.size items.size hi - sIx items.size 0 lo) == items.size) = true then _ else _) _ _ s
  rw [if_neg hno, pick_gen]
  first
    | exact wpAny_bind (m := Builtin.Tuple.tupleExact _) (wpAny_newObj_type (wpAny_pure ⟨_, rfl, wpAny_pure h⟩) htake)
    | exact wpAny_bind (m := Builtin.Tuple.tupleExact _) (wpAny_newObj_type (wpAny_bind (wpAny_pure (wpAny_pure ⟨_, rfl, wpAny_pure h⟩))) htake)
    | exact wpAny_bind (wpAny_bind (m := Builtin.Tuple.tupleExact _) (wpAny_newObj_type (wpAny_pure (wpAny_pure ⟨_, rfl, wpAny_pure h⟩)) htake))
    | exact wpAny_bind (wpAny_bind (m := Builtin.Tuple.tupleExact _) (wpAny_newObj_type (wpAny_pure ⟨_, rfl, wpAny_pure h⟩) htake))
end
end HT
namespace L2
open PySem PySem.Spec PyProof.Rows
abbrev TO := St → Hp → (Option Int → Hp → Prop) → Prop
def PO (X : Cx) (e : Option Expr) (t : TO) : Prop :=
  ∀ (pins : List (Addr × Obj)) (s : Shared) (σ : St) (H : Hp) (Q : Option Int → Hp → Prop), Inv X pins σ H s → t σ H Q →
    wpAny (model X.prog X.w) X.A (evalPart e X.env) (fun u s' => ∃ o H', Inv X pins σ H' s' ∧ IsPart u o ∧ Q o H') X.xe s
def tNoPart : TO := fun _ H Q => Q none H
def tPart (t : TE) : TO := fun σ H Q => t σ H fun x H1 => ∃ i, x = .int i ∧ Q (some i) H1
section
variable {X : Cx} {e : Expr} {te : TE} {lo hi : Option Expr} {tl th : TO} {pos p2 : Pos}
theorem po_none : PO X none tNoPart := by
  intro pins s σ H Q I h
  rw [evalPart_none]
  exact wpAny_pure ⟨none, H, I, .none, h⟩
theorem po_some (h : PE X e te) : PO X (some e) (tPart te) := by
  intro pins s σ H Q I hw
  rw [evalPart_some]
  refine thn (h pins s σ H _ I hw) fun u s1 ⟨x, H1, I1, r1, q1⟩ => ?_
  obtain ⟨i, rfl, q⟩ := q1
  obtain ⟨t, rfl⟩ := r1
  exact ⟨some i, H1, I1, .int i t, q⟩
def SlR (X : Cx) (r : V → Option Int → Option Int → Hp → VK → Prop) : Prop :=
  ∀ (pins : List (Addr × Obj)) (s : Shared) (σ : St) (H : Hp) (x : V) (v vl vu : Value) (lo hi : Option Int) (sl : Addr) (Q : VK), Inv X pins σ H s → RelV x v → s.heap.IsSliceOf sl vl vu .none → IsPart vl lo → IsPart vu hi → r x lo hi H Q →
    ∃ T id, typeLookup (.type T) "__getitem__" = pure (some (.builtin id)) ∧ s.TypeIs v T ∧ wpAny (model X.prog X.w) X.A (getItem v (.ref sl)) (EP X pins σ Q) X.xe s
theorem SlR.or {r r' : V → Option Int → Option Int → Hp → VK → Prop} (h : SlR X r) (h' : SlR X r') : SlR X (fun x lo hi H Q => r x lo hi H Q ∨ r' x lo hi H Q) := by
  intro pins s σ H x v vl vu lo hi sl Q I rx hs pl pu q
  rcases q with q | q
  · exact h pins s σ H x v vl vu lo hi sl Q I rx hs pl pu q
  · exact h' pins s σ H x v vl vu lo hi sl Q I rx hs pl pu q
def tSl (r : V → Option Int → Option Int → Hp → VK → Prop) (te : TE) (tl th : TO) : TE := fun σ H Q => te σ H fun x H1 => tl σ H1 fun l H2 => th σ H2 fun u H3 => r x l u H3 Q
theorem pe_slice {r : V → Option Int → Option Int → Hp → VK → Prop} (hr : SlR X r) (he : PE X e te) (hl : PO X lo tl) (hu : PO X hi th) : PE X (.Subscript e (.Slice lo hi none p2) pos) (tSl r te tl th) := by
  intro pins s σ H Q I h
  refine Subscript_ (thn (he pins s σ H _ I h) fun v s1 ⟨x, H1, I1, r1, q1⟩ => ?_)
  refine wpAny_Slice (thn (hl pins s1 σ H1 _ I1 q1) fun vl s2 ⟨l, H2, I2, pl, q2⟩ => thn (hu pins s2 σ H2 _ I2 q2) fun vu s3 ⟨u, H3, I3, pu, q3⟩ => ?_)
  rw [evalPart_none]
  refine wpAny_pure ?_
  have I4 : Inv X pins σ H3 { s3 with heap := s3.heap.push { cls := .type "slice", data := .fields #[vl, vu, .none] } } := I3.kept (t' := s3.toks) fun b ob q => Heap.get?_push_of_some _ q
  obtain ⟨T, id, hT, ht, hg⟩ := hr pins { s3 with heap := s3.heap.push { cls := .type "slice", data := .fields #[vl, vu, .none] } } σ H3 x v vl vu l u s3.heap.objs.size Q I4 r1 (Heap.IsSliceOf.new ..) pl pu q3
  show wpAny (model X.prog X.w) X.A (subscriptTail e (.Slice lo hi none p2) v (.ref s3.heap.objs.size)) (EP X pins σ Q) X.xe { s3 with heap := s3.heap.push { cls := .type "slice", data := .fields #[vl, vu, .none] } }
  exact tail_any (ops := [.ref s3.heap.objs.size, v]) ht hT hg (by with_unfolding_all rfl)
def cutV (xs : List V) (lo hi : Option Int) : List V := (xs.drop (HT.sIx xs.length 0 lo)).take (HT.sIx xs.length xs.length hi - HT.sIx xs.length 0 lo)
theorem cutV_length (xs : List V) (lo hi : Option Int) : (cutV xs lo hi).length ≤ xs.length := by
  unfold cutV
  rw [List.length_take, List.length_drop]
  omega
def rSlT (K : PySem.W.Frag) : V → Option Int → Option Int → Hp → VK → Prop := fun x lo hi H Q => ∃ a xs, x = .ref a ∧ SqT K H a xs ∧
  ¬ (HT.sIx xs.length 0 lo = 0 ∧ HT.sIx xs.length xs.length hi = xs.length) ∧ ∀ p, H p = none → Q (.ref p) (upd H p (.tup (cutV xs lo hi)))
theorem sl_tup : SlR X (rSlT X.K) := by
  intro pins s σ H x v vl vu lo hi sl Q I rx hs pl pu h
  obtain ⟨a, xs, rfl, hx, hw, q⟩ := h
  cases rx
  obtain ⟨its, r, ht, hz⟩ := I.tuple hx
  have hlen : its.toArray.size = xs.length := by rw [List.size_toArray]; exact r.length.symm
  refine ⟨"tuple", _, PyProof.Rows.slot_tuple_getitem.lookup, ht.typeIs, ?_⟩
  refine HT.getItem_tuple_cut ht hs pl pu (by rw [hlen]; exact hw) ?_ (by rw [hlen]; exact hz)
  rw [hlen]
  refine ⟨.ref s.heap.objs.size, _, I.laid (t' := s.toks) (o := .tup (cutV xs lo hi)) (fun b ob q => Heap.get?_push_of_some _ q) (Nat.le_refl _) ?_, rfl, q _ (I.hok.fresh (Nat.le_refl _))⟩
  exact ⟨Nat.le_trans (cutV_length xs lo hi) hz, _, (r.drop (HT.sIx xs.length 0 lo)).take (HT.sIx xs.length xs.length hi - HT.sIx xs.length 0 lo), IsTupD.new _ _⟩
theorem Vals.nil_iff {xs : List V} {us : List Value} (r : Vals xs us) : us = [] ↔ xs = [] := by
  cases r with
  | nil => simp
  | cons _ _ => simp
end
end L2
namespace L2
open PySem PySem.Spec PyProof.Rows
def ixN (n : Nat) (i : Int) : Option Nat := if 0 ≤ i then (if i < n then some i.toNat else none) else if -(n : Int) ≤ i then some (i + n).toNat else none
def atI {α : Type} (xs : List α) (i : Int) : Option α := (ixN xs.length i).bind fun j => xs[j]?
theorem ixN_seq {n : Nat} {i : Int} {j : Nat} (h : ixN n i = some j) : seqIndex? i n = some j ∧ j < n ∧ -(n : Int) ≤ i ∧ i < n := by
  unfold ixN at h
  by_cases h0 : 0 ≤ i
  · rw [if_pos h0] at h
    by_cases h1 : i < n
    · rw [if_pos h1] at h
      have e : i.toNat = j := Option.some.inj h
      exact ⟨by rw [seqIndex_of h0 h1, e], by omega, by omega, h1⟩
    · rw [if_neg h1] at h; cases h
  · rw [if_neg h0] at h
    by_cases h1 : -(n : Int) ≤ i
    · rw [if_pos h1] at h
      have e : (i + n).toNat = j := Option.some.inj h
      exact ⟨by rw [seqIndex_neg (by omega) h1, e], by omega, h1, by omega⟩
    · rw [if_neg h1] at h; cases h
theorem atI_get {α : Type} {xs : List α} {i : Int} {v : α} (h : atI xs i = some v) : ∃ j, seqIndex? i xs.length = some j ∧ xs[j]? = some v ∧ j < xs.length ∧ -(xs.length : Int) ≤ i ∧ i < xs.length := by
  unfold atI at h
  cases e : ixN xs.length i with
  | none => rw [e] at h; cases h
  | some j =>
    rw [e] at h
    obtain ⟨h1, h2, h3, h4⟩ := ixN_seq e
    exact ⟨j, h1, h, h2, h3, h4⟩
def PlainIx (b : Expr) : Prop := ∀ o i, subscripted b false o i = operate [o, i] (getItem o i)
def IxR (X : Cx) (r : R2) : Prop :=
  ∀ (value slice : Expr) (pins : List (Addr × Obj)) (s : Shared) (σ : St) (H : Hp) (x y : V) (v u : Value) (Q : VK), Inv X pins σ H s → RelV x v → RelV y u → r x y H Q →
    subscripted slice false v u = operate [v, u] (getItem v u) → wpAny (model X.prog X.w) X.A (subscriptTail value slice v u) (EP X pins σ Q) X.xe s
def MtR (X : Cx) (id : String) (r : V → List V → Hp → VK → Prop) : Prop :=
  ∀ (pins : List (Addr × Obj)) (s : Shared) (σ : St) (H : Hp) (x : V) (xs : List V) (v : Value) (us : List Value) (Q : VK), Inv X pins σ H s → RelV x v → Vals xs us → r x xs H Q →
    wpAny (model X.prog X.w) X.A (call (.builtin id) (v :: us)) (EP X pins σ Q) X.xe s
section
variable {X : Cx} {a b : Expr} {ta tb : TE} {pos : Pos}
theorem IxR.or {r r' : R2} (h : IxR X r) (h' : IxR X r') : IxR X (fun x y H Q => r x y H Q ∨ r' x y H Q) := by
  intro value slice pins s σ H x y v u Q I rx ry q hs
  rcases q with q | q
  · exact h value slice pins s σ H x y v u Q I rx ry q hs
  · exact h' value slice pins s σ H x y v u Q I rx ry q hs
theorem MtR.or {id : String} {r r' : V → List V → Hp → VK → Prop} (h : MtR X id r) (h' : MtR X id r') : MtR X id (fun x xs H Q => r x xs H Q ∨ r' x xs H Q) := by
  intro pins s σ H x xs v us Q I rx rs q
  rcases q with q | q
  · exact h pins s σ H x xs v us Q I rx rs q
  · exact h' pins s σ H x xs v us Q I rx rs q
theorem pe_ix {r : R2} (hr : IxR X r) (ha : PE X a ta) (hb : PE X b tb) (hs : PlainIx b) : PE X (.Subscript a b pos) (tOp r ta tb) := by
  intro pins s σ H Q I h
  exact Subscript_ (binT ha hb I h fun v u s2 x y H2 I2 rx ry q => hr a b pins s2 σ H2 x y v u Q I2 rx ry q (hs _ _))
def rIxL (K : PySem.W.Frag) : R2 := fun x y H Q => ∃ p xs i v, x = .ref p ∧ y = .int i ∧ SqL K H p xs ∧ atI xs i = some v ∧ Q v H
def rIxT (K : PySem.W.Frag) : R2 := fun x y H Q => ∃ p xs i v, x = .ref p ∧ y = .int i ∧ SqT K H p xs ∧ atI xs i = some v ∧ Q v H
theorem ix_list : IxR X (rIxL X.K) := by
  intro value slice pins s σ H x y v u Q I rx ry h hs
  obtain ⟨p, xs, i, z, rfl, rfl, hq, he, q⟩ := h
  cases rx
  obtain ⟨t, rfl⟩ := ry
  obtain ⟨its, r, pl, hz⟩ := I.list hq
  obtain ⟨j, h1, h2, h3, h4, h5⟩ := atI_get he
  obtain ⟨w, ew, rw'⟩ := r.get h2
  have hl := r.length
  have hn := line63
  have fin : EP X pins σ Q w s := ⟨z, H, I, rw', q⟩
  by_cases h0 : 0 ≤ i
  · have hj : i.toNat = j := by
      rw [seqIndex_of h0 h5] at h1
      exact Option.some.inj h1
    exact item_listR pl.isList h0 (by omega) (by rw [hj]; simpa using ew) fin hs
  · have hj : (i + (its.toArray.size : Int)).toNat = j := by
      rw [seqIndex_neg (by omega) h4] at h1
      rw [List.size_toArray, ← hl]
      exact Option.some.inj h1
    exact subscriptTail_builtinR (x := w) pl.isList.typeIs slot_list_getitem.lookup
      (wpAny_getItem_list_neg (Q := fun r s' => r = w ∧ EP X pins σ Q r s') pl.isList (by omega) (by rw [List.size_toArray] <;> omega) (by omega) (by rw [hj]; simpa using ew) ⟨rfl, fin⟩) hs
theorem ix_tup : IxR X (rIxT X.K) := by
  intro value slice pins s σ H x y v u Q I rx ry h hs
  obtain ⟨p, xs, i, z, rfl, rfl, hq, he, q⟩ := h
  cases rx
  obtain ⟨t, rfl⟩ := ry
  obtain ⟨its, r, pl, hz⟩ := I.tuple hq
  obtain ⟨j, h1, h2, h3, h4, h5⟩ := atI_get he
  obtain ⟨w, ew, rw'⟩ := r.get h2
  have hl := r.length
  have hn := line63
  have fin : EP X pins σ Q w s := ⟨z, H, I, rw', q⟩
  exact subscriptTail_builtinR (x := w) pl.typeIs slot_tuple_getitem.lookup
    (getItem_tuple (j := j) (Q := fun r s' => r = w ∧ EP X pins σ Q r s') pl (by omega) (by omega) (by rw [List.size_toArray, ← hl]; exact h1) (by simpa using ew) ⟨rfl, fin⟩) hs
theorem Inv.lst {pins : List (Addr × Obj)} {σ : St} {H : Hp} {s : Shared} {p : Addr} {xs : List V} (I : Inv X pins σ H s) (h : H p = some (.lst xs)) :
    ∃ (its : List Value) (n : Nat), Vals xs its ∧ s.heap.get? p = some { cls := .type "list", data := .seq its.toArray n } ∧ xs.length ≤ sizeLine := by
  obtain ⟨z, its, n, r, e⟩ := I.hok p _ h
  exact ⟨its, n, r, e, z⟩
theorem slice_bounds (lo hi : Option Int) (n : Nat) : (sliceBounds lo hi none n).1 = ((HT.sIx n 0 lo : Nat) : Int) ∧ (sliceBounds lo hi none n).2.1 = ((HT.sIx n n hi : Nat) : Int) ∧ (sliceBounds lo hi none n).2.2 = 1 := by
  refine ⟨?_, ?_, rfl⟩
  · cases lo with
    | none => simp [sliceBounds, HT.sIx]
    | some i =>
      simp only [sliceBounds, HT.sIx, Option.getD_none, show (1 : Int) > 0 by decide, if_true]
      by_cases h : i < 0
      · simp only [h, if_true] <;> omega
      · simp only [h, if_false] <;> omega
  · cases hi with
    | none => simp [sliceBounds, HT.sIx]
    | some i =>
      simp only [sliceBounds, HT.sIx, Option.getD_none, show (1 : Int) > 0 by decide, if_true]
      by_cases h : i < 0
      · simp only [h, if_true] <;> omega
      · simp only [h, if_false] <;> omega
theorem slicePick_cut (its : List Value) (lo hi : Option Int) : slicePick its.toArray lo hi none = ((its.drop (HT.sIx its.length 0 lo)).take (HT.sIx its.length its.length hi - HT.sIx its.length 0 lo)).toArray := by
  obtain ⟨h1, h2, h3⟩ := slice_bounds lo hi its.toArray.size
  unfold slicePick
  rw [h1, h2, h3]
  simp only [sliceRange_one, pick_run, List.size_toArray] <;> rfl
def rSlL (K : PySem.W.Frag) : V → Option Int → Option Int → Hp → VK → Prop := fun x lo hi H Q => ∃ a xs, x = .ref a ∧ SqL K H a xs ∧ ∀ p, H p = none → Q (.ref p) (upd H p (.lst (cutV xs lo hi)))
theorem sl_list : SlR X (rSlL X.K) := by
  intro pins s σ H x v vl vu lo hi sl Q I rx hs pl pu h
  obtain ⟨a, xs, rfl, hx, q⟩ := h
  cases rx
  obtain ⟨its, r, ht, hz⟩ := I.list hx
  have hlen := r.length
  refine ⟨"list", _, slot_list_getitem.lookup, ht.isList.typeIs, ?_⟩
  refine wpAny_getItem_list_slice ht.isList hs pl pu .none (by simp) ?_ (by rw [List.size_toArray] <;> omega)
  rw [slicePick_cut, ← hlen]
  refine ⟨.ref s.heap.objs.size, _, I.laid (t' := s.toks) (o := .lst (cutV xs lo hi)) (fun b ob q => Heap.get?_push_of_some _ q) (Nat.le_refl _) ?_, rfl, q _ (I.hok.fresh (Nat.le_refl _))⟩
  exact ⟨Nat.le_trans (cutV_length xs lo hi) hz, _, 0, (r.drop (HT.sIx xs.length 0 lo)).take (HT.sIx xs.length xs.length hi - HT.sIx xs.length 0 lo), Heap.get?_push_size _ rfl⟩
theorem call_len_seq : CallR X (.builtin "len") (fun xs H Q => ∃ p ys, xs = [.ref p] ∧ (SqL X.K H p ys ∨ SqT X.K H p ys) ∧ Q (.int ys.length) H) := by
  intro pins s σ H xs us Q I r h
  obtain ⟨p, ys, rfl, hq, q⟩ := h
  obtain ⟨u, rfl, rx⟩ := vals1 r
  cases rx
  have hn := line63
  rcases hq with hq | hq
  · obtain ⟨its, r', pl, hz⟩ := I.list hq
    have hlen := r'.length
    exact Calls.call_len_list pl.isList (by simp only [List.size_toArray] <;> omega) ⟨.int ys.length, H, I.tok _, ⟨s.toks + 1, by rw [List.size_toArray, hlen]⟩, q⟩
  · obtain ⟨its, r', pl, hz⟩ := I.tuple hq
    have hlen := r'.length
    exact len_tuple pl (by simp only [List.size_toArray] <;> omega) ⟨.int ys.length, H, I.tok _, ⟨s.toks + 1, by rw [List.size_toArray, hlen]⟩, q⟩
theorem CallR.or {f : Value} {r r' : List V → Hp → VK → Prop} (h : CallR X f r) (h' : CallR X f r') : CallR X f (fun xs H Q => r xs H Q ∨ r' xs H Q) := by
  intro pins s σ H xs us Q I rs q
  rcases q with q | q
  · exact h pins s σ H xs us Q I rs q
  · exact h' pins s σ H xs us Q I rs q
theorem call_list_of : CallR X (.type "list") (fun xs H Q => ∃ p ys, xs = [.ref p] ∧ (SqL X.K H p ys ∨ SqT X.K H p ys) ∧ ∀ l, H l = none → Q (.ref l) (upd H l (.lst ys))) := by
  intro pins s σ H xs us Q I r h
  obtain ⟨p, ys, rfl, hq, q⟩ := h
  obtain ⟨u, rfl, rx⟩ := vals1 r
  cases rx
  have fin : ∀ (its : List Value), Vals ys its → ys.length ≤ sizeLine → ∀ (h' : Heap) (c' : Nat), (∀ b o', s.heap.get? b = some o' → h'.get? b = some o') →
      h'.get? s.heap.objs.size = some { cls := .type "list", dict := none, data := .seq its.toArray c', slots := #[] } → EP X pins σ Q (.ref s.heap.objs.size) { s with heap := h' } := fun its r' hz h' c' kp e =>
    ⟨.ref s.heap.objs.size, _, I.laid (t' := s.toks) kp (Nat.le_refl _) (show ObjOk X.prog X.w _ h' _ (.lst ys) from ⟨hz, its, c', r', e⟩), rfl, q _ (I.hok.fresh (Nat.le_refl _))⟩
  rcases hq with hq | hq
  · obtain ⟨its, r', pl, hz⟩ := I.list hq
    have hlen := r'.length
    obtain ⟨o, ho, hc, n, hd⟩ := pl.isList
    exact call_list_seq p (.inl rfl) ho hc hd (fun h' c' kp e => fin its r' hz h' c' kp e) (by simp only [List.size_toArray] <;> omega)
  · obtain ⟨its, r', pl, hz⟩ := I.tuple hq
    have hlen := r'.length
    obtain ⟨o, ho, hc, n, hd⟩ := pl
    exact call_list_seq p (.inr rfl) ho hc hd (fun h' c' kp e => fin its r' hz h' c' kp e) (by simp only [List.size_toArray] <;> omega)
theorem call_tuple_of : CallR X (.type "tuple") (fun xs H Q => ∃ p ys, xs = [.ref p] ∧ ((SqL X.K H p ys ∧ ∀ l, H l = none → Q (.ref l) (upd H l (.tup ys))) ∨ (SqT X.K H p ys ∧ Q (.ref p) H))) := by
  intro pins s σ H xs us Q I r h
  obtain ⟨p, ys, rfl, h⟩ := h
  obtain ⟨u, rfl, rx⟩ := vals1 r
  cases rx
  rcases h with ⟨hq, q⟩ | ⟨hq, q⟩
  · obtain ⟨its, r', pl, hz⟩ := I.list hq
    have hlen := r'.length
    refine call_tuple_list pl.isList (fun h' kp => ?_) (by simp only [List.size_toArray] <;> omega)
    have I1 : Inv X pins σ H { s with heap := h' } := I.kept (t' := s.toks) kp
    have I2 : Inv X pins σ (upd H h'.objs.size (.tup ys)) { s with heap := h'.push { cls := .type "tuple", data := .seq its.toArray } } :=
      I1.laid (t' := s.toks) (fun b o e => Heap.get?_push_of_some _ e) (Nat.le_refl _) (show ObjOk X.prog X.w _ _ _ (.tup ys) from ⟨hz, its, r', IsTupD.new _ _⟩)
    exact ⟨.ref h'.objs.size, _, I2, rfl, q _ (I1.hok.fresh (Nat.le_refl _))⟩
  · obtain ⟨its, r', pl, hz⟩ := I.tuple hq
    exact call_tuple_same pl ⟨.ref p, H, I, rfl, q⟩
def tyV (K : PySem.W.Frag) (T : String) (x : V) (H : Hp) : Prop := match x with
  | .str _ => T = "str"
  | .int _ => T = "int"
  | .ref p => (T = "list" ∧ ∃ xs, SqL K H p xs) ∨ (T = "tuple" ∧ ∃ o, K.lookup p = some o ∧ o.cls = .type "tuple" ∧ o.dict = none) ∨
      (T = "dict" ∧ ((∃ kvs, H p = some (.dK kvs)) ∨ ∃ kvs, H p = some (.dT kvs))) ∨ (T = "set" ∧ ∃ S n, H p = some (.set S n))
  | _ => False
theorem tyV_is {pins : List (Addr × Obj)} {σ : St} {H : Hp} {s : Shared} {T : String} {x : V} {v : Value} (I : Inv X pins σ H s) (r : RelV x v) (ty : tyV X.K T x H) :
    s.TypeIs v T ∧ ∀ a, v = .ref a → ∃ ob, s.heap.get? a = some ob ∧ ob.dict = none := by
  cases x with
  | str z =>
    obtain ⟨t, rfl⟩ := r
    cases (show T = "str" from ty)
    exact ⟨typeIs_str s z t, fun _ e => nomatch e⟩
  | int i =>
    obtain ⟨t, rfl⟩ := r
    cases (show T = "int" from ty)
    exact ⟨typeIs_int s i t, fun _ e => nomatch e⟩
  | ref p =>
    cases r
    rcases ty with ⟨rfl, xs, hq⟩ | ⟨rfl, o, hk, hc, hd⟩ | ⟨rfl, hk⟩ | ⟨rfl, S, n, hk⟩
    · obtain ⟨its, _, pl, _⟩ := I.list hq
      refine ⟨pl.isList.typeIs, fun a e => ?_⟩
      cases e
      obtain ⟨o, n, e, c, hd, _⟩ := pl
      exact ⟨o, e, hd⟩
    · refine ⟨⟨o, I.kIn p o hk, hc⟩, fun a e => ?_⟩
      cases e
      exact ⟨o, I.kIn _ o hk, hd⟩
    · have z : ∃ o, s.heap.get? p = some o ∧ o.ExactDict := by
        rcases hk with ⟨kvs, hk⟩ | ⟨kvs, hk⟩
        · obtain ⟨_, _, _, _, o, _, _, e, ex, _⟩ := I.hok p _ hk
          exact ⟨o, e, ex⟩
        · obtain ⟨_, _, _, _, o, _, _, e, ex, _⟩ := I.hok p _ hk
          exact ⟨o, e, ex⟩
      obtain ⟨o, e, ex⟩ := z
      refine ⟨⟨o, e, ex.1⟩, fun a e2 => ?_⟩
      cases e2
      exact ⟨o, e, ex.2.1⟩
    · obtain ⟨o, _, _, _, e, ex, _⟩ := I.hok p _ hk
      refine ⟨⟨o, e, ex.1⟩, fun a e2 => ?_⟩
      cases e2
      exact ⟨o, e, ex.2.1⟩
  | _ => exact False.elim ty
def tBM (K : PySem.W.Frag) (T : String) (r : V → List V → Hp → VK → Prop) (to : TE) (t : TA) : TE := fun σ H Q => to σ H fun x H1 => tyV K T x H1 ∧ t σ H1 fun xs H2 => r x xs H2 Q
variable {o e : Expr} {es : List Expr} {to : TE} {t : TA} {name : Str} {apos cpos : Pos} {T id : String} {r : V → List V → Hp → VK → Prop}
theorem pe_bm (pa : PlainAttrs T) (slot : Slot T name id) (hty : typeOf (.builtin id) = pure (.type "method_descriptor")) (hm : MtR X id r) (ho : PE X o to) (ha : PA X (e :: es) t)
    (hbase : attributeBase o name X.env (eval o X.env) = eval o X.env := by rfl)
    (hfew : ((backTo cpos (starEach (e :: es) X.env)).all (fun x => !x.1) && (backToKw cpos (keywordEach [] X.env)).all (fun x => x.1.isSome)
      && decide ((e :: es).length + ([] : List Keyword).length + (if ([] : List Keyword).isEmpty then 0 else 1) < 30)) = true := by rfl)
    (hline : (apos.endLine == cpos.line) = true := by rfl) (hs : starEach (e :: es) X.env = (false, eval e X.env) :: starEach es X.env := by rfl) (hplain : (backTo cpos (starEach es X.env)).any (·.1) = false := by rfl) :
    PE X (.Call (.Attribute o name apos) (e :: es) [] cpos) (tBM X.K T r to t) := by
  intro pins s σ H Q I h
  refine wpAny_Call_method_late hbase hfew hline rfl (thn (ho pins s σ H _ I h) fun v s1 ⟨x, H1, I1, r1, ty, q1⟩ => ?_)
  obtain ⟨h1, h2⟩ := tyV_is I1 r1 ty
  refine ⟨T, id, pa, slot, hty, h1, h2, ?_⟩
  have hA := ha cpos pins s1 σ H1 _ I1 q1
  rw [hs] at hA ⊢
  refine Calls.callWith_builtin (by show (false || (backTo cpos (starEach es X.env)).any (·.1)) = false; rw [hplain] <;> rfl) (Calls.evalArgs_plain ?_)
  exact thn hA fun us s2 ⟨vs, H2, I2, r2, q2⟩ => hm pins s2 σ H2 x vs v us Q I2 r1 r2 q2
/- xs.append(e), list.index on a module's tuple .. are MtR facts of 06m -/
end
end L2
namespace L2
open PySem PySem.Spec PyProof.Rows
def MtM (X : Cx) (id : String) (r : V → List V → Hp → VK → Prop) : Prop :=
  ∀ (pins : List (Addr × Obj)) (s : Shared) (σ : St) (H : Hp) (x : V) (xs : List V) (v : Value) (us : List Value) (Q : VK), Inv X pins σ H s → RelV x v → Vals xs us → r x xs H Q →
    wpAny (model X.prog X.w) X.A (call (.builtin id) (v :: us)) (EP X pins σ Q) X.xe s
theorem Vals.one : ∀ {x : V} {us : List Value}, Vals [x] us → ∃ u, us = [u] ∧ RelV x u
  | _, _, .cons r .nil => ⟨_, rfl, r⟩
theorem Vals.zero : ∀ {us : List Value}, Vals [] us → us = []
  | _, .nil => rfl
theorem Vals.rep {xs : List V} {us : List Value} (h : Vals xs us) : ∀ k : Nat, Vals (List.replicate k xs).flatten (List.replicate k us).flatten
  | 0 => .nil
  | k + 1 => by
    rw [List.replicate_succ, List.replicate_succ, List.flatten_cons, List.flatten_cons]
    exact Vals.append h (Vals.rep h k)
theorem foldl_rep (its : List Value) : ∀ (k : Nat) (acc : List Value),
    List.foldl (fun x1 x2 => x1 ++ x2) acc.toArray (List.replicate k its.toArray) = (acc ++ (List.replicate k its).flatten).toArray
  | 0, acc => by simp
  | k + 1, acc => by
    have e : acc.toArray ++ its.toArray = (acc ++ its).toArray := by simp
    have e2 : (acc ++ its) ++ (List.replicate k its).flatten = acc ++ (List.replicate (k + 1) its).flatten := by
      rw [List.replicate_succ, List.flatten_cons, List.append_assoc]
    rw [← e2, ← foldl_rep its k (acc ++ its), ← e, List.replicate_succ, List.foldl_cons]
section
variable {X : Cx} {pins : List (Addr × Obj)} {σ : St} {H : Hp} {s : Shared} {l b : Addr} {xs ys zs : List V}
theorem Inv.lset {its its' : List Value} {n : Nat} {f : Array Value → Array Value} {t' : Nat} (I : Inv X pins σ H s) (hH : H l = some (.lst xs))
    (e : s.heap.get? l = some { cls := .type "list", data := .seq its.toArray n }) (hf : f its.toArray = its'.toArray) (hv : Vals ys its') (hz : ys.length ≤ sizeLine) :
    Inv X pins σ (upd H l (.lst ys)) { s with heap := s.heap.update l (Obj.mapSeq f), toks := t' } := by
  have q := PySem.IsL.update e f
  rw [hf] at q
  refine I.write (x := l) (e := l) (by rw [hH]; exact trivial) (.inl rfl) (fun b' u hb hu => (Heap.get?_update_other s.heap (Obj.mapSeq f) (Ne.symm hb)).trans hu) ⟨_, q⟩ ?_
  exact ⟨hz, its', _, hv, q⟩
theorem Inv.fresh (I : Inv X pins σ H s) : H s.heap.objs.size = none := I.hok.fresh (Nat.le_refl _)
theorem Inv.lstM (I : Inv X pins σ H s) (hH : H l = some (.lst xs)) : xs.length ≤ sizeLine ∧ ∃ (its : List Value) (n : Nat), Vals xs its ∧ xs.length = its.length ∧ s.heap.get? l = some { cls := .type "list", data := .seq its.toArray n } := by
  obtain ⟨z, its, n, r, e⟩ := I.hok l _ hH
  exact ⟨z, its, n, r, r.length, e⟩
end
section
variable {X : Cx}
def rAppend : V → List V → Hp → VK → Prop := fun x vs H Q => ∃ l xs y, x = .ref l ∧ vs = [y] ∧ H l = some (.lst xs) ∧ xs.length < sizeLine ∧ Q .non (upd H l (.lst (xs ++ [y])))
theorem mt_append : MtM X "list.append" rAppend := by
  intro pins s σ H x vs v us Q I rx rv h
  obtain ⟨l, xs, y, rfl, rfl, hH, hz, q⟩ := h
  cases rx
  obtain ⟨u, rfl, ru⟩ := rv.one
  obtain ⟨z, its, n, r, hl, e⟩ := I.lstM hH
  refine call_meets F.slot_list_append ⟨_, e, rfl⟩ F.entry_list_append (F.args_list_append_2 _ _) (PySem.list_append l its.toArray n u (by rw [List.size_toArray]; omega)) ⟨e, ?_⟩
  refine ⟨.non, _, I.lset (its' := its ++ [u]) hH e (by simp) (r.append (.cons ru .nil)) ?_, rfl, q⟩
  rw [List.length_append, List.length_singleton]
  omega
theorem len_rep {α : Type} (xs : List α) (k : Nat) : (List.replicate k xs).flatten.length = k * xs.length := by
  induction k with
  | zero => simp
  | succ k ih => rw [List.replicate_succ, List.flatten_cons, List.length_append, ih, Nat.succ_mul, Nat.add_comm]
end
section
variable {prog : Program} {w : World} {A : Around} {E : Value → Shared → Prop} {s : Shared}
end
section
variable {X : Cx}
end
end L2
namespace Att
open PySem PySem.W PySem.Calls PyProof.Rows
theorem ints_of_wellAll {P : Params} {h : Heap} : ∀ (ns : List Int) (vs : List Value), WellAll P h vs (ns.map WData.int) → IntsAre vs ns := by
  intro ns
  induction ns with
  | nil =>
    intro vs w
    rw [List.map_nil] at w
    cases w
    exact .nil
  | cons n ns ih =>
    intro vs w
    rw [List.map_cons] at w
    cases w with
    | cons a b =>
      cases a
      exact .cons _ _ (ih _ b)
theorem script_of {l : OpenLaw} {n : Nat} (hn : l.most = some n) {P : Params} {h : Heap} {args : List WData} {vals : List Value}
    (hpre : l.row.toRowW.claim.pre args = true) (hwl : WellAll P h vals args) :
    ∃ a vs ns, vals = [Value.ref a] ∧ args = [WData.list (ns.map WData.int)] ∧ h.get? a = some { cls := .type "list", data := .seq vs.toArray } ∧ IntsAre vs ns ∧ ns.length ≤ n := by
  have hsh : WShape.hasAll [] args [.list .int] = true := (pre_splitW hpre).1
  have hc : l.pre.holds [] { args := args } = true := (pre_splitW hpre).2
  obtain ⟨d, r, rfl, h1, h2⟩ := hasAllW_cons hsh
  obtain rfl := hasAllW_nil h2
  obtain ⟨xs, rfl, h3⟩ := hasW_list h1
  obtain ⟨ns, rfl⟩ := items_int h3
  have hlen : ns.length ≤ n := by
    unfold OpenLaw.pre at hc
    have h4 : (WTm.not (.lt (.lit (.int (n : Int))) (.len (.arg 0)))).holds [] { args := [.list (ns.map .int)] } = true := by
      have h4 := (holds_andW hc).1
      rw [hn] at h4
      exact h4
    have h5 := condW_of h4 (w_not (w_lt w_lit (w_len_list (w_arg rfl))))
    rw [List.length_map] at h5
    refine Nat.le_of_not_lt fun q => ?_
    have q' : (n : Int) < ((ns.length : Nat) : Int) := by omega
    first
      | (rw [decide_eq_true q'] at h5; exact absurd h5 (by decide))
      | (simp at h5; omega)
  cases hwl with
  | cons w1 w2 =>
    cases w2
    cases w1 with
    | list ho hall => exact ⟨_, _, ns, rfl, rfl, ho, ints_of_wellAll ns _ hall, hlen⟩
theorem post_true (l : OpenLaw) (args : List WData) : l.row.toRowW.claim.post args (.bool true) args = true :=
  postW_of (r := l.row.toRowW) (X := (true == true))
    (show WShape.has [] (.bool true) .bool = true by first | rfl | decide | simp [WShape.has, WShape.arms, WShape.armsAll])
    (show (WTm.eq .res (.lit (.bool true))).value [] { args := args, res := some (.bool true), after := args } = some (.bool (true == true)) from w_eq_bool (w_res rfl) w_lit) rfl
theorem attach_call {l : OpenLaw} {n : Nat} {q : Program} {loose : List Str} {XP : (Str → Option Value) → Heap → Prop} {YP : World → Heap → Prop} {d : DefRec}
    (hn : l.most = some n) (hdf : d.params.defaults = [])
    (call : ∀ (w : World) (s₀ s₁ : Shared) (mg mb : Str → Option Value) (fa : Addr) (o : Obj) (pm cd doc : Value) (a : Addr) (vs : List Value) (ns : List Int),
      Ground q loose [] XP w s₀ mg mb s₁.heap → YP w s₁.heap →
      s₁.heap.get? fa = some o → o.data = .func (docDef d.name d.params d.body d.scope pm cd doc) → s₁.heap.CodeRec cd d.name → mg d.name = some (.ref fa) →
      s₁.heap.get? a = some { cls := .type "list", data := .seq vs.toArray } → IntsAre vs ns → ns.length ≤ n → s₁.gens = #[] →
      codeAny (model l.prog w) callerA (.call (.ref fa) ⟨[.ref a], []⟩) (fun r s' => r = .ok (.ret (.bool true)) ∧ OldK s₁.heap s'.heap ∧ s'.os = s₁.os ∧ AllBare s'.gens) s₁) :
    WalkO q loose XP YP l.row.toRowW d [] (fun f vs => PySem.call f vs) := by
  intro w s₀ s₁ mg mb G Y fa o pm cd doc dV kV ho hd hcd hD hmg hg args vals as hpre hlay hrd hwl hlo
  obtain rfl : dV = .none := Dflts.none hD hdf
  obtain rfl : kV = .none := Dflts.noKw hD
  obtain ⟨a, vs, ns, rfl, rfl, hobj, hints, hlen⟩ := script_of hn hpre hwl
  refine enter_call (codeAny_mono (call w s₀ s₁ mg mb fa o pm cd doc a vs ns G Y ho (fd_plain hd) hcd hmg hobj hints hlen hg) fun r s' hq => ?_)
  obtain ⟨rfl, h2, h3, h4⟩ := hq
  exact ⟨.inl ⟨.bool true, .bool true, [], rfl, fun _ => rfl, .bool true, post_true l _, fun _ => ⟨List.Pairwise.nil, fun _ hm => (nomatch hm)⟩⟩, h2, h3, h4⟩
section
variable {prog : Program} {w : World} {A : Around} {E : Value → Shared → Prop} {s : Shared} {K : Frag}
end
end Att
namespace L2
open PySem PySem.Spec PyProof.Rows
theorem vals_ints : ∀ {vs : List Value} {ns : List Int}, IntsAre vs ns → Vals (ns.map V.int) vs
  | _, _, .nil => .nil
  | _, _, .cons n t h => .cons ⟨t, rfl⟩ (vals_ints h)
def Only (H : Hp) : Prop := ∀ b, H b = none ∨ ∃ o xs, H b = some (.frz o (.lst xs))
theorem law_call {P : Program} {w : World} {K : PySem.W.Frag} {mg mb : Str → Option Value} {CX : CXT} {k : Nat} {fa a : Addr} {fd : FuncData} {x : Str} {sp : Sp} {s₁ : Shared} {vs : List Value} {ns : List Int}
    (KX : K.In s₁.heap) (hns : s₁.heap.Ns mainGlobals mg) (hb : s₁.heap.Ns builtinsNs mb) (hbb : ∀ x : Str, x ≠ "__name__" → mb x = bootBuiltins x) (hlim : s₁.heap.NoLimit) (hg : s₁.gens = #[])
    (ha : s₁.heap.get? a = some { cls := .type "list", data := .seq vs.toArray }) (hi : IntsAre vs ns) (hl : ns.length ≤ sizeLine) (hr : Room k callerA)
    (F : ∀ base : Heap, K.In base → base.Ns mainGlobals mg → FnOk P w K mg base CX k fa fd [x] sp) (hbind : ∀ (s : Shared) (u : Value), BindsTo s fd ⟨[u], []⟩ [(x, u)])
    (hsp : ∀ H : Hp, Only H → SqL K H a (ns.map V.int) → sp [.ref a] H (fun v _ => v = .bl true) fun _ _ _ => False)
    (hCX : ∀ H e s', CX [] H s₁ (fun _ _ _ => False) e s' → False) :
    codeAny (model P w) callerA (.call (.ref fa) ⟨[.ref a], []⟩) (fun r s' => r = .ok (.ret (.bool true)) ∧ OldK s₁.heap s'.heap ∧ s'.os = s₁.os ∧ AllBare s'.gens) s₁ := by
  have rv := vals_ints hi
  have lenV := hi.length
  have core : ∀ H : Hp, Only H → SqL K H a (ns.map V.int) → HOk P w H s₁.heap → (∀ b, H b ≠ none → b = a) → (H a ≠ none → K.lookup a = none) →
      codeAny (model P w) callerA (.call (.ref fa) ⟨[.ref a], []⟩) (fun r s' => r = .ok (.ret (.bool true)) ∧ OldK s₁.heap s'.heap ∧ s'.os = s₁.os ∧ AllBare s'.gens) s₁ := by
    intro H hO hS hok hA hK
    have base_of : ∀ {b : Addr} {o : Obj}, s₁.heap.get? b = some o → H b = none → (hidT s₁.heap H).get? b = some o := fun e n => hidT_get e n
    have noA : ∀ {b : Addr} {o : Obj} {es : Array DictEntry} {ep : Nat}, s₁.heap.get? b = some o → o.data = .dict es ep → H b = none := fun {b o es ep} e d => by
      cases q : H b with
      | none => rfl
      | some u =>
        have e' : b = a := hA b (by rw [q]; simp)
        subst e'
        rw [ha] at e; cases e
        have d' : Data.seq vs.toArray _ = Data.dict es ep := d
        cases d'
    have nsK : ∀ {b : Addr} {m : Str → Option Value}, s₁.heap.Ns b m → (hidT s₁.heap H).Ns b m := fun {b m} ⟨o, es, ep, e, d, r⟩ => ⟨o, es, ep, base_of e (noA e d), d, r⟩
    have hKb : K.In (hidT s₁.heap H) := fun b o e => base_of (KX b o e) (by
      cases q : H b with
      | none => rfl
      | some u =>
        have e' : b = a := hA b (by rw [q]; simp)
        subst e'
        rw [hK (by rw [q]; simp)] at e; cases e)
    have hM : Mod K mg (hidT s₁.heap H) := ⟨hKb, nsK hns, ⟨mb, nsK hb, hbb⟩, let ⟨mc, h1, h2⟩ := hlim; ⟨mc, nsK h1, h2⟩⟩
    have e0 : Env0 P w K mg (hidT s₁.heap H) callerA [] s₁ H := ⟨rfl, hM, fun b o e => of_hidT e, Nat.le_of_eq (hidT_size _ _), trivial, fun b hb => absurd (show b ∈ ([] : List Addr) from hb) (by simp), hok, .of_eq hg⟩
    refine codeAny_mono ((F _ hKb (nsK hns)).run callerA [] s₁ H ⟨[.ref a], []⟩ [.ref a] [.ref a] _ _ hr e0 (hbind s₁ (.ref a)) (.cons rfl .nil) (hsp H hO hS)) fun r s' h => ?_
    cases r with
    | error e => exact (hCX H e s' h).elim
    | ok fl =>
      cases fl with
      | next => exact False.elim h
      | brk => exact False.elim h
      | cont => exact False.elim h
      | ret u =>
        obtain ⟨v, H', os, bare, un, hok', r', q⟩ := h
        have q' : v = .bl true := q
        subst q'
        obtain rfl : u = Value.bool true := r'
        refine ⟨rfl, OldK.of_keep fun b o e => ?_, os, bare⟩
        cases q : H b with
        | none => exact un.keep b o e q (by intro z; exact absurd (show b ∈ ([] : List Addr) from z) (by simp)) (by simp)
        | some u =>
          rcases hO b with z | ⟨ob, xs, z⟩
          · rw [q] at z; cases z
          · have z2 := un.frzs b ob _ z
            obtain ⟨e1, _⟩ := hok b _ z
            obtain ⟨e2, _⟩ := hok' b _ z2
            rw [e] at e1; cases e1
            exact e2
  cases hk : K.lookup a with
  | some o =>
    have e := KX a o hk
    rw [ha] at e
    cases e
    refine core (fun _ => none) (fun _ => .inl rfl) (.inr ⟨_, vs.toArray, _, hk, rfl, rfl, rfl, by rw [List.size_toArray, lenV]; exact hl, by simpa using rv⟩) (fun b u z => by have z' : (none : Option HO) = some u := z; cases z') (fun b z => absurd rfl z) fun z => absurd rfl z
  | none =>
    refine core (fun b => if b = a then some (.frz { cls := .type "list", data := .seq vs.toArray } (.lst (ns.map V.int))) else none) (fun b => ?_) (.inl (.inr ⟨{ cls := .type "list", data := .seq vs.toArray }, if_pos rfl⟩)) (fun b u z => ?_) (fun b z => ?_) fun _ => hk
    · by_cases hb : b = a
      · exact .inr ⟨_, _, if_pos hb⟩
      · exact .inl (if_neg hb)
    · by_cases hb : b = a
      · have z' := (if_pos hb).symm.trans z
        cases z'
        subst hb
        exact ⟨ha, by rw [List.length_map]; exact hl, vs, _, rv, ha⟩
      · have z' := (if_neg hb).symm.trans z
        cases z'
    · by_cases hb : b = a
      · exact hb
      · exact absurd (if_neg hb) z
end L2
namespace L2
open PySem PySem.Spec PyProof.Rows
abbrev KOf {K : PySem.W.Frag} {h : Heap} (_ : K.In h) : PySem.W.Frag := K
theorem walk_of {l : PySem.W.OpenLaw} {n k : Nat} {q : Program} {loose : List Str} {XP : (Str → Option Value) → Heap → Prop} {YP : World → Heap → Prop} {d : DefRec} {K : Params → PySem.W.Frag} {CX : World → CXT} {sp : World → Sp} {x : Str}
    (hn : l.most = some n) (hn2 : n ≤ sizeLine) (hdf : d.params.defaults = []) (hr : Room k callerA)
    (hY : ∀ (w : World) (h : Heap), YP w h → (K w.params).In h)
    (F : ∀ (w : World) (mg : Str → Option Value) (fa : Addr) (h : Heap), (K w.params).In h → h.Ns mainGlobals mg → mg d.name = some (.ref fa) →
      ∃ fd : FuncData, (∀ (s : Shared) (u : Value), BindsTo s fd ⟨[u], []⟩ [(x, u)]) ∧
        ∀ base : Heap, (K w.params).In base → base.Ns mainGlobals mg → FnOk l.prog w (K w.params) mg base (CX w) k fa fd [x] (sp w))
    (hsp : ∀ (w : World) (H : Hp) (a : Addr) (ns : List Int), ns.length ≤ n → Only H → SqL (K w.params) H a (ns.map V.int) → sp w [.ref a] H (fun v _ => v = .bl true) fun _ _ _ => False)
    (hCX : ∀ (w : World) (H : Hp) (s : Shared) (e : Value) (s' : Shared), CX w [] H s (fun _ _ _ => False) e s' → False) :
    PySem.W.WalkO q loose XP YP l.row.toRowW d [] (fun f vs => PySem.call f vs) := by
  refine Att.attach_call hn hdf fun w s₀ s₁ mg mb fa o pm cd doc a vs ns G Y ho hd hcd hmg hobj hints hlen hg => ?_
  have KX := hY w _ Y
  obtain ⟨fd, hb, hF⟩ := F w mg fa _ KX G.T.g hmg
  exact law_call KX G.T.g G.T.b G.T.builtins G.T.nolimit hg hobj hints (Nat.le_trans hlen hn2) hr hF hb (fun H hO hS => hsp w H a ns hlen hO hS) fun H e s' => hCX w H s₁ e s'
end L2
/- THE LAST THEOREM (shape; LID, My.* are yours):
   My.Adr: a structure of the addresses that your layer names (classes, functions); My.Txt K t: a structure (Prop) of the equations over K;
   My.txt_mk : {K} {implicit addresses ..} (e1 : nsIn K mainGlobals "law" = some (some (.ref f))) (e2 : K.lookup f = some ⟨oc, od, .func (fnOf "law" "law" params body scope dV kV doc pm an cdv ct), sl⟩) (e3 : codeIn K cdv "law" = true) .. : ∃ t, My.Txt K t
set_option maxRecDepth 100000 in
set_option maxHeartbeats 0 in
theorem PySem.Challenge.cw_LID_holds : PySem.Challenge.rw_LID.Holds := by
  w_on; o_law; k_head; (case hw => w_witness2)
  k_fill
  refine L2.walk_of (l := PySem.Challenge.rw_LID) (n := 63) (k := 40) (x := "script") (CX := fun w => ..) (sp := fun _ => My.sp_law) rfl (by decide) rfl ⟨rfl, by decide, by decide⟩ (fun w h Y => PySem.W.kIn_of Y) ?F ?S ?C
  case F =>
    intro w mg fa h KX G hmg
    have T : ∃ t, My.Txt (L2.KOf KX) t := by
      dsimp only [L2.KOf]                          -- K must stand as «<heap const> w.params» for k_is
      refine' My.txt_mk ?e1 ?e2 ?e3 ..
      (case e1 => PySem.W.k_is)                    -- in the order: a name -> its address -> its object -> its parts
      (case e2 => PySem.W.k_is)
      ..
    obtain ⟨t, T⟩ := T
    have e0 := hmg.symm.trans (PySem.W.mg_of KX G T.law)
    cases e0                                       -- fa is the law's own address
    exact ⟨_, fun s u => .of_eq rfl, fun base kb nb => My.law_fn T kb nb⟩     -- if «.of_eq rfl» comes too early: refine' ⟨_, ?b, fun base kb nb => My.law_fn T kb nb⟩; exact fun s u => .of_eq rfl
  case S => exact fun w H a ns hl hO hS => ..
  case C => exact ..
(the tactic k_is has no namespace: write k_is) -/
namespace L2
open PySem PySem.Spec PyProof.Rows
def defArgs (s : Stmt) : Arguments := match s with
  | .FunctionDef _ a _ _ _ _ _ _ _ _ => a
  | _ => { posonlyargs := [], args := [], vararg := none, kwonlyargs := [], kw_defaults := [], kwarg := none, defaults := [] }
def defBody (s : Stmt) : List Stmt := match s with
  | .FunctionDef _ _ b _ _ _ _ _ _ _ => b
  | _ => []
def defScope (s : Stmt) : Scope := match s with
  | .FunctionDef _ _ _ _ _ _ sc _ _ _ => sc
  | _ => { kind := .function, names := [], isGenerator := false, isCoroutine := false }
abbrev CX0 : CXT := fun _ _ _ _ _ _ => False
abbrev E0 : XK := fun _ _ _ => False
theorem pass0 {X : Cx} : Passes CX0 X E0 := fun _ _ _ _ _ _ _ h => h.elim
structure Fun (K : PySem.W.Frag) (x qual : Str) (st : Stmt) (f : Addr) (fd : FuncData) : Prop where
  ex : ∃ (oc : Value) (od : Option Addr) (kV doc pm : Value) (an : Option Addr) (cdv ct : Value) (osl : Array (Option Value)),
    fd = PySem.W.fnOf x qual (defArgs st) (defBody st) (defScope st) .none kV doc pm an cdv ct ∧ K.lookup f = some ⟨oc, od, .func fd, osl⟩ ∧ PySem.W.codeIn K cdv qual = true
  kp : PySem.W.keepIn K (.ref f) = true
section
variable {P : Program} {w : World} {K : PySem.W.Frag} {mg : Str → Option Value} {base : Heap}
theorem Fun.ok {x qual : Str} {st : Stmt} {f : Addr} {fd : FuncData} {N ps : List Str} {k : Nat} {sp : Sp} (F : Fun K x qual st f fd) (S : FnScope N ps (defScope st)) (len : ∀ vs H Q E, sp vs H Q E → vs.length = ps.length)
    (hbody : ∀ (cdv : Value) (A : Around) (outer : List Env) (s : Shared) (H : Hp) (vs : List V) (Q : VK) (E : XK), Room k (A.deeper (envOfC qual (defScope st) s.heap.objs.size f cdv)) → sp vs H Q E →
      ∃ t, PSs (cxOf CX0 P w K mg base N qual (defScope st) f cdv A outer s H E).nox (defBody st) t ∧ t { nx := fun _ H' => Q .non H', rt := Q } (start N vs) H) : FnOk P w K mg base CX0 (k + 1) f fd ps sp := by
  obtain ⟨oc, od, kV, doc, pm, an, cdv, ct, osl, rfl, lk, hcd⟩ := F.ex
  refine fn_of lk hcd S len fun A outer s H vs Q E hr hsp => ?_
  obtain ⟨t, h, q⟩ := hbody cdv A outer s H vs Q E hr hsp
  exact ⟨t, h.nox, q⟩
theorem Fun.binds {x qual : Str} {st : Stmt} {f : Addr} {fd : FuncData} {ps : List Str} (F : Fun K x qual st f fd)
    (h : ∀ (kV doc pm : Value) (an : Option Addr) (cdv ct : Value) (us : List Value), us.length = ps.length → bindArgs (PySem.W.fnOf x qual (defArgs st) (defBody st) (defScope st) .none kV doc pm an cdv ct) ⟨us, []⟩ = pure (ps.zip us)) : Binds K fd ps [] := by
  obtain ⟨oc, od, kV, doc, pm, an, cdv, ct, osl, rfl, lk, hcd⟩ := F.ex
  exact .all (h kV doc pm an cdv ct)
theorem fun_mk {x qual : Str} {st : Stmt} {f : Addr} {oc : Value} {od an : Option Addr} {osl : Array (Option Value)} {kV doc pm cdv ct : Value} (l : K.lookup f = some ⟨oc, od, .func (PySem.W.fnOf x qual (defArgs st) (defBody st) (defScope st) .none kV doc pm an cdv ct), osl⟩)
    (c : PySem.W.codeIn K cdv qual = true) (k : PySem.W.keepIn K (.ref f) = true) : Fun K x qual st f (PySem.W.fnOf x qual (defArgs st) (defBody st) (defScope st) .none kV doc pm an cdv ct) := ⟨⟨oc, od, kV, doc, pm, an, cdv, ct, osl, rfl, l, c⟩, k⟩
end
theorem hu_of {A : Around} {k : Nat} (hr : Room k A) : A.units + 1 < cLine := Nat.lt_of_le_of_lt (Nat.add_le_add_left (by decide : 1 ≤ 64) _) hr.units
section
variable {X : Cx}
theorem pv (i : Nat) {x : Str} {pos : Pos} (hN : X.N[i]? = some x := by rfl) (hv : Vis X.env.scope x := by first | exact Or.inl rfl | exact Or.inr (Or.inl rfl) | exact Or.inr (Or.inr rfl)) (hd : (x == ("__debug__" : Str)) = false := by decide)
    (hcd : (x == ("__classdict__" : Str)) = false := by decide) : PE X (.Name x pos) (tVar i) := pe_var hN hv hd hcd
end
def Same (H H' : Hp) : Prop := ∀ b o, H b = some o → H' b = some o
theorem Same.refl (H : Hp) : Same H H := fun _ _ h => h
theorem Same.trans {H H1 H2 : Hp} (a : Same H H1) (b : Same H1 H2) : Same H H2 := fun c o h => b c o (a c o h)
theorem Same.free {H H' : Hp} (e : Same H H') {l : Addr} (h : H' l = Option.none) : H l = Option.none := by
  cases q : H l with
  | none => rfl
  | some o =>
    rw [e l o q] at h
    cases h
theorem Same.seq {K : PySem.W.Frag} {H H' : Hp} {a : Addr} {xs : List V} (e : Same H H') (h : SqL K H a xs) : SqL K H' a xs := by
  rcases h with (h | ⟨o, h⟩) | h
  · exact .inl (.inl (e _ _ h))
  · exact .inl (.inr ⟨o, e _ _ h⟩)
  · exact .inr h
end L2
namespace PU
open PySem L2
abbrev D := PySem.PyData
abbrev Dl := List (Option D)
abbrev Fe := Dl → Option D
abbrev Fb := Dl → Option Bool
abbrev Fa := Dl → Option (List D)
def opq (a : Addr) : D := .dict [(PyData.int ((a : Nat) : Int), PyData.none)]
def eVar (i : Nat) : Fe := fun δ => (δ[i]?).bind id
def eC (d : D) : Fe := fun _ => some d
def aNil : Fa := fun _ => some []
def aCons (f : Fe) (g : Fa) : Fa := fun δ => (f δ).bind fun x => (g δ).bind fun xs => some (x :: xs)
def fit (n : Nat) : Bool := decide (n ≤ 16777216)
def eOp (o : D → D → Option D) (f g : Fe) : Fe := fun δ => (f δ).bind fun x => (g δ).bind fun y => o x y
def eUn (o : D → Option D) (f : Fe) : Fe := fun δ => (f δ).bind o
def oI (C : Int → Int → Bool) (r : Int → Int → D) : D → D → Option D
  | .int i, .int j => if C i j then some (r i j) else none
  | _, _ => none
def oAdd : D → D → Option D
  | .int i, .int j => some (.int (i + j))
  | .tuple l, .tuple m => if fit (l.length + m.length) then some (.tuple (l ++ m)) else none
  | .list l, .list m => if fit (l.length + m.length) then some (.list (l ++ m)) else none
  | _, _ => none
def oSub : D → D → Option D := oI (fun _ _ => true) fun i j => .int (i - j)
def cMul (i j : Int) : Bool := (decide (-(2 ^ 64) < i) && decide (i < 2 ^ 64)) || (decide (-(2 ^ 64) < j) && decide (j < 2 ^ 64))
def oMul : D → D → Option D
  | .int i, .int j => if cMul i j then some (.int (i * j)) else none
  | .tuple l, .int k => if decide (2 ≤ k) && decide (k ≤ 1000) && !l.isEmpty && fit (l.length * k.toNat) then some (.tuple (List.replicate k.toNat l).flatten) else none
  | _, _ => none
def cDiv (_ j : Int) : Bool := decide (0 < j) && decide (j < 1073741824)
def oDiv : D → D → Option D := oI cDiv fun i j => .int (i / j)
def cMod (_ j : Int) : Bool := decide (0 < j)
def oMod : D → D → Option D := oI cMod fun i j => .int (i % j)
def oNeg : D → Option D
  | .int i => some (.int (-i))
  | _ => none
def oLt : D → D → Option D := oI (fun _ _ => true) fun i j => .bool (decide (i < j))
def oLe : D → D → Option D := oI (fun _ _ => true) fun i j => .bool (decide (i ≤ j))
def oGt : D → D → Option D := oI (fun _ _ => true) fun i j => .bool (decide (j < i))
def isB : D → Option Bool
  | .bool b => some b
  | _ => none
def cB (f : Fe) : Fb := fun δ => (f δ).bind isB
def eCh (o o' : D → D → Option D) (f g k : Fe) : Fe := fun δ => (f δ).bind fun x => (g δ).bind fun y => (o x y).bind fun z => (isB z).bind fun t => if t then (k δ).bind fun w => o' y w else some (.bool false)
def eAnd (f g : Fe) : Fe := fun δ => (f δ).bind fun x => (isB x).bind fun t => if t then g δ else some (.bool false)
def eNot (f : Fe) : Fe := fun δ => (f δ).bind fun x => (isB x).bind fun t => some (.bool (!t))
def cAnd (p q : Fb) : Fb := fun δ => (p δ).bind fun t => if t then q δ else some false
def cOr (p q : Fb) : Fb := fun δ => (p δ).bind fun t => if t then some true else q δ
def cNot (p : Fb) : Fb := fun δ => (p δ).bind fun t => some (!t)
def tru : D → Option Bool
  | .none => some false
  | .bool b => some b
  | .int i => some (i != 0)
  | .list l => some (!l.isEmpty)
  | .tuple l => some (!l.isEmpty)
  | _ => none
def cT (f : Fe) : Fb := fun δ => (f δ).bind tru
def mkT (l : List D) : Option D := if fit l.length then some (.tuple l) else none
def mkL (l : List D) : Option D := if fit l.length then some (.list l) else none
def eTup (g : Fa) : Fe := fun δ => (g δ).bind mkT
def eLst (g : Fa) : Fe := fun δ => (g δ).bind mkL
def oIx : D → D → Option D
  | .list l, .int i => atI l i
  | .tuple l, .int i => atI l i
  | _, _ => none
def eCall (F : List D → Option D) (g : Fa) : Fe := fun δ => (g δ).bind F
def fLen : List D → Option D
  | [.list l] => some (.int l.length)
  | [.tuple l] => some (.int l.length)
  | _ => none
def fTuple : List D → Option D
  | [.list l] => some (.tuple l)
  | [.tuple l] => some (.tuple l)
  | _ => none
def fList : List D → Option D
  | [.list l] => some (.list l)
  | [.tuple l] => some (.list l)
  | _ => none
abbrev Fi := Dl → Option (List D)
abbrev Fg := D → Dl → Option Dl
def isSeq : D → Option (List D)
  | .list l => some l
  | .tuple l => some l
  | _ => none
def iSeq (f : Fe) : Fi := fun δ => (f δ).bind isSeq
def rngD (lo : Int) (n : Nat) : List D := (List.range n).map fun (i : Nat) => PyData.int (lo + i)
def cR (i : Int) : Bool := decide (-(2 ^ 62) ≤ i) && decide (i < 2 ^ 62)
def rngOf : List D → Option (List D)
  | [.int j] => if cR j then some (rngD 0 j.toNat) else none
  | [.int i, .int j] => if cR i && cR j then some (rngD i (j - i).toNat) else none
  | _ => none
def iRng (g : Fa) : Fi := fun δ => (g δ).bind rngOf
def gN (i : Nat) : Fg := fun d δ => some (δ.set i (some d))
def selD (sel : List (Option Nat)) (δ : Dl) : Dl := sel.map fun o => o.bind fun j => (δ[j]?).bind id
def lcF (gf : Fg) (ct : Fb) (fe : Fe) (δ : Dl) : List D → Option (List D)
  | [] => some []
  | d :: ds => (gf d δ).bind fun δ1 => (ct δ1).bind fun t => if t then (fe δ1).bind fun y => (lcF gf ct fe δ ds).bind fun ys => some (y :: ys) else lcF gf ct fe δ ds
def eLc (fi : Fi) (sel : List (Option Nat)) (gf : Fg) (ct : Fb) (fe : Fe) : Fe := fun δ => (fi δ).bind fun ds => if fit ds.length then (lcF gf ct fe (selD sel δ) ds).bind fun ys => some (.list ys) else none
def cTrue : Fb := fun _ => some true
inductive Fl where
  | nx (δ : Dl) | rt (d : D) | bk (δ : Dl) | ct (δ : Dl)
abbrev Fs := Dl → Option Fl
def sNext : Fs := fun δ => some (.nx δ)
def sSeq (f g : Fs) : Fs := fun δ => (f δ).bind fun r => match r with
  | .nx δ' => g δ'
  | .rt d => some (.rt d)
  | .bk δ' => some (.bk δ')
  | .ct δ' => some (.ct δ')
def sRet (f : Fe) : Fs := fun δ => (f δ).bind fun d => some (.rt d)
def sSet (i : Nat) (f : Fe) : Fs := fun δ => (f δ).bind fun d => some (.nx (δ.set i (some d)))
def sIf (p : Fb) (f g : Fs) : Fs := fun δ => (p δ).bind fun t => if t then f δ else g δ
def startD (n : Nat) (ds : List D) : Dl := ds.map some ++ List.replicate (n - ds.length) none
def finish : Option Fl → Option D
  | some (.rt d) => some d
  | some (.nx _) => some .none
  | _ => none
def dataOf (n : Nat) (B : Fs) : List D → Option D := fun ds => finish (B (startD n ds))
def isInt : D → Option Int
  | .int i => some i
  | _ => none
def isBl : D → Option Bool
  | .bool b => some b
  | _ => none
def allOf {α : Type} (h : D → Option α) : List D → Option (List α)
  | [] => some []
  | d :: ds => (h d).bind fun x => (allOf h ds).bind fun xs => some (x :: xs)
def fAll : List D → Option D
  | [.list l] => (allOf isBl l).bind fun bs => some (.bool (bs.all id))
  | _ => none
def kindOf : D → String
  | .none => "NoneType"
  | .bool _ => "bool"
  | .int _ => "int"
  | .str _ => "str"
  | .list _ => "list"
  | .tuple _ => "tuple"
  | .dict _ => "dict"
def noD : D → Bool
  | .dict _ => false
  | _ => true
def isK (T : String) (d : D) : Bool := kindOf d == T || (T == "int" && kindOf d == "bool")
def eIs (T : String) (f : Fe) : Fe := fun δ => (f δ).bind fun d => if noD d then some (.bool (isK T d)) else none
def oEq (x y : D) : Option D := if SeqAt.shaped x && SeqAt.shaped y then some (.bool (PyData.eqv x y)) else none
def oNe (x y : D) : Option D := if SeqAt.shaped x && SeqAt.shaped y then some (.bool (!PyData.eqv x y)) else none
abbrev Fp := Dl → Option (Option Int)
def oNone : Fp := fun _ => some none
def oSome (f : Fe) : Fp := fun δ => (f δ).bind fun d => (isInt d).bind fun i => some (some i)
def cutD {α : Type} (xs : List α) (lo hi : Option Int) : List α := (xs.drop (HT.sIx xs.length 0 lo)).take (HT.sIx xs.length xs.length hi - HT.sIx xs.length 0 lo)
def slD (x : D) (lo hi : Option Int) : Option D := match x with
  | .list l => some (.list (cutD l lo hi))
  | .tuple l => some (.tuple (cutD l lo hi))
  | _ => none
def eSl (f : Fe) (lo hi : Fp) : Fe := fun δ => (f δ).bind fun x => (lo δ).bind fun l => (hi δ).bind fun u => slD x l u
abbrev Fo := Dl → List D → Option (Fl × List D)
def oSeq (f g : Fo) : Fo := fun δ ds => (f δ ds).bind fun r => match r with
  | (.nx δ', ds') => g δ' ds'
  | (.rt d, ds') => some (.rt d, ds')
  | (.bk d, ds') => some (.bk d, ds')
  | (.ct d, ds') => some (.ct d, ds')
def oLift (f : Fs) : Fo := fun δ ds => (f δ).bind fun r => some (r, ds)
def oClose (o : Nat) (f : Fs) : Fo := fun δ ds => (f (δ.set o (some (.list ds)))).bind fun r => match r with
  | .rt d => some (.rt d, [])
  | _ => none
def oApp (o : Nat) (f : Fe) : Fo := fun δ ds => (f δ).bind fun d => if fit (ds.length + 1) then some (.nx δ, ds ++ [d]) else none
def forO (gf : Fg) (body : Fo) : List D → Dl → List D → Option (Fl × List D)
  | [], δ, ds => some (.nx δ, ds)
  | x :: r, δ, ds => (gf x δ).bind fun δ1 => (body δ1 ds).bind fun fl => match fl with
    | (.nx δ2, ds2) => forO gf body r δ2 ds2
    | (.ct δ2, ds2) => forO gf body r δ2 ds2
    | (.bk δ2, ds2) => some (.nx δ2, ds2)
    | (.rt d, ds2) => some (.rt d, ds2)
def oFor (fi : Fi) (gf : Fg) (body : Fo) : Fo := fun δ ds => (fi δ).bind fun es => forO gf body es δ ds
mutual
def noDict : D → Bool
  | .dict _ => false
  | .list l => noDicts l
  | .tuple l => noDicts l
  | .none => true
  | .bool _ => true
  | .int _ => true
  | .str _ => true
def noDicts : List D → Bool
  | [] => true
  | d :: ds => noDict d && noDicts ds
end
def stepD {α : Type} (k : Nat) (l : List α) : List α := (List.range ((l.length + k - 1) / k)).filterMap fun (i : Nat) => l[i * k]?
open Classical in
noncomputable def oOpen (o : Nat) (fa : Fa) (fo : Fo) : Fs := fun δ =>
  if h : o < δ.length ∧ ∃ d ds0, fa δ = some ds0 ∧ fit ds0.length = true ∧ ∀ p : Addr, ∃ ds, fo (δ.set o (some (opq p))) ds0 = some (.rt d, ds) then some (.rt (Classical.choose h.2)) else none
def addK {α : Type} [DecidableEq α] (ks : List α) (k : α) : List α := if k ∈ ks then ks else ks ++ [k]
def encR (r : List Int) : D := .tuple (r.map PyData.int)
def encT (t : List (List Int)) : D := .tuple (t.map encR)
end PU
namespace L2
open PySem PySem.Spec PyProof.Rows
section
variable {κ : Type} [DecidableEq κ]
def valV (kvs : List (κ × V)) (k : κ) : Option V := (kvs.find? fun kv => decide (kv.1 = k)).map (·.2)
def putK (kvs : List (κ × V)) (k : κ) (v : V) : List (κ × V) :=
  if (kvs.any fun kv => decide (kv.1 = k)) = true then kvs.map (fun kv => if kv.1 = k then (kv.1, v) else kv) else kvs ++ [(k, v)]
def dropK (kvs : List (κ × V)) (k : κ) : List (κ × V) := kvs.filter fun kv => decide (kv.1 ≠ k)
theorem valV_pos {p : κ × V} {r : List (κ × V)} {k : κ} (e : p.1 = k) : valV (p :: r) k = some p.2 := by simp [valV, List.find?_cons, e]
theorem valV_neg {p : κ × V} {r : List (κ × V)} {k : κ} (e : ¬ p.1 = k) : valV (p :: r) k = valV r k := by simp [valV, List.find?_cons, e]
theorem valV_any (k : κ) : ∀ kvs : List (κ × V), (kvs.any fun kv => decide (kv.1 = k)) = (valV kvs k).isSome
  | [] => rfl
  | p :: r => by
    rw [List.any_cons]
    by_cases e : p.1 = k
    · simp only [valV_pos e, decide_eq_true e, Bool.true_or, Option.isSome_some]
    · rw [valV_neg e, decide_eq_false e, Bool.false_or]; exact valV_any k r
theorem length_putK (kvs : List (κ × V)) (k : κ) (v : V) : (putK kvs k v).length ≤ kvs.length + 1 := by
  unfold putK
  split
  · rw [List.length_map]; omega
  · rw [List.length_append, List.length_cons, List.length_nil]; omega
theorem RelO.isSome_eq {o : Option V} {u : Option Value} (r : RelO o u) : o.isSome = u.isSome := by
  cases o with
  | none => cases u with
    | none => rfl
    | some _ => exact (show False from r).elim
  | some _ => cases u with
    | none => exact (show False from r).elim
    | some _ => rfl
theorem RelO.getD {o : Option V} {u : Option Value} {d : V} {d' : Value} (r : RelO o u) (rd : RelV d d') : RelV (o.getD d) (u.getD d') := by
  cases o with
  | none => cases u with
    | none => exact rd
    | some _ => exact (show False from r).elim
  | some _ => cases u with
    | none => exact (show False from r).elim
    | some _ => exact r
theorem KV.val {kvs : List (κ × V)} {vs : List (κ × Value)} (r : KV kvs vs) (k : κ) : RelO (valV kvs k) (valueAt vs k) := by
  unfold KV at r
  induction r with
  | nil => exact True.intro
  | @cons p q ps qs h t ih =>
    obtain ⟨h1, h2⟩ := h
    by_cases e : p.1 = k
    · have e' : q.1 = k := h1.symm.trans e
      have b : valueAt (q :: qs) k = some q.2 := by simp [valueAt, List.find?_cons, e']
      rw [valV_pos e, b]; exact h2
    · have e' : ¬ q.1 = k := fun z => e (h1.trans z)
      have b : valueAt (q :: qs) k = valueAt qs k := by simp [valueAt, List.find?_cons, e']
      rw [valV_neg e, b]; exact ih
theorem KV.any {kvs : List (κ × V)} {vs : List (κ × Value)} (r : KV kvs vs) (k : κ) : (kvs.any fun kv => decide (kv.1 = k)) = vs.any fun kv => decide (kv.1 = k) := by
  unfold KV at r
  induction r with
  | nil => rfl
  | cons h t ih => rw [List.any_cons, List.any_cons, ih, h.1]
theorem KV.repl {kvs : List (κ × V)} {vs : List (κ × Value)} (r : KV kvs vs) (k : κ) {y : V} {u : Value} (ry : RelV y u) :
    KV (kvs.map fun kv => if kv.1 = k then (kv.1, y) else kv) (vs.map fun kv => if kv.1 = k then (kv.1, u) else kv) := by
  unfold KV at r ⊢
  induction r with
  | nil => exact .nil
  | @cons p q ps qs h t ih =>
    rw [List.map_cons, List.map_cons]
    refine .cons ?_ ih
    obtain ⟨h1, h2⟩ := h
    by_cases e : p.1 = k
    · rw [if_pos e, if_pos (h1.symm.trans e)]; exact ⟨h1, ry⟩
    · rw [if_neg e, if_neg (fun z => e (h1.trans z))]; exact ⟨h1, h2⟩
theorem KV.put {kvs : List (κ × V)} {vs : List (κ × Value)} (r : KV kvs vs) (k : κ) {y : V} {u : Value} (ry : RelV y u) : KV (putK kvs k y) (stored vs k u) := by
  unfold putK stored
  rw [r.any k]
  by_cases e : (vs.any fun kv => decide (kv.1 = k)) = true
  · rw [if_pos e, if_pos e]; exact r.repl k ry
  · rw [if_neg e, if_neg e]; exact Paired.snoc r ⟨rfl, ry⟩
theorem KV.drop {kvs : List (κ × V)} {vs : List (κ × Value)} (r : KV kvs vs) (k : κ) : KV (dropK kvs k) (without vs k) := by
  unfold KV at r ⊢
  unfold dropK without
  induction r with
  | nil => exact .nil
  | @cons p q ps qs h t ih =>
    obtain ⟨h1, h2⟩ := h
    rw [List.filter_cons, List.filter_cons]
    by_cases e : p.1 = k
    · have a : ¬ decide (p.1 ≠ k) = true := by simp [e]
      have b : ¬ decide (q.1 ≠ k) = true := by simp [h1.symm.trans e]
      rw [if_neg a, if_neg b]; exact ih
    · have e' : ¬ q.1 = k := fun z => e (h1.trans z)
      have a : decide (p.1 ≠ k) = true := by simp [e]
      have b : decide (q.1 ≠ k) = true := by simp [e']
      rw [if_pos a, if_pos b]; exact .cons ⟨h1, h2⟩ ih
theorem KV.length {kvs : List (κ × V)} {vs : List (κ × Value)} (r : KV kvs vs) : kvs.length = vs.length := Paired.length r
end
theorem kV_is {P : Program} {w : World} {k : Key} {u : Value} (r : RelV (kV k) u) : (mixKind P w).is k u = true := by
  cases k with
  | inl i => obtain ⟨t, e⟩ := (show ∃ t, u = Value.int i t from r); subst e; exact mixKind_int P w i t
  | inr x => obtain ⟨t, e⟩ := (show ∃ t, u = Value.str x t from r); subst e; exact mixKind_str P w x t
theorem items_are {P : Program} {w : World} : ∀ {ks : List Key} {us : List Value}, Vals (ks.map kV) us → ItemsAre (mixKind P w) ks us
  | [], _, r => by rw [List.map_nil] at r; cases r; exact .nil
  | k :: ks, _, r => by
    rw [List.map_cons] at r
    cases r with
    | cons h t => exact .cons (kV_is h) (items_are t)
abbrev KT (H : Hp) : List (List Key × V) → List (List Key × Addr × Value) → Prop := Paired fun p q => p.1 = q.1 ∧ H q.2.1 = some (.tup (p.1.map kV)) ∧ RelV p.2 q.2.2
theorem KT.val {H : Hp} {kvs : List (List Key × V)} {xs : List (List Key × Addr × Value)} (r : KT H kvs xs) (k : List Key) : RelO (valV kvs k) ((atKey xs k).map (·.2)) := by
  induction r with
  | nil => exact True.intro
  | @cons p q ps qs h t ih =>
    obtain ⟨h1, _, h2⟩ := h
    by_cases e : p.1 = k
    · have e' : q.1 = k := h1.symm.trans e
      have b : atKey (q :: qs) k = some q.2 := by simp [atKey, List.find?_cons, e']
      rw [valV_pos e, b]; exact h2
    · have e' : ¬ q.1 = k := fun z => e (h1.trans z)
      have b : atKey (q :: qs) k = atKey qs k := by simp [atKey, List.find?_cons, e']
      rw [valV_neg e, b]; exact ih
theorem KT.repl {H : Hp} {kvs : List (List Key × V)} {xs : List (List Key × Addr × Value)} (r : KT H kvs xs) (k : List Key) {y : V} {u : Value} (ry : RelV y u) :
    KT H (kvs.map fun kv => if kv.1 = k then (kv.1, y) else kv) (xs.map (putAt k u)) := by
  induction r with
  | nil => exact .nil
  | @cons p q ps qs h t ih =>
    rw [List.map_cons, List.map_cons]
    refine .cons ?_ ih
    obtain ⟨h1, h2, h3⟩ := h
    unfold putAt
    by_cases e : p.1 = k
    · rw [if_pos e, if_pos (h1.symm.trans e)]; exact ⟨h1, h2, ry⟩
    · rw [if_neg e, if_neg (fun z => e (h1.trans z))]; exact ⟨h1, h2, h3⟩
theorem KT.put {H : Hp} {kvs : List (List Key × V)} {xs : List (List Key × Addr × Value)} (r : KT H kvs xs) (k : List Key) {b : Addr} {y : V} {u : Value} (hb : H b = some (.tup (k.map kV))) (ry : RelV y u) :
    KT H (putK kvs k y) (storedH xs k b u) := by
  have e : (kvs.any fun kv => decide (kv.1 = k)) = (atKey xs k).isSome := by
    rw [valV_any, (r.val k).isSome_eq, Option.isSome_map]
  unfold putK storedH
  rw [e]
  by_cases q : (atKey xs k).isSome = true
  · rw [if_pos q, if_pos q]; exact r.repl k ry
  · rw [if_neg q, if_neg q]; exact Paired.snoc r ⟨rfl, hb, ry⟩
theorem KT.keeps {H H' : Hp} {kvs : List (List Key × V)} {xs : List (List Key × Addr × Value)} (r : KT H kvs xs) (ht : ∀ b ys, H b = some (.tup ys) → H' b = some (.tup ys)) : KT H' kvs xs :=
  Paired.mapP r fun _ _ z => ⟨z.1, ht _ _ z.2.1, z.2.2⟩
section
variable {P : Program} {w : World} {H : Hp} {h : Heap} {a : Addr}
theorem rd_of {u : HO} (ok : HOk P w H h) (e : Rd H a u) : ObjOk P w H h a u := e.ok ok
theorem dk_rd {kvs : List (Key × V)} (ok : HOk P w H h) (e : Rd H a (.dK kvs)) : kvs.length ≤ sizeLine ∧ (a == sysModules) = false ∧ ∃ vs, KV kvs vs ∧ h.DictOf (mixKind P w) a vs :=
  show ObjOk P w H h a (.dK kvs) from rd_of ok e
theorem dk_of {kvs : List (Key × V)} (ok : HOk P w H h) (e : H a = some (.dK kvs)) : kvs.length ≤ sizeLine ∧ (a == sysModules) = false ∧ ∃ vs, KV kvs vs ∧ h.DictOf (mixKind P w) a vs := dk_rd ok (.inl e)
theorem key_of {ks : List Key} (ok : HOk P w H h) (e : H a = some (.tup (ks.map kV))) : (tupleKind (mixKind P w)).is h ks a := by
  obtain ⟨_, its, r, o, h1, _, h2, n, h3⟩ := (show ObjOk P w H h a (.tup (ks.map kV)) from ok a _ e)
  exact ⟨o, its.toArray, n, h1, h2, h3, by simpa using items_are r⟩
theorem dt_rd {kvs : List (List Key × V)} (ok : HOk P w H h) (e : Rd H a (.dT kvs)) : kvs.length ≤ sizeLine ∧ (a == sysModules) = false ∧
    ∃ xs, KT H kvs xs ∧ h.DictOfH (tupleKind (mixKind P w)) a xs := by
  obtain ⟨z, y, xs, r, o, es, ep, h1, h2, h3, h4, h5⟩ := (show ObjOk P w H h a (.dT kvs) from rd_of ok e)
  refine ⟨z, y, xs, r, o, es, ep, h1, h2, h3, h4, fun x hx => ?_, h5⟩
  have all : ∀ {l : List (List Key × V)} {m : List (List Key × Addr × Value)}, KT H l m → ∀ x ∈ m, (tupleKind (mixKind P w)).is h x.1 x.2.1 := by
    intro l m q
    induction q with
    | nil => intro x hx; exact nomatch hx
    | @cons p q ps qs hq t ih =>
      intro x hx
      rcases List.mem_cons.mp hx with e | hx
      · subst e
        exact key_of ok (by rw [← hq.1]; exact hq.2.1)
      · exact ih x hx
  exact all r x hx
theorem dt_of {kvs : List (List Key × V)} (ok : HOk P w H h) (e : H a = some (.dT kvs)) : kvs.length ≤ sizeLine ∧ (a == sysModules) = false ∧
    ∃ xs, KT H kvs xs ∧ h.DictOfH (tupleKind (mixKind P w)) a xs := dt_rd ok (.inl e)
end
def DGet (H : Hp) (a : Addr) (y : V) (r : Option V) : Prop :=
  (∃ kvs k, Rd H a (.dK kvs) ∧ y = kV k ∧ r = valV kvs k) ∨ ∃ kvs k b, Rd H a (.dT kvs) ∧ y = .ref b ∧ H b = some (.tup (k.map kV)) ∧ r = valV kvs k
def DPut (H : Hp) (a : Addr) (y v : V) (H' : Hp) : Prop :=
  (∃ kvs k, H a = some (.dK kvs) ∧ y = kV k ∧ kvs.length < sizeLine ∧ H' = upd H a (.dK (putK kvs k v))) ∨
  ∃ kvs k b, H a = some (.dT kvs) ∧ y = .ref b ∧ H b = some (.tup (k.map kV)) ∧ kvs.length < sizeLine ∧ H' = upd H a (.dT (putK kvs k v))
theorem DGet.k {H : Hp} {a : Addr} {kvs : List (Key × V)} {k : Key} (e : H a = some (.dK kvs)) : DGet H a (kV k) (valV kvs k) := .inl ⟨kvs, k, .inl e, rfl, rfl⟩
theorem DGet.t {H : Hp} {a b : Addr} {kvs : List (List Key × V)} {k : List Key} (e : H a = some (.dT kvs)) (eb : H b = some (.tup (k.map kV))) : DGet H a (.ref b) (valV kvs k) := .inr ⟨kvs, k, b, .inl e, rfl, eb, rfl⟩
theorem DPut.k {H : Hp} {a : Addr} {kvs : List (Key × V)} {k : Key} {v : V} (e : H a = some (.dK kvs)) (hl : kvs.length < sizeLine) : DPut H a (kV k) v (upd H a (.dK (putK kvs k v))) := .inl ⟨kvs, k, e, rfl, hl, rfl⟩
theorem DPut.t {H : Hp} {a b : Addr} {kvs : List (List Key × V)} {k : List Key} {v : V} (e : H a = some (.dT kvs)) (eb : H b = some (.tup (k.map kV))) (hl : kvs.length < sizeLine) :
    DPut H a (.ref b) v (upd H a (.dT (putK kvs k v))) := .inr ⟨kvs, k, b, e, rfl, eb, hl, rfl⟩
section
variable {X : Cx} {pins : List (Addr × Obj)} {σ : St} {H : Hp} {s : Shared} {a : Addr} {y v : V} {u r : Value} {o : Option V} {A : Around} {E : Value → Shared → Prop}
theorem Inv.big (I : Inv X pins σ H s) : sysModules < s.heap.objs.size := by
  have h : mainGlobals < s.heap.objs.size := (I.mod.glob.keeps I.bk).lt
  exact Nat.lt_trans (by decide) h
theorem d_write {h' : Heap} {t' : Nat} {ob : HO} (I : Inv X pins σ H s) (mu : Mut (H a)) (hs : Heap.SameBut a s.heap h') (he : ∃ q, h'.get? a = some q) (new : ObjOk X.prog X.w (upd H a ob) h' a ob) :
    Inv X pins σ (upd H a ob) { s with heap := h', toks := t' } :=
  I.write (x := a) (e := a) mu (.inl rfl) (fun b q hb z => (hs.2 b hb).trans z) he new
theorem dk_new {P : Program} {w : World} {H' : Hp} {h' : Heap} {kvs : List (Key × V)} {vs : List (Key × Value)} (z : kvs.length ≤ sizeLine) (hd : (a == sysModules) = false) (rel : KV kvs vs) (dd : h'.DictOf (mixKind P w) a vs) :
    ObjOk P w H' h' a (.dK kvs) := ⟨z, hd, vs, rel, dd⟩
theorem d_setItem {H' : Hp} {Q : Unit → Shared → Prop} (hu : A.units + 1 < cLine) (I : Inv X pins σ H s) (g : DPut H a y v H') (ry : RelV y u) (rv : RelV v r) (h : ∀ s', Inv X pins σ H' s' → Q () s') :
    wpAny (model X.prog X.w) A (setItem (.ref a) u r) Q E s := by
  rcases g with ⟨kvs, k, e, ey, l, eH⟩ | ⟨kvs, k, b, e, ey, eb, l, eH⟩
  · subst ey eH
    obtain ⟨z, hd, vs, rel, dd⟩ := dk_of I.hok e
    have hz : vs.length ≤ sizeLine := by rw [← rel.length]; exact z
    have hl : (putK kvs k v).length ≤ sizeLine := by have := length_putK kvs k v; omega
    refine wpAny_setItem_pairs (hsz := hz) (kV_is ry) dd fun h' dd' hs => h _ ?_
    have he : ∃ q, h'.get? a = some q := let ⟨q, _, _, hq, _⟩ := dd'; ⟨q, hq⟩
    exact d_write I (by rw [e]; exact True.intro) hs he (dk_new hl hd (rel.put k rv) dd')
  · subst ey eH
    cases (show u = Value.ref b from ry)
    obtain ⟨z, hd, xs, rel, dd⟩ := dt_of I.hok e
    have hz : xs.length ≤ sizeLine := by rw [← Paired.length rel]; exact z
    have hl : (putK kvs k v).length ≤ sizeLine := by have := length_putK kvs k v; omega
    refine wpAny_setItem_heap (hsz := hz) (tupleKind_room_in1 hu) (key_of I.hok eb) dd fun h' dd' hs => h _ ?_
    obtain ⟨q, es, ep, hq, h2, h3, h4, _, h5⟩ := dd'
    refine d_write I (by rw [e]; exact True.intro) hs ⟨q, hq⟩ ⟨hl, hd, _, (rel.put k eb rv).keeps fun c ys ec => ?_, q, es, ep, hq, h2, h3, h4, h5⟩
    rw [upd_ne (ne_of ec e (fun z => nomatch z))]
    exact ec
end
section
variable {X : Cx} {pins : List (Addr × Obj)} {σ : St} {H : Hp} {s : Shared} {a : Addr} {kvs : List (Key × V)} {k : Key} {u : Value} {A : Around} {E : Value → Shared → Prop}
theorem d_len {Q : Value → Shared → Prop} (I : Inv X pins σ H s) (e : Rd H a (.dK kvs)) (h : ∀ t s', Inv X pins σ H s' → Q (.int kvs.length t) s') : wpAny (model X.prog X.w) A (call (.builtin "len") [.ref a]) Q E s := by
  obtain ⟨z, hd, vs, rel, dd⟩ := dk_rd I.hok e
  refine call_len_dict hd dd (by rw [← rel.length]; rw [sizeLine_eq] at z; omega) ?_
  rw [← rel.length]
  exact h _ _ (I.tok _)
end
def sDPut (td ty tv : TE) : TS := fun D σ H => tv σ H fun v H1 => td σ H1 fun x H2 => ty σ H2 fun y H3 => ∃ a H4, x = .ref a ∧ DPut H3 a y v H4 ∧ D.nx σ H4
section
variable {X : Cx} {o i e value : Expr} {pos pos' tpos : Pos} {td ty tv : TE}
theorem ps_dput (hu : X.A.units + 1 < cLine) (ho : PE X o td) (hi : PE X i ty) (hv : PE X value tv) (hs : swapsWith value (some (.Subscript o i pos')) pos.line X.env = pure false) :
    PS X (.Assign [.Subscript o i pos'] value pos) (sDPut td ty tv) := by
  intro pins s σ H D I h
  refine wpAny_Assign_Subscript (thn (hv pins s σ H _ I h) fun r s1 ⟨v, H1, I1, rv, q1⟩ => thn (ho pins s1 σ H1 _ I1 q1) fun u s2 ⟨x, H2, I2, rx, q2⟩ => thn (hi pins s2 σ H2 _ I2 q2) fun iv s3 ⟨y, H3, I3, ry, a, H4, ex, g, q3⟩ => ?_) hs
  subst ex
  obtain rfl : u = Value.ref a := rx
  exact d_setItem hu I3 g ry rv fun s4 I4 => ⟨σ, H4, I4, q3⟩
end
theorem dk_empty {P : Program} {w : World} {H : Hp} (h : Heap) (hb : sysModules < h.objs.size) : ObjOk P w H (h.push { cls := .type "dict", data := .dict #[] }) h.objs.size (.dK []) :=
  ⟨Nat.zero_le _, beq_eq_false_iff_ne.mpr (Ne.symm (Nat.ne_of_lt hb)), [], .nil, Heap.DictOf.new h⟩
def tDNewK : TE := fun _ H Q => ∀ p, H p = none → Q (.ref p) (upd H p (.dK []))
section
variable {X : Cx} {pos : Pos}
theorem pe_dnewK : PE X (.Dict [] [] pos) tDNewK := fun pins s σ H Q I h =>
  wpAny_Dict_empty ⟨.ref s.heap.objs.size, _, I.laid (a := s.heap.objs.size) (o := .dK []) (t' := s.toks) (fun _ _ q => Heap.get?_push_of_some _ q) (Nat.le_refl _) (dk_empty s.heap I.big), rfl, h _ (I.hok.fresh (Nat.le_refl _))⟩
end
section
variable {X : Cx}
theorem call_lenD : CallR X (.builtin "len") (fun xs H Q => ∃ a kvs, xs = [V.ref a] ∧ H a = some (.dK kvs) ∧ Q (.int kvs.length) H) := by
  intro pins s σ H xs us Q I r h
  obtain ⟨a, kvs, rfl, ha, q⟩ := h
  obtain ⟨u, rfl, ru⟩ := vals1 r
  cases ru
  exact d_len I (.inl ha) fun t s' I' => ⟨.int kvs.length, H, I', ⟨t, rfl⟩, q⟩
end
end L2
namespace L2
open PySem PySem.Spec PyProof.Rows
def closL (env : Env) : List (Str × NameKind) → List (Str × Addr) → List (Str × Addr)
  | [], acc => acc
  | (n, k) :: r, acc => closL env r (if (k == NameKind.free) = true then (n, (env.cells.lookup n).getD 0) :: acc else acc)
theorem closL_run {env : Env} (f : Str × NameKind → List (Str × Addr) → Sem (ForInStep (List (Str × Addr))))
    (hf : ∀ n k cs, f (n, k) cs = if (k == NameKind.free) = true then (do let a ← cellOf env n; pure (.yield ((n, a) :: cs))) else pure (.yield cs)) :
    ∀ (names : List (Str × NameKind)) (acc : List (Str × Addr)), (∀ y ∈ names, y.2 = .free → ∃ c, env.cells.lookup y.1 = some c) → (forIn names acc f : Sem (List (Str × Addr))) = pure (closL env names acc)
  | [], acc, _ => by rw [List.forIn_nil]; rfl
  | (n, k) :: r, acc, h => by
    rw [List.forIn_cons, hf]
    have hr : ∀ y ∈ r, y.2 = .free → ∃ c, env.cells.lookup y.1 = some c := fun y hy => h y (List.mem_cons_of_mem _ hy)
    unfold closL
    by_cases hk : (k == NameKind.free) = true
    · obtain ⟨c, hc⟩ := h (n, k) List.mem_cons_self (by simpa using hk)
      have e : cellOf env n = pure c := by unfold cellOf; rw [hc]
      rw [if_pos hk, if_pos hk, e, hc]
      exact closL_run f hf r _ hr
    · rw [if_neg hk, if_neg hk]
      exact closL_run f hf r _ hr
theorem closL_eq {scope : Scope} {env : Env} (h : ∀ y ∈ scope.names, y.2 = .free → ∃ c, env.cells.lookup y.1 = some c) : closureFor scope env = pure (closL env scope.names []) := by
  simp only [closureFor]
  rw [closL_run (env := env) _ (fun n k cs => by by_cases hk : (k == NameKind.free) = true <;> simp [hk]) scope.names [] h]
  rfl
theorem closL_get {env : Env} {x : Str} {c : Addr} : ∀ {names : List (Str × NameKind)} {acc : List (Str × Addr)}, (∀ y ∈ names, y.2 = .free → ∃ c, env.cells.lookup y.1 = some c) → (closL env names acc).lookup x = some c →
    acc.lookup x = some c ∨ (env.cells.lookup x = some c ∧ (x, NameKind.free) ∈ names)
  | [], acc, _, e => .inl e
  | (n, k) :: r, acc, h, e => by
    have hr : ∀ y ∈ r, y.2 = .free → ∃ c, env.cells.lookup y.1 = some c := fun y hy => h y (List.mem_cons_of_mem _ hy)
    unfold closL at e
    rcases closL_get hr e with q | ⟨q1, q2⟩
    · by_cases hk : (k == NameKind.free) = true
      · rw [if_pos hk] at q
        have hk' : k = NameKind.free := by simpa using hk
        obtain ⟨c', hc⟩ := h (n, k) List.mem_cons_self hk'
        have hc' : env.cells.lookup n = some c' := hc
        rw [List.lookup_cons] at q
        cases hx : (x == n) with
        | true =>
          rw [hx] at q
          have xn : x = n := by simpa using hx
          subst xn
          rw [hc'] at q
          refine .inr ⟨?_, by rw [hk']; exact List.mem_cons_self⟩
          rw [hc']
          exact q
        | false =>
          rw [hx] at q
          exact .inl q
      · rw [if_neg hk] at q
        exact .inl q
    · exact .inr ⟨q1, List.mem_cons_of_mem _ q2⟩
theorem lookup_some_cons {x n : Str} {c : Addr} {acc : List (Str × Addr)} (h : ∃ d, acc.lookup x = some d) : ∃ d, ((n, c) :: acc).lookup x = some d := by
  rw [List.lookup_cons]
  cases (x == n) with
  | true => exact ⟨_, rfl⟩
  | false => exact h
theorem closL_has {env : Env} {x : Str} : ∀ {names : List (Str × NameKind)} {acc : List (Str × Addr)}, ((x, NameKind.free) ∈ names ∨ ∃ c, acc.lookup x = some c) → ∃ c, (closL env names acc).lookup x = some c
  | [], acc, h => by
    rcases h with h | h
    · cases h
    · exact h
  | (n, k) :: r, acc, h => by
    unfold closL
    refine closL_has ?_
    rcases h with h | h
    · rcases List.mem_cons.mp h with e | h
      · cases e
        refine .inr ?_
        rw [if_pos (by decide), List.lookup_cons]
        rw [show (x == x) = true by simp]
        exact ⟨_, rfl⟩
      · exact .inl h
    · refine .inr ?_
      by_cases hk : (k == NameKind.free) = true
      · rw [if_pos hk]; exact lookup_some_cons h
      · rw [if_neg hk]; exact h
theorem cellsFrom_get {x : Str} {c : Addr} : ∀ {names : List (Str × NameKind)} {h : Heap} {acc : List (Str × Addr)}, (cellsFrom h.objs.size names acc).lookup x = some c →
    acc.lookup x = some c ∨ (h.objs.size ≤ c ∧ (pushCells h names).IsCell c none)
  | [], _, _, e => .inl e
  | (n, k) :: r, h, acc, e => by
    unfold cellsFrom at e
    unfold pushCells
    by_cases hk : (k == NameKind.cell) = true
    · rw [if_pos hk] at e ⊢
      rw [← Heap.size_push h { cls := .type "cell", data := .cell none }] at e
      rcases cellsFrom_get e with q | ⟨q1, q2⟩
      · rw [List.lookup_cons] at q
        cases hx : (x == n) with
        | true =>
          rw [hx] at q
          cases q
          rw [Heap.size_push] at e
          exact .inr ⟨Nat.le_refl _, ⟨_, pushCells_keeps _ _ _ _ (Heap.get?_push_size _ rfl), rfl⟩⟩
        | false =>
          rw [hx] at q
          exact .inl q
      · rw [Heap.size_push] at q1
        exact .inr ⟨by omega, q2⟩
    · rw [if_neg hk] at e ⊢
      exact cellsFrom_get e
def OneName (cs : List (Str × Addr)) : Prop := ∀ x y c, cs.lookup x = some c → cs.lookup y = some c → x = y
theorem cellsFrom_one : ∀ {names : List (Str × NameKind)} {n : Nat} {acc : List (Str × Addr)}, (∀ x c, acc.lookup x = some c → c < n) → OneName acc → OneName (cellsFrom n names acc)
  | [], _, _, _, h => h
  | (m, k) :: r, n, acc, hb, h => by
    unfold cellsFrom
    by_cases hk : (k == NameKind.cell) = true
    · rw [if_pos hk]
      refine cellsFrom_one (fun x c e => ?_) fun x y c e1 e2 => ?_
      · rw [List.lookup_cons] at e
        cases hx : (x == m) with
        | true => rw [hx] at e; cases e; exact Nat.lt_succ_self _
        | false => rw [hx] at e; exact Nat.lt_succ_of_lt (hb x c e)
      · rw [List.lookup_cons] at e1 e2
        cases hx : (x == m) with
        | true =>
          rw [hx] at e1
          cases e1
          cases hy : (y == m) with
          | true =>
            have h1 : x = m := by simpa using hx
            have h2 : y = m := by simpa using hy
            rw [h1, h2]
          | false =>
            rw [hy] at e2
            exact absurd (hb y _ e2) (Nat.lt_irrefl _)
        | false =>
          rw [hx] at e1
          cases hy : (y == m) with
          | true =>
            rw [hy] at e2
            cases e2
            exact absurd (hb x _ e1) (Nat.lt_irrefl _)
          | false =>
            rw [hy] at e2
            exact h x y c e1 e2
    · rw [if_neg hk]
      exact cellsFrom_one hb h
theorem lc_env {M : Model} {A : Around} {E : Value → Shared → Prop} {s : Shared} {scope : Scope} {env : Env} {cl : List (Str × Addr)} {Q : Env → Shared → Prop}
    (h : Q { scope := scope, locals := s.heap.objs.size, globals := env.globals, cells := cellsFrom (s.heap.objs.size + 1) scope.names cl, qual := env.qual, func := none, code := env.code, frame := env.frame, builtins := env.builtins }
      { s with heap := pushCells (s.heap.push { cls := .type "dict", data := .dict #[] }) scope.names }) :
    wpAny M A (newFunctionEnv scope env.globals cl [] env.qual none .none (some env)) Q E s := by
  simp only [newFunctionEnv, Option.isSome_some, if_true]
  refine wpAny_bind (wpAny_alloc ?_)
  refine wpAny_bind (wpAny_layCells _ (fun name kind cells => by cases hkc : kind == NameKind.cell <;> simp [hkc]) _ _ _ _ ?_)
  rw [show ({ s with heap := s.heap.push { cls := .type "dict", data := .dict #[] } } : Shared).heap.objs.size = s.heap.objs.size + 1 from Heap.size_push ..]
  simp only [List.forIn_nil]
  exact wpAny_bind (wpAny_pure (wpAny_pure h))
theorem lc_turns {prog : Program} {w : World} {A : Around} {R : Result → Shared → Prop} {s : Shared} {elt target iter : Expr} {ifs : List Expr} {scope : Scope} {pos : Pos} {it acc : Value} {env : Env} (I : Nat → Shared → Prop)
    (turn : ∀ n s, I n s → wpAny (model prog w) A (pyNext it) (fun r s1 => match r with
      | none => R (.ok .next) s1
      | some v => wpAny (model prog w) A (letOwnedTupleGo target it v) (fun _ s2 => wpAny (model prog w) A (assign target env v) (fun _ s3 =>
          wpAny (model prog w) A (forIn ifs true fun c r => if r = true then do let ok ← isTrue c env (eval c env); pure (ForInStep.yield ok) else pure (ForInStep.yield r)) (fun ok s4 =>
            if ok = true then wpAny (model prog w) A (eval elt env) (fun x s5 => wpAny (model prog w) A (call (.builtin "list.append") [acc, x]) (fun _ s6 => ∃ m, m < n ∧ I m s6) (fun _ _ => False) s5) (fun _ _ => False) s4
            else ∃ m, m < n ∧ I m s4) (fun _ _ => False) s3) (fun _ _ => False) s2) (fun _ _ => False) s1) (fun _ _ => False) s)
    (n : Nat) (h : I n s) : codeAny (model prog w) A (.compLoop (.ListComp elt [⟨target, iter, ifs, 0⟩] scope pos) 0 it acc env) R s := by
  refine codeAny_loop rfl I (fun n s hI => ?_) n h
  show wpAny _ A ((compTurn (.ListComp elt [⟨target, iter, ifs, 0⟩] scope pos) 0 it acc env).onRaise (fun x => do noteFrame x env; theTreesLotGoes x)) _ _ s
  refine wpAny_noted ?_
  rw [compTurn_list]
  have no : ∀ {Q : Value → Shared → Prop} (e : Value) (s' : Shared), False → Q e s' := fun _ _ z => z.elim
  refine wpAny_bind (wpAny_standAt (wpAny_bind (wpAny_mono (turn n s hI) (fun r s1 h1 => ?_) no)))
  cases r with
  | none => exact wpAny_pure h1
  | some v =>
    refine wpAny_bind (wpAny_mono h1 (fun _ s2 h2 => ?_) no)
    refine wpAny_bind (wpAny_mono h2 (fun _ s3 h3 => wpAny_bind (wpAny_mono h3 (fun ok s4 h4 => ?_) no)) no)
    cases ok with
    | false => exact wpAny_pure ⟨rfl, h4⟩
    | true => exact wpAny_bind (wpAny_bind (wpAny_mono h4 (fun x s5 h5 => wpAny_bind (wpAny_mono h5 (fun _ s6 h6 => wpAny_pure (wpAny_pure ⟨rfl, h6⟩)) no)) no))
def selSt (sel : List (Option Nat)) (σ : St) : St := sel.map fun o => o.bind fun j => (σ[j]?).bind id
def lcEnv (X : Cx) (scope : Scope) (C : Addr) : Env := compEnvC scope (cellsFrom (C + 1) scope.names (closL X.env scope.names [])) C X.env
def lcCx (X : Cx) (N : List Str) (scope : Scope) (C : Addr) (fp : List Addr) (s : Shared) (H : Hp) : Cx :=
  { X with N := N, s₀ := s, H₀ := H, env := lcEnv X scope C, outer := X.stack, ex := fp, fn := fun x => decide (scope.names.lookup x = some .cell), pn := [], xe := fun _ _ => False }
def selOk (XN : List Str) (names : List (Str × NameKind)) (N : List Str) (sel : List (Option Nat)) : Bool :=
  (N.zip sel).all fun p => match p.2 with
    | none => true
    | some j => decide (XN[j]? = some p.1) && decide ((p.1, NameKind.free) ∈ names)
structure LcScope (XN : List Str) (XS : List (Str × NameKind)) (N : List Str) (sel : List (Option Nat)) (scope : Scope) : Prop where
  kind : scope.kind = .function
  locs : ∀ y ∈ scope.names, y.2 = .local → scope.names.lookup y.1 = some .local
  frees : ∀ y ∈ scope.names, y.2 = .free → scope.names.lookup y.1 = some .free ∧ (XS.lookup y.1 = some .cell ∨ XS.lookup y.1 = some .free)
  apart : ∀ y ∈ scope.names, y.2 = .cell → ¬ (y.1, NameKind.free) ∈ scope.names
  nd : N.Nodup
  len : sel.length = N.length
  sel : selOk XN scope.names N sel = true
theorem LcScope.sels {XN : List Str} {XS : List (Str × NameKind)} {N : List Str} {sel : List (Option Nat)} {scope : Scope} (S : LcScope XN XS N sel scope) (i j : Nat) (x : Str) (h1 : N[i]? = some x) (h2 : sel[i]? = some (some j)) :
    XN[j]? = some x ∧ (x, NameKind.free) ∈ scope.names := by
  have hz : (N.zip sel)[i]? = some (x, some j) := by rw [List.getElem?_zip_eq_some]; exact ⟨h1, h2⟩
  have hm := List.all_eq_true.mp S.sel _ (List.mem_of_getElem? hz)
  have hm' : (decide (XN[j]? = some x) && decide ((x, NameKind.free) ∈ scope.names)) = true := hm
  rw [Bool.and_eq_true] at hm'
  exact ⟨of_decide_eq_true hm'.1, of_decide_eq_true hm'.2⟩
theorem relabel_free {env : Env} {x : Str} : ∀ {names : List (Str × NameKind)}, names.lookup x = some .free →
    (names.map fun (n, k) => if (k == NameKind.free && env.scope.kind == .function && env.kindOf n == some .cell) then (n, NameKind.cell) else (n, k)).lookup x = some .cell ∨
    (names.map fun (n, k) => if (k == NameKind.free && env.scope.kind == .function && env.kindOf n == some .cell) then (n, NameKind.cell) else (n, k)).lookup x = some .free
  | [], h => by simp at h
  | (n, k') :: r, h => by
    have ih := @relabel_free env x r
    show List.lookup x ((if (k' == NameKind.free && env.scope.kind == .function && env.kindOf n == some .cell) = true then (n, NameKind.cell) else (n, k')) :: _) = _ ∨ List.lookup x ((if (k' == NameKind.free && env.scope.kind == .function && env.kindOf n == some .cell) = true then (n, NameKind.cell) else (n, k')) :: _) = _
    rw [List.lookup_cons] at h
    by_cases hc : (k' == NameKind.free && env.scope.kind == .function && env.kindOf n == some .cell) = true
    · rw [if_pos hc, List.lookup_cons]
      cases hx : (x == n) with
      | true => exact .inl rfl
      | false => rw [hx] at h; exact ih h
    · rw [if_neg hc, List.lookup_cons]
      cases hx : (x == n) with
      | true => rw [hx] at h; exact .inr h
      | false => rw [hx] at h; exact ih h
theorem relabel_get {env : Env} {x : Str} {k : NameKind} : ∀ {names : List (Str × NameKind)},
    (names.map fun (n, k) => if (k == NameKind.free && env.scope.kind == .function && env.kindOf n == some .cell) then (n, NameKind.cell) else (n, k)).lookup x = some k →
    names.lookup x = some k ∨ (k = .cell ∧ names.lookup x = some .free)
  | [], h => by simp at h
  | (n, k') :: r, h => by
    have ih := @relabel_get env x k r
    have h' : List.lookup x ((if (k' == NameKind.free && env.scope.kind == .function && env.kindOf n == some .cell) = true then (n, NameKind.cell) else (n, k')) :: _) = some k := h
    by_cases hc : (k' == NameKind.free && env.scope.kind == .function && env.kindOf n == some .cell) = true
    · rw [if_pos hc, List.lookup_cons] at h'
      rw [List.lookup_cons]
      cases hx : (x == n) with
      | true =>
        rw [hx] at h'
        cases h'
        rw [Bool.and_eq_true, Bool.and_eq_true] at hc
        have : k' = .free := by simpa using hc.1.1
        rw [this]
        exact .inr ⟨rfl, rfl⟩
      | false =>
        rw [hx] at h'
        exact ih h'
    · rw [if_neg hc, List.lookup_cons] at h'
      rw [List.lookup_cons]
      cases hx : (x == n) with
      | true => rw [hx] at h'; exact .inl h'
      | false => rw [hx] at h'; exact ih h'
abbrev TW := St → Hp → (Bool → Hp → Prop) → Prop
def PIf (X : Cx) (ifs : List Expr) (t : TW) : Prop :=
  ∀ (pins : List (Addr × Obj)) (s : Shared) (σ : St) (H : Hp) (Q : Bool → Hp → Prop), Inv X pins σ H s → t σ H Q →
    wpAny (model X.prog X.w) X.A (forIn ifs true fun c r => if r = true then do let ok ← isTrue c X.env (eval c X.env); pure (ForInStep.yield ok) else pure (ForInStep.yield r)) (TP X pins σ Q) X.xe s
theorem pif_nil {X : Cx} : PIf X [] (fun _ H Q => Q true H) := fun _ _ _ H _ I h => by
  rw [List.forIn_nil]
  exact wpAny_pure ⟨H, I, h⟩
theorem pif_one {X : Cx} {c : Expr} {t : TT} (hc : PT X c t) : PIf X [c] t := fun pins s σ H Q I h => by
  rw [List.forIn_cons]
  simp only [if_true, List.forIn_nil]
  exact wpAny_bind (wpAny_bind (thn (hc pins s σ H Q I h) fun b s1 q => wpAny_pure (wpAny_pure q)))
def KeepSt (σ σ' : St) : Prop := σ'.length = σ.length ∧ ∀ (i : Nat) v, σ[i]? = some (some v) → σ'[i]? = some (some v)
def tLc (wi : TI) (sel : List (Option Nat)) (g : TG) (tt : TW) (te : TE) : TE := fun σ H Q => wi σ H fun J H1 =>
  ∃ W : Nat → Nat → List V → Hp → Prop, (∃ m, W 0 m [] H1) ∧ ∀ i m ys H2, W i m ys H2 →
    (J.stop i H2 ∧ ∀ l, H2 l = none → Q (.ref l) (upd H2 l (.lst ys))) ∨
    (J.go i H2 ∧ ys.length < sizeLine ∧ ∀ x H3, J.yld i H2 x H3 → g x (selSt sel σ) H3 fun σ4 H4 => KeepSt (selSt sel σ) σ4 ∧ tt σ4 H4 fun b H5 =>
      if b = true then te σ4 H5 fun y H6 => ∃ m', m' < m ∧ W (i + 1) m' (ys ++ [y]) H6 else ∃ m', m' < m ∧ W (i + 1) m' ys H5)
section
variable {X : Cx} {pins : List (Addr × Obj)} {σ : St} {H : Hp} {s : Shared}
theorem HOk.track {P : Program} {w : World} {H : Hp} {h : Heap} {a : Addr} {o : HO} (x : HOk P w H h) (hn : H a = none) (new : ObjOk P w (upd H a o) h a o) : HOk P w (upd H a o) h := fun b u e => by
  by_cases hb : b = a
  · subst hb; rw [upd_same] at e; cases e; exact new
  · rw [upd_ne hb] at e
    exact (x b u e).stay (fun c v _ q => q) (fun c q => by rw [upd_ne (ne_of_none q hn)]; exact q) fun c xs q => by rw [upd_ne (ne_of_none q hn)]; exact q
theorem Un.track {fs ex : List Addr} {H H' : Hp} {h h' : Heap} {a : Addr} {o : HO} (u : Un fs ex H H' h h') (ha : h.get? a = none) (hn : H' a = none) : Un fs ex H (upd H' a o) h h' := by
  have ne : ∀ b ob, h.get? b = some ob → b ≠ a := fun b ob e z => by subst z; rw [ha] at e; cases e
  exact ⟨u.keep, u.slot, fun b ob e n hx => by rw [upd_ne (ne b ob e)]; exact u.free b ob e n hx, u.there,
    fun b xs e => by rw [upd_ne (ne_of_none (u.tups b xs e) hn)]; exact u.tups b xs e, fun b ob v e => by rw [upd_ne (ne_of_none (u.frzs b ob v e) hn)]; exact u.frzs b ob v e,
    fun b ps e => by obtain ⟨m, q⟩ := u.tbls b ps e; exact ⟨m, by rw [upd_ne (ne_of_none q hn)]; exact q⟩⟩
theorem nlt {a b : Addr} (h : a < b) : @LT.lt Nat instLTNat a b := h
theorem lc_start {N : List Str} {sel : List (Option Nat)} {scope : Scope} {fp : List Addr} {D C : Addr} {s4 : Shared} {XS : List (Str × NameKind)} (S : LcScope X.N XS N sel scope) (hXS : X.env.scope.names = XS) (I : Inv X pins σ H s) (ff : ∀ b ∈ fp, FpOk X pins H b) (fo : ∀ b ∈ fp, ∃ o, s.heap.get? b = some o)
    (hD : (D : Nat) = s.heap.objs.size) (hC : (C : Nat) = s.heap.objs.size + 1)
    (h4 : s4 = { s with heap := pushCells ((s.heap.push { cls := .type "list", data := .seq #[] }).push { cls := .type "dict", data := .dict #[] }) scope.names }) :
    Inv (lcCx X N scope C fp s H) (X.pn ++ pins ++ [(D, { cls := .type "list", data := .seq #[] })]) (selSt sel σ) H s4 := by
  have k0 : ∀ b o, s.heap.get? b = some o → s4.heap.get? b = some o := fun b o e => by
    rw [h4]; exact pushCells_keeps _ _ _ _ (Heap.get?_push_of_some _ (Heap.get?_push_of_some _ e))
  have sz1 : (s.heap.push { cls := .type "list", data := .seq #[] }).objs.size = s.heap.objs.size + 1 := Heap.size_push ..
  have sz2 : ((s.heap.push { cls := .type "list", data := .seq #[] }).push { cls := .type "dict", data := .dict #[] }).objs.size = s.heap.objs.size + 1 + 1 := by rw [Heap.size_push, sz1]
  have hfr : ∀ y ∈ scope.names, y.2 = .free → ∃ c, X.env.cells.lookup y.1 = some c := fun y hy e => I.ok.has y.1 (by show X.env.scope.names.lookup y.1 = _ ∨ X.env.scope.names.lookup y.1 = _; rw [hXS]; exact (S.frees y hy e).2)
  have old : ∀ x c, (closL X.env scope.names []).lookup x = some c → X.env.cells.lookup x = some c ∧ (x, NameKind.free) ∈ scope.names := fun x c e => by
    rcases closL_get hfr e with q | q
    · cases q
    · exact q
  have oldlt : ∀ x c, X.env.cells.lookup x = some c → c < s.heap.objs.size := fun x c e => by
    obtain ⟨v, o, ho, _⟩ := I.cell x c e
    exact Heap.lt_size ho
  have cs : ∀ x c, (lcEnv X scope C).cells.lookup x = some c → (X.env.cells.lookup x = some c ∧ (x, NameKind.free) ∈ scope.names) ∨ (C < c ∧ s4.heap.IsCell c none) := fun x c e => by
    have e' : (cellsFrom (C + 1) scope.names (closL X.env scope.names [])).lookup x = some c := e
    rw [hC, ← sz2] at e'
    rcases cellsFrom_get e' with q | ⟨q1, q2⟩
    · exact .inl (old x c q)
    · rw [sz2] at q1
      exact .inr ⟨by rw [hC]; (delta Addr at *; omega), by rw [h4]; exact q2⟩
  have fsub : ∀ b ∈ frs X.stack, H b = none := I.stkFree
  have fne : ∀ b ∈ fp, b < s.heap.objs.size := fun b hb => by obtain ⟨o, e⟩ := fo b hb; exact Heap.lt_size e
  have fstk : ∀ b ∈ fp, b ∉ frs X.stack := fun b hb z => by
    obtain ⟨_, f1, f2, _⟩ := ff b hb
    rcases List.mem_cons.mp (I.stkSub b z) with e | e
    · exact f1 e
    · exact f2 e
  have hCn : H C = none := I.hok.fresh (by rw [hC]; omega)
  have hDn : H D = none := I.hok.fresh (by rw [hD]; exact Nat.le_refl _)
  have nstk : ∀ b, s.heap.objs.size ≤ b → b ∉ frs X.stack := fun b hb z => by
    rcases List.mem_cons.mp (I.stkSub b z) with e | e
    · have := nlt I.lt; (delta Addr at *; omega)
    · exact I.nofs hb e
  have kin : ∀ x, (lcEnv X scope C).kindOf x = some .cell ∨ (lcEnv X scope C).kindOf x = some .free → scope.names.lookup x = some .cell ∨ scope.names.lookup x = some .free := fun x h => by
    rcases h with h | h
    · rcases relabel_get h with q | ⟨_, q⟩
      · exact .inl q
      · exact .inr q
    · rcases relabel_get h with q | ⟨q, _⟩
      · exact .inr q
      · cases q
  refine ⟨⟨I.ok.mod, S.kind, I.ok.glob, I.ok.blt, by show s.heap.objs.size ≤ C; (delta Addr at *; omega), ?inj, ?has, ?cab, I.ok.hd, I.ok.frames, .inl rfl, ?exf, I.bs, Nat.le_trans I.ok.bsz I.sz, ?noex, fstk, I.stack, fsub⟩, by rw [h4]; rfl, by rw [h4]; exact I.bare, Un.kept k0, ?loc, ?cell, hCn, ?freeC, ?pin, I.hok.kept k0, ?len⟩
  case inj =>
    intro x y c e1 e2
    refine cellsFrom_one (n := C + 1) (fun x c e => ?_) (fun x y c e1 e2 => I.ok.inj x y c (old x c e1).1 (old y c e2).1) x y c e1 e2
    have := nlt (oldlt x c (old x c e).1)
    (delta Addr at *; omega)
  case has =>
    intro x hx
    show ∃ c, (cellsFrom (C + 1) scope.names (closL X.env scope.names [])).lookup x = some c
    refine Option.isSome_iff_exists.mp (PySem.W.cellsFrom_some scope.names (C + 1) _ ?_)
    rcases kin x hx with q | q
    · exact .inl q
    · exact .inr (Option.isSome_iff_exists.mpr (closL_has (.inl (PySem.mem_of_lookup q))))
  case cab =>
    intro x c hx e
    have hx' : scope.names.lookup x = some .cell := of_decide_eq_true hx
    show s.heap.objs.size ≤ c
    rcases cs x c e with ⟨_, q⟩ | ⟨q, _⟩
    · have := (S.frees _ q rfl).1
      rw [hx'] at this
      cases this
    · (delta Addr at *; omega)
  case exf =>
    intro b hb
    have hlt := nlt (fne b hb)
    refine ⟨by show b ≠ C; (delta Addr at *; omega), fun x c e => ?_⟩
    obtain ⟨_, _, _, _, f4, _⟩ := ff b hb
    rcases cs x c e with ⟨q, _⟩ | ⟨q, _⟩
    · exact f4 x c q
    · (delta Addr at *; omega)
  case noex =>
    intro b o e hb
    obtain ⟨_, _, _, f3, _⟩ := ff b hb
    rcases f3 with z | z
    · exact I.ok.noex b o e z
    · have := nlt (Heap.lt_size (I.ok.bs b o e).1)
      (delta Addr at *; omega)
  case loc =>
    have hns : s4.heap.Ns C fun _ => none := by
      rw [h4, hC, ← sz1]
      exact (Heap.Ns.new _ (.type "dict")).keeps (pushCells_keeps _ _)
    refine ⟨_, hns, fun i x v e1 e2 e3 => ?_⟩
    unfold selSt at e2
    rw [List.getElem?_map] at e2
    cases q : sel[i]? with
    | none => rw [q] at e2; cases e2
    | some o =>
      rw [q] at e2
      cases o with
      | none => cases e2
      | some j =>
        have e2' : (σ[j]?).bind id = some v := Option.some.inj e2
        cases qj : σ[j]? with
        | none => rw [qj] at e2'; cases e2'
        | some ov =>
          rw [qj] at e2'
          have ev : ov = some v := e2'
          subst ev
          obtain ⟨n1, n2⟩ := S.sels i j x e1 q
          obtain ⟨sf, se⟩ := S.frees _ n2 rfl
          rw [← hXS] at se
          have vis : Vis X.env.scope x := by
            rcases se with z | z
            · exact .inr (.inl z)
            · exact .inr (.inr z)
          obtain ⟨m, _, hl⟩ := I.loc
          obtain ⟨u, ru, lk⟩ := hl j x v n1 qj vis
          refine ⟨u, ru, .inr ?_⟩
          have hcell : ∃ c, X.env.cells.lookup x = some c ∧ s.heap.IsCell c (some u) := by
            rcases lk with ⟨z, _⟩ | ⟨_, c, z1, z2⟩
            · exfalso
              have z' : X.env.scope.names.lookup x = some .local := z
              have se' : X.env.scope.names.lookup x = some .cell ∨ X.env.scope.names.lookup x = some .free := se
              rcases se' with q' | q' <;> (rw [z'] at q'; cases q')
            · exact ⟨c, z1, z2⟩
          obtain ⟨c, z1, z2⟩ := hcell
          obtain ⟨c', hc'⟩ : ∃ c, (lcEnv X scope C).cells.lookup x = some c := by
            show ∃ c, (cellsFrom (C + 1) scope.names (closL X.env scope.names [])).lookup x = some c
            exact Option.isSome_iff_exists.mp (PySem.W.cellsFrom_some scope.names (C + 1) _ (.inr (Option.isSome_iff_exists.mpr (closL_has (.inl n2)))))
          have hnc : ∀ d, (lcEnv X scope C).cells.lookup x = some d → d = c := fun d hd => by
            have e' : (cellsFrom (C + 1) scope.names (closL X.env scope.names [])).lookup x = some d := hd
            have nocell : ∀ (names : List (Str × NameKind)) (n : Nat) (acc : List (Str × Addr)), (∀ y ∈ names, y.1 = x → y.2 ≠ .cell) → (cellsFrom n names acc).lookup x = acc.lookup x := by
              intro names
              induction names with
              | nil => intro n acc _; rfl
              | cons y r ih =>
                intro n acc hy
                obtain ⟨m', k'⟩ := y
                unfold cellsFrom
                have hr : ∀ y ∈ r, y.1 = x → y.2 ≠ .cell := fun y h => hy y (List.mem_cons_of_mem _ h)
                by_cases hk : (k' == NameKind.cell) = true
                · rw [if_pos hk, ih _ _ hr, List.lookup_cons]
                  have hne : (x == m') = false := by
                    cases hx : (x == m') with
                    | false => rfl
                    | true =>
                      have h1 : x = m' := by simpa using hx
                      exact absurd (by simpa using hk) (hy (m', k') List.mem_cons_self h1.symm)
                  rw [hne]
                · rw [if_neg hk, ih _ _ hr]
            rw [nocell scope.names (C + 1) _ (fun y hy hyx hyc => ?_)] at e'
            · have := (old x d e').1
              rw [z1] at this
              exact (Option.some.inj this).symm
            · exact S.apart y hy hyc (by rw [hyx]; exact n2)
          have hk : (lcEnv X scope C).kindOf x = some .cell ∨ (lcEnv X scope C).kindOf x = some .free := relabel_free sf
          refine ⟨hk, c, by show (lcEnv X scope C).cells.lookup x = some c; rw [hc', hnc c' hc'], ?_⟩
          exact z2.keeps k0
  case cell =>
    intro x c e
    rcases cs x c e with ⟨q, _⟩ | ⟨_, q⟩
    · obtain ⟨v, hv⟩ := I.cell x c q
      exact ⟨v, hv.keeps k0⟩
    · exact ⟨none, q⟩
  case freeC =>
    intro x c e
    rcases cs x c e with ⟨q, _⟩ | ⟨q, _⟩
    · exact I.freeC x c q
    · exact I.hok.fresh (by (delta Addr at *; omega))
  case pin =>
    intro p hp
    have hp' : p ∈ X.pn ++ pins ++ [(D, { cls := .type "list", data := .seq #[] })] := hp
    rcases List.mem_append.mp hp' with z | z
    · obtain ⟨e, n, n1, n2, d⟩ := I.pin p z
      have hlt := Heap.lt_size e
      refine ⟨k0 _ _ e, n, by show p.1 ≠ C; (delta Addr at *; omega), fun hb => ?_, d⟩
      rcases List.mem_cons.mp (I.stkSub p.1 hb) with e' | e'
      · exact n1 e'
      · exact n2 e'
    · have e : p = (D, { cls := .type "list", data := .seq #[] }) := by simpa using z
      subst e
      refine ⟨?_, hDn, by show D ≠ C; (delta Addr at *; omega), nstk D (by (delta Addr at *; omega)), fun v q => nomatch q⟩
      rw [h4, hD]
      exact pushCells_keeps _ _ _ _ (Heap.get?_push_of_some _ (Heap.get?_push_size _ rfl))
  case len =>
    show (selSt sel σ).length = N.length
    unfold selSt
    rw [List.length_map, S.len]
theorem FpOk.of {X : Cx} {pins : List (Addr × Obj)} {H H' : Hp} {b : Addr} (f : FpOk X pins H b) (h : H' b = none) : FpOk X pins H' b := ⟨h, f.2⟩
theorem lc_end {N : List Str} {scope : Scope} {fp : List Addr} {D C : Addr} {s' : Shared} {σ' : St} {H' : Hp} {ys : List V} {its : List Value} {n : Nat} (I : Inv X pins σ H s) (ff : ∀ b ∈ fp, FpOk X pins H b) (hD : (D : Nat) = s.heap.objs.size)
    (J : Inv (lcCx X N scope C fp s H) (X.pn ++ pins ++ [(D, { cls := .type "list", data := .seq its.toArray n })]) σ' H' s') (r : Vals ys its) (hz : ys.length ≤ sizeLine) : Inv X pins σ (upd H' D (.lst ys)) s' := by
  obtain ⟨e, hn, _⟩ := J.pin (D, { cls := .type "list", data := .seq its.toArray n }) (by show _ ∈ [] ++ _; simp)
  have hg : s.heap.get? D = none := Heap.get?_none_of_le (by rw [hD]; exact Nat.le_refl _)
  refine I.call' (ch := fp) J.os (Un.track J.base hg hn) (J.hok.track hn ⟨hz, its, n, r, e⟩) J.bare fun b hb => ?_
  obtain ⟨_, f1, _, f3, f4, f5⟩ := ff b hb
  exact ⟨f3, f1, f4, f5⟩
theorem lc_block {N : List Str} {sel : List (Option Nat)} {scope : Scope} {XS : List (Str × NameKind)} {tg iter elt : Expr} {ifs : List Expr} {pos : Pos} {g : TG} {tt : TW} {te : TE} {it : Addr} {fp : List Addr} {tn : Nat → Heap → Prop} {Jt : It} {E : Value → Shared → Prop}
    {Q : VK} (S : LcScope X.N XS N sel scope) (hXS : X.env.scope.names = XS) (hc : X.calm = true)
    (hg : ∀ C fp s H, PG (lcCx X N scope C fp s H) tg g) (ht : ∀ C fp s H, PIf (lcCx X N scope C fp s H) ifs tt) (he : ∀ C fp s H, PE (lcCx X N scope C fp s H) elt te)
    (I : Inv X pins σ H s) (T : Turn X.prog X.w X.K tg Jt fp it tn) (st : tn 0 s.heap) (ff : ∀ b ∈ fp, FpOk X pins H b)
    (W : Nat → Nat → List V → Hp → Prop) (m0 : Nat) (w0 : W 0 m0 [] H)
    (turn : ∀ i m ys H2, W i m ys H2 → (Jt.stop i H2 ∧ ∀ l, H2 l = none → Q (.ref l) (upd H2 l (.lst ys))) ∨
      (Jt.go i H2 ∧ ys.length < sizeLine ∧ ∀ x H3, Jt.yld i H2 x H3 → g x (selSt sel σ) H3 fun σ4 H4 => KeepSt (selSt sel σ) σ4 ∧ tt σ4 H4 fun b H5 =>
        if b = true then te σ4 H5 fun y H6 => ∃ m', m' < m ∧ W (i + 1) m' (ys ++ [y]) H6 else ∃ m', m' < m ∧ W (i + 1) m' ys H5)) :
    wpAny (model X.prog X.w) X.A (newList []) (fun acc s3 => wpAny (model X.prog X.w) X.A (newFunctionEnv scope X.env.globals (closL X.env scope.names []) [] X.env.qual none .none (some X.env)) (fun cenv s4 =>
      codeAny (model X.prog X.w) X.A (.compStart (.ListComp elt [⟨tg, iter, ifs, 0⟩] scope pos) 0 (.ref it) acc { cenv with scope := relabel scope X.env }) (fun r s' =>
        ∃ D ys H', acc = .ref D ∧ r = .ok .next ∧ Inv X pins σ (upd H' D (.lst ys)) s' ∧ H' D = none ∧ (∃ m, s'.heap.Ns cenv.locals m) ∧ FpOk X pins (upd H' D (.lst ys)) cenv.locals ∧ Q (.ref D) (upd H' D (.lst ys))) s4) E s3) E s := by
  refine wpAny_newObj_type (lc_env ?_)
  have sz1 : (s.heap.push { cls := .type "list", data := .seq ([] : List Value).toArray }).objs.size = s.heap.objs.size + 1 := Heap.size_push ..
  generalize h4 : ({ s with heap := pushCells ((s.heap.push { cls := .type "list", data := .seq ([] : List Value).toArray }).push { cls := .type "dict", data := .dict #[] }) scope.names } : Shared) = s4
  have fo : ∀ b ∈ fp, ∃ o, s.heap.get? b = some o := fun b hb => by obtain ⟨o, e, _⟩ := T.obj 0 _ st b hb; exact ⟨o, e⟩
  have fne : ∀ b ∈ fp, b < s.heap.objs.size := fun b hb => by obtain ⟨o, e⟩ := fo b hb; exact Heap.lt_size e
  generalize hD : s.heap.objs.size = D
  have hC : (s.heap.push { cls := .type "list", data := .seq ([] : List Value).toArray }).objs.size = D + 1 := by rw [sz1, hD]
  have B0 : Inv (lcCx X N scope (D + 1) fp s H) (X.pn ++ pins ++ [(D, { cls := .type "list", data := .seq #[] })]) (selSt sel σ) H s4 := lc_start S hXS I ff fo hD.symm (by rw [hD]) h4.symm
  have k4 : ∀ b o, s.heap.get? b = some o → s4.heap.get? b = some o := fun b o e => by
    rw [← h4]; exact pushCells_keeps _ _ _ _ (Heap.get?_push_of_some _ (Heap.get?_push_of_some _ e))
  have st4 : tn 0 s4.heap := T.keep _ _ _ st fun b _ o e => k4 b o e
  have fpL : ∀ (pl : List (Addr × Obj)) (H2 : Hp), (∀ p ∈ pl, p.1 = D ∨ p ∈ X.pn ++ pins) → (∀ b ∈ fp, H2 b = none) → ∀ b ∈ fp, FpOk (lcCx X N scope (D + 1) fp s H) pl H2 b := fun pl H2 hpl hn b hb => by
    obtain ⟨x1, x2⟩ := B0.ok.exf b hb
    refine ⟨hn b hb, x1, B0.ok.exfs b hb, .inl hb, x2, fun p hp => ?_⟩
    have hp' : p ∈ [] ++ pl := hp
    rw [List.nil_append] at hp'
    have hlt := nlt (fne b hb)
    rcases hpl p hp' with z | z
    · (delta Addr at *; omega)
    · obtain ⟨_, _, _, _, _, f5⟩ := ff b hb
      exact f5 p z
  have loop : codeAny (model X.prog X.w) X.A (.compLoop (.ListComp elt [⟨tg, iter, ifs, 0⟩] scope pos) 0 (.ref it) (.ref D) (lcEnv X scope (D + 1))) (fun r s' =>
      ∃ D' ys H', Value.ref D = .ref D' ∧ r = .ok .next ∧ Inv X pins σ (upd H' D' (.lst ys)) s' ∧ H' D' = none ∧ (∃ m, s'.heap.Ns (D + 1) m) ∧ FpOk X pins (upd H' D' (.lst ys)) (D + 1) ∧ Q (.ref D') (upd H' D' (.lst ys))) s4 := by
    refine lc_turns (fun n s' => ∃ i ys its k H2, Inv (lcCx X N scope (D + 1) fp s H) (X.pn ++ pins ++ [(D, { cls := .type "list", data := .seq its.toArray k })]) (selSt sel σ) H2 s' ∧ tn i s'.heap ∧ (∀ b ∈ fp, H2 b = none) ∧ Vals ys its ∧ ys.length ≤ sizeLine ∧ W i n ys H2) ?_ m0
      ⟨0, [], [], 0, H, B0, st4, fun b hb => (ff b hb).1, .nil, Nat.zero_le _, w0⟩
    rintro n s1 ⟨i, ys, its, k, H2, J, st1, fn1, rv, hz, w1⟩
    have pl0 : ∀ p ∈ X.pn ++ pins ++ [(D, ({ cls := .type "list", data := .seq its.toArray k } : Obj))], p.1 = D ∨ p ∈ X.pn ++ pins := fun p hp => by
      rcases List.mem_append.mp hp with z | z
      · exact .inr z
      · have : p = _ := List.mem_singleton.mp z
        exact .inl (by rw [this])
    rcases turn i n ys H2 w1 with ⟨stop, q⟩ | ⟨go, hlt, step⟩
    · refine thn (T.done (lcCx X N scope (D + 1) fp s H) rfl rfl rfl hc i _ s1 _ H2 (fun _ _ => False) J (fpL _ H2 pl0 fn1) st1 stop) fun r s2 ⟨hr, J2⟩ => ?_
      subst hr
      have hDn : H2 D = none := (J2.pin (D, { cls := .type "list", data := .seq its.toArray k }) (by show _ ∈ [] ++ _; simp)).2.1
      have I2 : Inv X pins σ (upd H2 D (.lst ys)) s2 := lc_end I ff hD.symm J2 rv hz
      have hCn : (upd H2 D (.lst ys)) (D + 1) = none := by rw [upd_ne (by (delta Addr at *; omega))]; exact J2.free
      obtain ⟨m, hns, _⟩ := J2.loc
      refine ⟨D, ys, H2, rfl, rfl, I2, hDn, ⟨m, hns⟩, (I.fpOk (H' := upd H2 D (.lst ys)) (by omega) hCn), q D hDn⟩
    · refine thn (T.item (lcCx X N scope (D + 1) fp s H) rfl rfl rfl hc i _ s1 _ H2 (fun _ _ => False) J (fpL _ H2 pl0 fn1) st1 go) fun r s2 ⟨u, hr, h2⟩ => ?_
      subst hr
      refine thn h2 fun _ s3 ⟨x, H3, J3, r3, y3, st3, fr3⟩ => ?_
      have J3' := J3.pinned (fpL _ H3 pl0 fr3) (T.obj _ _ st3)
      refine thn (hg (D + 1) fp s H _ s3 _ H3 x u _ J3' r3 (step x H3 y3)) fun _ s4' ⟨σ4, H4, J4, kp, q4⟩ => ?_
      refine thn (ht (D + 1) fp s H _ s4' σ4 H4 _ J4 q4) fun ok s5 ⟨H5, J5, q5⟩ => ?_
      have back : ∀ {H6 : Hp} {s6 : Shared}, Inv (lcCx X N scope (D + 1) fp s H) (X.pn ++ pins ++ [(D, { cls := .type "list", data := .seq its.toArray k })] ++ pinsAt fp s3.heap) σ4 H6 s6 → tn (i + 1) s6.heap ∧ (∀ b ∈ fp, H6 b = none) ∧ Inv (lcCx X N scope (D + 1) fp s H) (X.pn ++ pins ++ [(D, { cls := .type "list", data := .seq its.toArray k })]) (selSt sel σ) H6 s6 := fun {H6 s6} J6 => by
        refine ⟨T.keep _ _ _ st3 fun b hb o e => (J6.pin (b, o) (List.mem_append_right _ (List.mem_append_right _ (mem_pinsAt hb e)))).1, fun b hb => ?_, J6.unpinned.weak kp.1.symm kp.2⟩
        obtain ⟨o, e, d⟩ := T.obj _ _ st3 b hb
        exact (J6.pin (b, o) (List.mem_append_right _ (List.mem_append_right _ (mem_pinsAt hb e)))).2.1
      cases ok with
      | false =>
        rw [if_neg Bool.false_ne_true] at q5 ⊢
        obtain ⟨m', hm, w5⟩ := q5
        obtain ⟨b1, b2, b3⟩ := back J5
        exact ⟨m', hm, i + 1, ys, its, k, H5, b3, b1, b2, rv, hz, w5⟩
      | true =>
        rw [if_pos rfl] at q5 ⊢
        refine thn (he (D + 1) fp s H _ s5 σ4 H5 _ J5 q5) fun y s6 ⟨yv, H6, J6, r6, m', hm, w6⟩ => ?_
        obtain ⟨b1, b2, b3⟩ := back J6
        obtain ⟨pe, pn, p1, p2, p3⟩ := b3.pin (D, { cls := .type "list", data := .seq its.toArray k }) (by show _ ∈ [] ++ _; simp)
        have hlen := rv.length
        refine wpAny_list_append_plain (hsz := by rw [List.size_toArray]; omega) ⟨k, pe⟩ fun h7 hl7 sb7 => ?_
        obtain ⟨k', e7⟩ := hl7
        have e7' : h7.get? D = some { cls := .type "list", data := .seq (its ++ [y]).toArray k' } := by rw [e7]; simp
        have hDC : D ≠ D + 1 := by omega
        have P0 : Inv (lcCx X N scope (D + 1) fp s H) (X.pn ++ pins) (selSt sel σ) H6 s6 := b3.pins_of fun p hp => b3.pin p (List.mem_append_right _ (List.mem_append_left _ hp))
        have J7 : Inv (lcCx X N scope (D + 1) fp s H) (X.pn ++ pins) (selSt sel σ) H6 { s6 with heap := h7 } := by
          refine P0.turned (it := D) (t' := s6.toks) (fun b o hb e => (sb7.2 b hb).trans e) pn p1 (.inr (by show s.heap.objs.size ≤ D; omega)) (fun z c ez hcd => ?_) fun p hp hpd => ?_
          · obtain ⟨v, o, ho, hdat⟩ := b3.cell z c ez
            rw [hcd, pe] at ho
            cases ho
            exact p3 v hdat
          · have hp' : p ∈ [] ++ (X.pn ++ pins) := hp
            rw [List.nil_append] at hp'
            have := nlt (Heap.lt_size (I.pin p hp').1)
            have h9 : @Eq Nat p.1 D := hpd
            (delta Addr at *; omega)
        have J8 : Inv (lcCx X N scope (D + 1) fp s H) (X.pn ++ pins ++ [(D, { cls := .type "list", data := .seq (its ++ [y]).toArray k' })]) (selSt sel σ) H6 { s6 with heap := h7 } := by
          refine J7.pins_of fun p hp => ?_
          rcases List.mem_append.mp hp with z | z
          · exact J7.pin p (List.mem_append_right _ z)
          · have : p = _ := List.mem_singleton.mp z
            subst this
            exact ⟨e7', pn, p1, p2, fun v q => nomatch q⟩
        refine ⟨m', hm, i + 1, ys ++ [yv], its ++ [y], k', H6, J8, T.keep _ _ _ b1 fun b hb o e => (sb7.2 b (by have := nlt (fne b hb); (delta Addr at *; omega))).trans e, b2, rv.append (.cons r6 .nil), ?_, w6⟩
        rw [List.length_append, List.length_singleton]
        omega
  rw [hC]
  exact codeAny_compStart_list loop (thn (T.self X.A 0 s4 _ _ st4 loop) fun _ _ z => z)
end
section
variable {X : Cx} {N : List Str} {sel : List (Option Nat)} {scope : Scope} {XS : List (Str × NameKind)} {tg iter elt : Expr} {ifs : List Expr} {pos : Pos} {wi : TI} {g : TG} {tt : TW} {te : TE}
theorem Inv.letgo {pins : List (Addr × Obj)} {σ : St} {H : Hp} {s : Shared} {C : Addr} {h' : Heap} (I : Inv X pins σ H s) (f : FpOk X pins H C) (hs : Heap.SameBut C s.heap h') : Inv X pins σ H { s with heap := h' } :=
  I.turned (it := C) (t' := s.toks) (fun b o hb e => (hs.2 b hb).trans e) f.1 f.2.1 f.2.2.2.1 f.2.2.2.2.1 f.2.2.2.2.2
theorem lc_frees (S : LcScope X.N XS N sel scope) (hXS : X.env.scope.names = XS) {pins : List (Addr × Obj)} {σ : St} {H : Hp} {s : Shared} (I : Inv X pins σ H s) : ∀ y ∈ scope.names, y.2 = .free → ∃ c, X.env.cells.lookup y.1 = some c := fun y hy e =>
  I.ok.has y.1 (by show X.env.scope.names.lookup y.1 = _ ∨ X.env.scope.names.lookup y.1 = _; rw [hXS]; exact (S.frees y hy e).2)
theorem pe_lc (S : LcScope X.N XS N sel scope) (hXS : X.env.scope.names = XS) (hc : X.calm = true) (hi : PI X tg iter wi)
    (hg : ∀ C fp s H, PG (lcCx X N scope C fp s H) tg g) (ht : ∀ C fp s H, PIf (lcCx X N scope C fp s H) ifs tt) (he : ∀ C fp s H, PE (lcCx X N scope C fp s H) elt te)
    (hs : ∀ x, foldedSetIterable iter X.env x = pure x := by intro _; rfl) : PE X (.ListComp elt [⟨tg, iter, ifs, 0⟩] scope pos) (tLc wi sel g tt te) := by
  intro pins s σ H Q I h
  rw [eval_ListComp]
  refine wpAny_comprehension_free (use := none) (cl := closL X.env scope.names []) rfl hs (closL_eq (lc_frees S hXS I)) S.kind S.locs ?_
  refine thn (hi pins s σ H _ I h) fun v s1 h1 => thn h1 fun itv s2 h2 => ?_
  obtain ⟨it, fp, tn, J, H2, e, I2, T, st2, f2, W, ⟨m0, w0⟩, turn⟩ := h2
  subst e
  refine thn (lc_block S hXS hc hg ht he I2 T st2 f2 W m0 w0 turn) fun acc s3 h3 => thn h3 fun cenv s4 h4 => codeAny_mono h4 fun r s' hr => ?_
  obtain ⟨D, ys, H', rfl, rfl, I', hD, ⟨m, hm⟩, fc, q⟩ := hr
  exact ⟨m, hm, fun h' sb => ⟨.ref D, _, I'.letgo fc sb, rfl, q⟩⟩
end
def rm (H : Hp) (a : Addr) : Hp := fun b => if b = a then none else H b
theorem rm_same {H : Hp} {a : Addr} : rm H a a = none := by unfold rm; rw [if_pos rfl]
theorem rm_ne {H : Hp} {a b : Addr} (h : b ≠ a) : rm H a b = H b := by unfold rm; rw [if_neg h]
theorem rm_some {H : Hp} {a b : Addr} {o : HO} (h : rm H a b = some o) : b ≠ a ∧ H b = some o := by
  by_cases e : b = a
  · subst e; rw [rm_same] at h; cases h
  · rw [rm_ne e] at h; exact ⟨e, h⟩
theorem rm_upd {H : Hp} {a : Addr} {o : HO} (h : H a = none) : rm (upd H a o) a = H := by
  funext b
  by_cases e : b = a
  · subst e; rw [rm_same, h]
  · rw [rm_ne e, upd_ne e]
theorem same_rm (H : Hp) (a : Addr) : Same (rm H a) H := fun _ _ h => (rm_some h).2
end L2
namespace PU
open PySem PySem.Spec L2
open PyProof.Rows hiding St
mutual
def Rep (K : PySem.W.Frag) (H : Hp) : D → V → Prop
  | .none, v => v = .non
  | .bool b, v => v = .bl b
  | .int i, v => v = .int i
  | .str x, v => v = .str x
  | .tuple ds, v => ∃ a xs, v = .ref a ∧ SqT K H a xs ∧ Reps K H ds xs
  | .list ds, v => ∃ a xs, v = .ref a ∧ SqL K H a xs ∧ Reps K H ds xs
  | .dict kvs, v => ∃ a : Addr, kvs = [(PyData.int ((a : Nat) : Int), PyData.none)] ∧ v = .ref a
def Reps (K : PySem.W.Frag) (H : Hp) : List D → List V → Prop
  | [], xs => xs = []
  | d :: ds, xs => ∃ v vs, xs = v :: vs ∧ Rep K H d v ∧ Reps K H ds vs
end
section
variable {K : PySem.W.Frag} {H H' H1 H2 : Hp}
theorem sqT_mono (e : Same H H') {a : Addr} {xs : List V} (h : SqT K H a xs) : SqT K H' a xs := by
  rcases h with (h | ⟨o, h⟩) | h
  · exact .inl (.inl (e _ _ h))
  · exact .inl (.inr ⟨o, e _ _ h⟩)
  · exact .inr h
mutual
theorem Rep.mono (e : Same H H') : ∀ {d : D} {v : V}, Rep K H d v → Rep K H' d v
  | .none, _, h => by unfold Rep at h ⊢; exact h
  | .bool _, _, h => by unfold Rep at h ⊢; exact h
  | .int _, _, h => by unfold Rep at h ⊢; exact h
  | .str _, _, h => by unfold Rep at h ⊢; exact h
  | .tuple ds, _, h => by
    unfold Rep at h ⊢
    obtain ⟨a, xs, h1, h2, h3⟩ := h
    exact ⟨a, xs, h1, sqT_mono e h2, Reps.mono e h3⟩
  | .list ds, _, h => by
    unfold Rep at h ⊢
    obtain ⟨a, xs, h1, h2, h3⟩ := h
    exact ⟨a, xs, h1, e.seq h2, Reps.mono e h3⟩
  | .dict _, _, h => by unfold Rep at h ⊢; exact h
theorem Reps.mono (e : Same H H') : ∀ {ds : List D} {vs : List V}, Reps K H ds vs → Reps K H' ds vs
  | [], _, h => by unfold Reps at h ⊢; exact h
  | _ :: _, _, h => by
    unfold Reps at h ⊢
    obtain ⟨v, vs, h1, h2, h3⟩ := h
    exact ⟨v, vs, h1, Rep.mono e h2, Reps.mono e h3⟩
end
theorem Reps.nil : Reps K H [] [] := by unfold Reps; rfl
theorem Reps.cons {d : D} {v : V} {ds : List D} {vs : List V} (h : Rep K H d v) (t : Reps K H ds vs) : Reps K H (d :: ds) (v :: vs) := by unfold Reps; exact ⟨v, vs, rfl, h, t⟩
theorem Reps.uncons {d : D} {ds : List D} {xs : List V} (h : Reps K H (d :: ds) xs) : ∃ v vs, xs = v :: vs ∧ Rep K H d v ∧ Reps K H ds vs := by unfold Reps at h; exact h
theorem Reps.unnil {xs : List V} (h : Reps K H [] xs) : xs = [] := by unfold Reps at h; exact h
theorem Reps.length : ∀ {ds : List D} {vs : List V}, Reps K H ds vs → vs.length = ds.length
  | [], _, h => by rw [h.unnil]; rfl
  | _ :: _, _, h => by
    obtain ⟨v, vs, rfl, _, h3⟩ := h.uncons
    rw [List.length_cons, List.length_cons, Reps.length h3]
theorem Reps.get : ∀ {ds : List D} {vs : List V} {i : Nat} {x : V}, Reps K H ds vs → vs[i]? = some x → ∃ d, ds[i]? = some d ∧ Rep K H d x
  | [], _, _, _, h, e => by rw [h.unnil] at e; simp at e
  | d :: ds, _, i, x, h, e => by
    obtain ⟨v, vs, rfl, h2, h3⟩ := h.uncons
    cases i with
    | zero =>
      rw [List.getElem?_cons_zero] at e ⊢
      cases e
      exact ⟨d, rfl, h2⟩
    | succ i =>
      rw [List.getElem?_cons_succ] at e ⊢
      exact Reps.get h3 e
theorem Reps.getD : ∀ {ds : List D} {vs : List V} {i : Nat} {d : D}, Reps K H ds vs → ds[i]? = some d → ∃ x, vs[i]? = some x ∧ Rep K H d x
  | [], _, _, _, _, e => by simp at e
  | d0 :: ds, _, i, d, h, e => by
    obtain ⟨v, vs, rfl, h2, h3⟩ := h.uncons
    cases i with
    | zero =>
      rw [List.getElem?_cons_zero] at e ⊢
      cases e
      exact ⟨v, rfl, h2⟩
    | succ i =>
      rw [List.getElem?_cons_succ] at e ⊢
      exact Reps.getD h3 e
theorem Reps.append : ∀ {ds es : List D} {vs us : List V}, Reps K H ds vs → Reps K H es us → Reps K H (ds ++ es) (vs ++ us)
  | [], _, _, _, h, t => by rw [h.unnil]; exact t
  | _ :: _, _, _, _, h, t => by
    obtain ⟨v, vs, rfl, h2, h3⟩ := h.uncons
    exact Reps.cons h2 (Reps.append h3 t)
theorem Reps.drop : ∀ {ds : List D} {vs : List V} (n : Nat), Reps K H ds vs → Reps K H (ds.drop n) (vs.drop n)
  | _, _, 0, h => h
  | [], _, n + 1, h => by rw [h.unnil]; exact Reps.nil
  | _ :: _, _, n + 1, h => by
    obtain ⟨v, vs, rfl, h2, h3⟩ := h.uncons
    exact Reps.drop n h3
theorem Reps.take : ∀ {ds : List D} {vs : List V} (n : Nat), Reps K H ds vs → Reps K H (ds.take n) (vs.take n)
  | _, _, 0, h => by rw [List.take_zero, List.take_zero]; exact Reps.nil
  | [], _, n + 1, h => by rw [h.unnil]; exact Reps.nil
  | _ :: _, _, n + 1, h => by
    obtain ⟨v, vs, rfl, h2, h3⟩ := h.uncons
    rw [List.take_succ_cons, List.take_succ_cons]
    exact Reps.cons h2 (Reps.take n h3)
theorem Reps.rep {ds : List D} {vs : List V} (h : Reps K H ds vs) : ∀ n : Nat, Reps K H (List.replicate n ds).flatten (List.replicate n vs).flatten
  | 0 => Reps.nil
  | n + 1 => by
    rw [List.replicate_succ, List.replicate_succ, List.flatten_cons, List.flatten_cons]
    exact h.append (Reps.rep h n)
theorem rep_int {i : Int} {v : V} (h : Rep K H (.int i) v) : v = .int i := by unfold Rep at h; exact h
theorem rep_bool {b : Bool} {v : V} (h : Rep K H (.bool b) v) : v = .bl b := by unfold Rep at h; exact h
theorem rep_none {v : V} (h : Rep K H .none v) : v = .non := by unfold Rep at h; exact h
theorem rep_str {x : Str} {v : V} (h : Rep K H (.str x) v) : v = .str x := by unfold Rep at h; exact h
theorem rep_tup {ds : List D} {v : V} (h : Rep K H (.tuple ds) v) : ∃ a xs, v = .ref a ∧ SqT K H a xs ∧ Reps K H ds xs := by unfold Rep at h; exact h
theorem rep_lst {ds : List D} {v : V} (h : Rep K H (.list ds) v) : ∃ a xs, v = .ref a ∧ SqL K H a xs ∧ Reps K H ds xs := by unfold Rep at h; exact h
theorem rep_opq {a : Addr} {v : V} (h : Rep K H (opq a) v) : v = .ref a := by
  unfold opq Rep at h
  obtain ⟨b, e, rfl⟩ := h
  have e1 := (List.cons.inj e).1
  have e2 : PyData.int ((a : Nat) : Int) = PyData.int ((b : Nat) : Int) := (Prod.mk.inj e1).1
  injection e2 with e3
  have e4 : @Eq Nat a b := Int.ofNat.inj e3
  rw [show a = b from e4]
theorem Rep.ofOpq (a : Addr) : Rep K H (opq a) (.ref a) := by unfold opq Rep; exact ⟨a, rfl, rfl⟩
theorem Rep.ofInt (i : Int) : Rep K H (.int i) (.int i) := by unfold Rep; rfl
theorem Rep.ofBool (b : Bool) : Rep K H (.bool b) (.bl b) := by unfold Rep; rfl
theorem Rep.ofNone : Rep K H .none .non := by unfold Rep; rfl
theorem Rep.ofStr (x : Str) : Rep K H (.str x) (.str x) := by unfold Rep; rfl
theorem Rep.ofTup {a : Addr} {xs : List V} {ds : List D} (h : SqT K H a xs) (t : Reps K H ds xs) : Rep K H (.tuple ds) (.ref a) := by unfold Rep; exact ⟨a, xs, rfl, h, t⟩
theorem Rep.ofLst {a : Addr} {xs : List V} {ds : List D} (h : SqL K H a xs) (t : Reps K H ds xs) : Rep K H (.list ds) (.ref a) := by unfold Rep; exact ⟨a, xs, rfl, h, t⟩
theorem same_upd {p : Addr} (h : H p = none) (o : HO) : Same H (upd H p o) := fun b u q => by rw [upd_ne (ne_of_none q h)]; exact q
theorem Rep.newTup {p : Addr} {xs : List V} {ds : List D} (h : H p = none) (t : Reps K H ds xs) : Rep K (upd H p (.tup xs)) (.tuple ds) (.ref p) := Rep.ofTup (SqT.of upd_same) (t.mono (same_upd h _))
theorem Rep.newLst {p : Addr} {xs : List V} {ds : List D} (h : H p = none) (t : Reps K H ds xs) : Rep K (upd H p (.lst xs)) (.list ds) (.ref p) := Rep.ofLst (SqL.of upd_same) (t.mono (same_upd h _))
theorem reps_of_ints : ∀ (ns : List Int), Reps K H (ns.map PyData.int) (ns.map V.int)
  | [] => Reps.nil
  | i :: r => Reps.cons (Rep.ofInt i) (reps_of_ints r)
end
structure RepSt (K : PySem.W.Frag) (H : Hp) (δ : Dl) (σ : St) : Prop where
  len : δ.length = σ.length
  get : ∀ (i : Nat) (d : D), δ[i]? = some (some d) → ∃ v, σ[i]? = some (some v) ∧ Rep K H d v
section
variable {K : PySem.W.Frag} {H H' : Hp} {δ : Dl} {σ : St}
theorem RepSt.mono (r : RepSt K H δ σ) (e : Same H H') : RepSt K H' δ σ := ⟨r.len, fun i d h => let ⟨v, h1, h2⟩ := r.get i d h; ⟨v, h1, h2.mono e⟩⟩
theorem RepSt.set (r : RepSt K H δ σ) {d : D} {v : V} (h : Rep K H d v) (i : Nat) : RepSt K H (δ.set i (some d)) (σ.set i (some v)) := by
  refine ⟨by rw [List.length_set, List.length_set]; exact r.len, fun j e q => ?_⟩
  by_cases hj : i = j
  · subst hj
    by_cases hl : i < δ.length
    · rw [List.getElem?_set_self hl] at q
      cases q
      exact ⟨v, by rw [List.getElem?_set_self (by rw [← r.len]; exact hl)], h⟩
    · rw [List.getElem?_eq_none (by rw [List.length_set]; omega)] at q
      cases q
  · rw [List.getElem?_set_ne hj] at q ⊢
    exact r.get j e q
end
def tP (K : PySem.W.Frag) (f : Fe) : TE := fun σ H Q => ∃ δ d, RepSt K H δ σ ∧ f δ = some d ∧ ∀ v H', Same H H' → Rep K H' d v → Q v H'
def tPT (K : PySem.W.Frag) (f : Fb) : TT := fun σ H Q => ∃ δ b, RepSt K H δ σ ∧ f δ = some b ∧ ∀ H', Same H H' → Q b H'
def tPA (K : PySem.W.Frag) (f : Fa) : TA := fun σ H Q => ∃ δ ds, RepSt K H δ σ ∧ f δ = some ds ∧ ∀ vs H', Same H H' → Reps K H' ds vs → Q vs H'
structure Pu (X : Cx) (e : Expr) (f : Fe) : Prop where
  un : PE X e (tP X.K f)
structure PuT (X : Cx) (e : Expr) (f : Fb) : Prop where
  un : PT X e (tPT X.K f)
structure PuA (X : Cx) (es : List Expr) (f : Fa) : Prop where
  un : PA X es (tPA X.K f)
theorem bind_some {α β : Type} {o : Option α} {g : α → Option β} {b : β} (h : o.bind g = some b) : ∃ a, o = some a ∧ g a = some b := by
  cases o with
  | none => cases h
  | some a => exact ⟨a, rfl, h⟩
section
variable {X : Cx} {a b c : Expr} {es : List Expr} {pos : Pos} {f g k : Fe} {fa : Fa} {p q : Fb}
theorem PE.imp {e : Expr} {t : TE} {f : Fe} (h : PE X e t) (w : ∀ σ H Q, tP X.K f σ H Q → t σ H Q) : Pu X e f := Pu.mk fun pins s σ H Q I q => h pins s σ H Q I (w σ H Q q)
theorem PT.imp {e : Expr} {t : TT} {f : Fb} (h : PT X e t) (w : ∀ σ H Q, tPT X.K f σ H Q → t σ H Q) : PuT X e f := PuT.mk fun pins s σ H Q I q => h pins s σ H Q I (w σ H Q q)
theorem PA.imp {e : List Expr} {t : TA} {f : Fa} (h : PA X e t) (w : ∀ σ H Q, tPA X.K f σ H Q → t σ H Q) : PuA X e f := PuA.mk fun pos pins s σ H Q I q => h pos pins s σ H Q I (w σ H Q q)
theorem pu_var (i : Nat) {x : Str} (hN : X.N[i]? = some x := by rfl) (hv : Vis X.env.scope x := by first | exact Or.inl rfl | exact Or.inr (Or.inl rfl) | exact Or.inr (Or.inr rfl)) (hd : (x == ("__debug__" : Str)) = false := by decide)
    (hcd : (x == ("__classdict__" : Str)) = false := by decide) : Pu X (.Name x pos) (eVar i) := PE.imp (pe_var hN hv hd hcd) fun σ H Q ⟨δ, d, r, e, q⟩ => by
  unfold eVar at e
  obtain ⟨o, e1, e2⟩ := bind_some e
  have e3 : o = some d := e2
  subst e3
  obtain ⟨v, h1, h2⟩ := r.get i d e1
  exact ⟨v, h1, q v H (Same.refl H) h2⟩
theorem pu_int {i : Int} {j : Nat} : Pu X (.Constant (.int i) j pos) (eC (.int i)) := PE.imp pe_int fun σ H Q ⟨_, _, _, e, q⟩ => by
  cases e
  exact q _ H (Same.refl H) (Rep.ofInt i)
theorem pu_bl {i : Bool} {j : Nat} : Pu X (.Constant (.bool i) j pos) (eC (.bool i)) := PE.imp pe_bl fun σ H Q ⟨_, _, _, e, q⟩ => by
  cases e
  exact q _ H (Same.refl H) (Rep.ofBool i)
theorem pu_non {j : Nat} : Pu X (.Constant .none j pos) (eC .none) := PE.imp pe_non fun σ H Q ⟨_, _, _, e, q⟩ => by
  cases e
  exact q _ H (Same.refl H) Rep.ofNone
theorem pu_str {x : Str} {j : Nat} : Pu X (.Constant (.str x) j pos) (eC (.str x)) := PE.imp pe_str fun σ H Q ⟨_, _, _, e, q⟩ => by
  cases e
  exact q _ H (Same.refl H) (Rep.ofStr x)
theorem pu_gint {x : Str} {i : Int} {t : Tok} (hg : Gl X x) (hm : X.mg x = some (.int i t)) (hd : (x == ("__debug__" : Str)) = false := by decide) : Pu X (.Name x pos) (eC (.int i)) :=
  PE.imp (pe_glob (v := .int i) hg hm ⟨t, rfl⟩ hd) fun σ H Q ⟨_, _, _, e, q⟩ => by
  cases e
  exact q _ H (Same.refl H) (Rep.ofInt i)
theorem pua_nil : PuA X [] aNil := PA.imp pa_nil fun σ H Q ⟨_, _, _, e, q⟩ => by
  cases e
  exact q _ H (Same.refl H) Reps.nil
theorem pua_cons (ha : Pu X a f) (hr : PuA X es fa) (hs : starEach (a :: es) X.env = (false, eval a X.env) :: starEach es X.env := by rfl) : PuA X (a :: es) (aCons f fa) :=
  PA.imp (pa_cons ha.un hr.un hs) fun σ H Q ⟨δ, ds, r, e, q⟩ => by
  obtain ⟨x, e1, e⟩ := bind_some e
  obtain ⟨xs, e2, e⟩ := bind_some e
  cases e
  exact ⟨δ, x, r, e1, fun v H1 s1 h1 => ⟨δ, xs, r.mono s1, e2, fun vs H2 s2 h2 => q _ _ (s1.trans s2) (Reps.cons (h1.mono s2) h2)⟩⟩
theorem oI_some {C : Int → Int → Bool} {r : Int → Int → D} {x y d : D} (h : oI C r x y = some d) : ∃ i j, x = .int i ∧ y = .int j ∧ C i j = true ∧ d = r i j := by
  unfold oI at h
  split at h
  · rename_i i j
    by_cases hc : C i j = true
    · rw [if_pos hc] at h
      cases h
      exact ⟨i, j, rfl, rfl, hc, rfl⟩
    · rw [if_neg hc] at h; cases h
  · cases h
theorem op_of {r : R2} {o : D → D → Option D} (w : ∀ x y d, o x y = some d → ∀ (H : Hp) (vx vy : V) (Q : VK), Rep X.K H x vx → Rep X.K H y vy → (∀ v H', Same H H' → Rep X.K H' d v → Q v H') → r vx vy H Q) :
    ∀ (σ : St) (H : Hp) (Q : VK), tP X.K (eOp o f g) σ H Q → tOp r (tP X.K f) (tP X.K g) σ H Q := fun σ H Q ⟨δ, d, r, e, q⟩ => by
  obtain ⟨x, e1, e⟩ := bind_some e
  obtain ⟨y, e2, e⟩ := bind_some e
  exact ⟨δ, x, r, e1, fun v H1 s1 h1 => ⟨δ, y, r.mono s1, e2, fun u H2 s2 h2 => w x y d e H2 v u Q (h1.mono s2) h2 fun v' H' s' h' => q v' H' ((s1.trans s2).trans s') h'⟩⟩
theorem int_of {C : Int → Int → Prop} {C' : Int → Int → Bool} {r : Int → Int → V} {r' : Int → Int → D} (hC : ∀ i j, C' i j = true → C i j) (hr : ∀ i j H, Rep X.K H (r' i j) (r i j)) :
    ∀ x y d, oI C' r' x y = some d → ∀ (H : Hp) (vx vy : V) (Q : VK), Rep X.K H x vx → Rep X.K H y vy → (∀ v H', Same H H' → Rep X.K H' d v → Q v H') → rI C r vx vy H Q := by
  intro x y d e H vx vy Q hx hy q
  obtain ⟨i, j, rfl, rfl, hc, rfl⟩ := oI_some e
  exact ⟨i, j, rep_int hx, rep_int hy, hC i j hc, q _ H (Same.refl H) (hr i j H)⟩
theorem int_of0 {r : Int → Int → V} {r' : Int → Int → D} (hr : ∀ i j H, Rep X.K H (r' i j) (r i j)) :
    ∀ x y d, oI (fun _ _ => true) r' x y = some d → ∀ (H : Hp) (vx vy : V) (Q : VK), Rep X.K H x vx → Rep X.K H y vy → (∀ v H', Same H H' → Rep X.K H' d v → Q v H') → rI0 r vx vy H Q := by
  intro x y d e H vx vy Q hx hy q
  obtain ⟨i, j, rfl, rfl, hc, rfl⟩ := oI_some e
  exact ⟨i, j, rep_int hx, rep_int hy, q _ H (Same.refl H) (hr i j H)⟩
theorem pu_sub (ha : Pu X a f) (hb : Pu X b g) : Pu X (.BinOp a .Sub b pos) (eOp oSub f g) := PE.imp (pe_op op_sub ha.un hb.un) (op_of (int_of0 fun _ _ _ => Rep.ofInt _))
theorem pu_div (ha : Pu X a f) (hb : Pu X b g) : Pu X (.BinOp a .FloorDiv b pos) (eOp oDiv f g) := PE.imp (pe_op op_fdiv ha.un hb.un) (op_of (int_of (fun i j h => by
  unfold cDiv at h
  rw [Bool.and_eq_true] at h
  exact ⟨of_decide_eq_true h.1, of_decide_eq_true h.2⟩) fun _ _ _ => Rep.ofInt _))
theorem pu_mod (ha : Pu X a f) (hb : Pu X b g) : Pu X (.BinOp a .Mod b pos) (eOp oMod f g) := PE.imp (pe_op op_mod ha.un hb.un) (op_of (int_of (fun i j h => of_decide_eq_true h) fun _ _ _ => Rep.ofInt _))
theorem pu_neg (ha : Pu X a f) : Pu X (.UnaryOp .USub a pos) (eUn oNeg f) := PE.imp (pe_un un_neg ha.un) fun σ H Q ⟨δ, d, r, e, q⟩ => by
  obtain ⟨x, e1, e⟩ := bind_some e
  refine ⟨δ, x, r, e1, fun v H1 s1 h1 => ?_⟩
  cases x with
  | int i =>
    cases e
    exact ⟨i, rep_int h1, q _ H1 s1 (Rep.ofInt _)⟩
  | _ => cases e
structure CmpD (X : Cx) (op : CmpOp) (o : D → D → Option D) : Prop where
  ex : ∃ r : R2, OpR X (compareOp op) r ∧ ∀ x y d, o x y = some d → ∀ (H : Hp) (vx vy : V) (Q : VK), Rep X.K H x vx → Rep X.K H y vy → (∀ v H', Same H H' → Rep X.K H' d v → Q v H') → r vx vy H Q
theorem cd_lt : CmpD X .Lt oLt := ⟨_, op_lt, int_of0 fun _ _ _ => Rep.ofBool _⟩
theorem cd_le : CmpD X .LtE oLe := ⟨_, op_le, int_of0 fun _ _ _ => Rep.ofBool _⟩
theorem cd_gt : CmpD X .Gt oGt := ⟨_, op_gt, int_of0 fun _ _ _ => Rep.ofBool _⟩
theorem pu_cmp {op : CmpOp} {o : D → D → Option D} (ho : CmpD X op o) (ha : Pu X a f) (hb : Pu X b g) (hm : behindInMarks op b = false) : Pu X (.Compare a [op] [b] pos) (eOp o f g) := by
  obtain ⟨r, h1, h2⟩ := ho.ex
  exact PE.imp (pe_cmpR h1 ha.un hb.un hm) (op_of h2)
theorem isB_some {d : D} {b : Bool} (h : isB d = some b) : d = .bool b := by
  cases d with
  | bool c => cases h; rfl
  | _ => cases h
theorem test_of {t : TE} (h : ∀ σ H Q, tP X.K f σ H Q → t σ H Q) : ∀ σ H Q, tPT X.K (cB f) σ H Q → tTest t σ H Q := fun σ H Q ⟨δ, b, r, e, q⟩ => by
  obtain ⟨x, e1, e⟩ := bind_some e
  have := isB_some e
  subst this
  exact h _ _ _ ⟨δ, _, r, e1, fun v H' s' h' => ⟨b, rep_bool h', q H' s'⟩⟩
theorem put_cmp {op : CmpOp} {o : D → D → Option D} (ho : CmpD X op o) (ha : Pu X a f) (hb : Pu X b g) (hm : behindInMarks op b = false) : PuT X (.Compare a [op] [b] pos) (cB (eOp o f g)) := by
  obtain ⟨r, h1, h2⟩ := ho.ex
  exact PT.imp (pt_cmpR h1 ha.un hb.un hm) (test_of (op_of h2))
theorem chain_of {r r' : R2} {o o' : D → D → Option D}
    (w : ∀ x y d, o x y = some d → ∀ (H : Hp) (vx vy : V) (Q : VK), Rep X.K H x vx → Rep X.K H y vy → (∀ v H', Same H H' → Rep X.K H' d v → Q v H') → r vx vy H Q)
    (w' : ∀ x y d, o' x y = some d → ∀ (H : Hp) (vx vy : V) (Q : VK), Rep X.K H x vx → Rep X.K H y vy → (∀ v H', Same H H' → Rep X.K H' d v → Q v H') → r' vx vy H Q) :
    ∀ σ H Q, tP X.K (eCh o o' f g k) σ H Q → tChain r r' (tP X.K f) (tP X.K g) (tP X.K k) σ H Q := fun σ H Q ⟨δ, d, rs, e, q⟩ => by
  obtain ⟨x, e1, e⟩ := bind_some e
  obtain ⟨y, e2, e⟩ := bind_some e
  obtain ⟨z, e3, e⟩ := bind_some e
  obtain ⟨t, e4, e9⟩ := bind_some e
  have := isB_some e4
  subst this
  have e := e9
  refine ⟨δ, x, rs, e1, fun v H1 s1 h1 => ⟨δ, y, rs.mono s1, e2, fun u H2 s2 h2 => w x y _ e3 H2 v u _ (h1.mono s2) h2 fun v' H3 s3 h3 => ⟨t, rep_bool h3, ?_⟩⟩⟩
  cases t with
  | true =>
    rw [if_pos rfl] at e ⊢
    obtain ⟨c', e5, e⟩ := bind_some e
    exact ⟨δ, c', rs.mono ((s1.trans s2).trans s3), e5, fun v4 H4 s4 h4 => w' y c' d e H4 u v4 Q (h2.mono (s3.trans s4)) h4 fun v5 H5 s5 h5 => q v5 H5 ((((s1.trans s2).trans s3).trans s4).trans s5) h5⟩
  | false =>
    rw [if_neg Bool.false_ne_true] at e ⊢
    cases e
    exact q _ H3 ((s1.trans s2).trans s3) (Rep.ofBool false)
theorem pu_chain {op op' : CmpOp} {o o' : D → D → Option D} (ho : CmpD X op o) (ho' : CmpD X op' o') (ha : Pu X a f) (hb : Pu X b g) (hc : Pu X c k) (hm : lastMarks [op, op'] [b, c] = false := by with_unfolding_all rfl) :
    Pu X (.Compare a [op, op'] [b, c] pos) (eCh o o' f g k) := by
  obtain ⟨r, h1, h2⟩ := ho.ex
  obtain ⟨r', h1', h2'⟩ := ho'.ex
  exact PE.imp (pe_chain h1 h1' ha.un hb.un hc.un hm) (chain_of h2 h2')
theorem put_chain {op op' : CmpOp} {o o' : D → D → Option D} (ho : CmpD X op o) (ho' : CmpD X op' o') (ha : Pu X a f) (hb : Pu X b g) (hc : Pu X c k) (hm : lastMarks [op, op'] [b, c] = false := by with_unfolding_all rfl) :
    PuT X (.Compare a [op, op'] [b, c] pos) (cB (eCh o o' f g k)) := by
  obtain ⟨r, h1, h2⟩ := ho.ex
  obtain ⟨r', h1', h2'⟩ := ho'.ex
  exact PT.imp (pt_chain h1 h1' ha.un hb.un hc.un hm) (test_of (chain_of h2 h2'))
variable {rest : List Expr}
theorem pu_one {op : BoolOp} (h : Pu X a f) : Pu X (.BoolOp op [a] pos) f := ⟨pe_one h.un⟩
theorem pu_and (ha : Pu X a f) (hb : Pu X (.BoolOp .And (b :: rest) pos) g) : Pu X (.BoolOp .And (a :: b :: rest) pos) (eAnd f g) := PE.imp (pe_and ha.un hb.un) fun σ H Q ⟨δ, d, r, e, q⟩ => by
  obtain ⟨x, e1, e⟩ := bind_some e
  obtain ⟨t, e2, e9⟩ := bind_some e
  have := isB_some e2
  subst this
  have e := e9
  refine ⟨δ, _, r, e1, fun v H1 s1 h1 => ⟨t, rep_bool h1, ?_⟩⟩
  cases t with
  | true =>
    rw [if_pos rfl] at e ⊢
    exact ⟨δ, d, r.mono s1, e, fun v2 H2 s2 h2 => q v2 H2 (s1.trans s2) h2⟩
  | false =>
    rw [if_neg Bool.false_ne_true] at e ⊢
    cases e
    exact q _ H1 s1 (Rep.ofBool false)
theorem pu_not (ha : Pu X a f) : Pu X (.UnaryOp .Not a pos) (eNot f) := PE.imp (pe_not ha.un) fun σ H Q ⟨δ, d, r, e, q⟩ => by
  obtain ⟨x, e1, e⟩ := bind_some e
  obtain ⟨t, e2, e9⟩ := bind_some e
  have := isB_some e2
  subst this
  have e := e9
  cases e
  exact ⟨δ, _, r, e1, fun v H1 s1 h1 => ⟨t, rep_bool h1, q _ H1 s1 (Rep.ofBool _)⟩⟩
structure PuW (X : Cx) (e : Expr) (f : Fb) : Prop where
  un : PW X e (tPT X.K f)
theorem PW.imp {e : Expr} {t : TT} {f : Fb} (h : PW X e t) (w : ∀ σ H Q, tPT X.K f σ H Q → t σ H Q) : PuW X e f := PuW.mk fun wh pins s σ H Q I q => h wh pins s σ H Q I (w σ H Q q)
theorem put_w (h : PuW X a p) : PuT X a p := ⟨h.un _⟩
theorem puw_and1 (ha : PuT X a p) : PuW X (.BoolOp .And [a] pos) p := ⟨pw_and1 ha.un⟩
theorem puw_or1 (ha : PuT X a p) : PuW X (.BoolOp .Or [a] pos) p := ⟨pw_or1 ha.un⟩
theorem puw_and (ha : PuT X a p) (hb : PuW X (.BoolOp .And (b :: rest) pos) q) : PuW X (.BoolOp .And (a :: b :: rest) pos) (cAnd p q) := PW.imp (pw_and ha.un hb.un) fun σ H Q ⟨δ, d, r, e, z⟩ => by
  obtain ⟨t, e1, e⟩ := bind_some e
  refine ⟨δ, t, r, e1, fun H1 s1 => ?_⟩
  cases t with
  | true =>
    rw [if_pos rfl] at e ⊢
    exact ⟨δ, d, r.mono s1, e, fun H2 s2 => z H2 (s1.trans s2)⟩
  | false =>
    rw [if_neg Bool.false_ne_true] at e ⊢
    cases e
    exact z H1 s1
theorem puw_or (ha : PuT X a p) (hb : PuW X (.BoolOp .Or (b :: rest) pos) q) : PuW X (.BoolOp .Or (a :: b :: rest) pos) (cOr p q) := PW.imp (pw_or ha.un hb.un) fun σ H Q ⟨δ, d, r, e, z⟩ => by
  obtain ⟨t, e1, e⟩ := bind_some e
  refine ⟨δ, t, r, e1, fun H1 s1 => ?_⟩
  cases t with
  | true =>
    rw [if_pos rfl] at e ⊢
    cases e
    exact z H1 s1
  | false =>
    rw [if_neg Bool.false_ne_true] at e ⊢
    exact ⟨δ, d, r.mono s1, e, fun H2 s2 => z H2 (s1.trans s2)⟩
theorem put_not (ha : PuT X a p) : PuT X (.UnaryOp .Not a pos) (cNot p) := PT.imp (pt_not ha.un) fun σ H Q ⟨δ, d, r, e, z⟩ => by
  obtain ⟨t, e1, e⟩ := bind_some e
  cases e
  exact ⟨δ, t, r, e1, fun H1 s1 => z H1 s1⟩
theorem isEmpty_reps {K : PySem.W.Frag} {H : Hp} {ds : List D} {xs : List V} (h : Reps K H ds xs) : xs.isEmpty = ds.isEmpty := by
  cases ds with
  | nil => rw [h.unnil]; rfl
  | cons d ds => obtain ⟨v, vs, rfl, _⟩ := h.uncons; rfl
theorem tru_rep {H : Hp} {d : D} {v : V} {b : Bool} (h : Rep X.K H d v) (e : tru d = some b) : TruV X.K v H b := by
  cases d with
  | none => cases e; rw [rep_none h]; exact rfl
  | bool c => cases e; rw [rep_bool h]; exact rfl
  | int i => cases e; rw [rep_int h]; exact rfl
  | list l =>
    cases e
    obtain ⟨p, xs, rfl, h1, h2⟩ := rep_lst h
    exact .inl ⟨xs, h1, by rw [isEmpty_reps h2]⟩
  | tuple l =>
    cases e
    obtain ⟨p, xs, rfl, h1, h2⟩ := rep_tup h
    exact .inr (.inl ⟨xs, h1, by rw [isEmpty_reps h2]⟩)
  | _ => cases e
theorem put_val (ha : Pu X a f) (he : ∀ whole, isTrue a X.env whole = (do let v ← whole; standAt a.pos; holding [v] (truthy v)) := by intro _; rfl) : PuT X a (cT f) := PT.imp (pt_truth ha.un he) fun σ H Q ⟨δ, d, r, e, z⟩ => by
  obtain ⟨x, e1, e⟩ := bind_some e
  exact ⟨δ, x, r, e1, fun v H1 s1 h1 => ⟨d, tru_rep h1 e, z H1 s1⟩⟩
theorem fit_le {n : Nat} (h : fit n = true) : n ≤ sizeLine := by rw [sizeLine_eq]; exact of_decide_eq_true h
theorem mkT_some {l : List D} {d : D} (h : mkT l = some d) : d = .tuple l ∧ l.length ≤ sizeLine := by
  unfold mkT at h
  split at h
  · rename_i q
    cases h
    exact ⟨rfl, fit_le q⟩
  · cases h
theorem mkL_some {l : List D} {d : D} (h : mkL l = some d) : d = .list l ∧ l.length ≤ sizeLine := by
  unfold mkL at h
  split at h
  · rename_i q
    cases h
    exact ⟨rfl, fit_le q⟩
  · cases h
theorem pu_tup {x1} (h : PuA X es fa) : Pu X (.Tuple es x1 pos) (eTup fa) := PE.imp (pe_tup h.un) fun σ H Q ⟨δ, d, r, e, z⟩ => by
  obtain ⟨xs, e1, e⟩ := bind_some e
  obtain ⟨rfl, hl⟩ := mkT_some e
  exact ⟨δ, xs, r, e1, fun vs H1 s1 h1 => ⟨by rw [h1.length]; exact hl, fun p hp => z _ _ (s1.trans (same_upd hp _)) (Rep.newTup hp h1)⟩⟩
theorem pu_lst (h : PuA X es fa) : Pu X (.List es pos) (eLst fa) := PE.imp (pe_lst h.un) fun σ H Q ⟨δ, d, r, e, z⟩ => by
  obtain ⟨xs, e1, e⟩ := bind_some e
  obtain ⟨rfl, hl⟩ := mkL_some e
  exact ⟨δ, xs, r, e1, fun vs H1 s1 h1 => ⟨by rw [h1.length]; exact hl, fun p hp => z _ _ (s1.trans (same_upd hp _)) (Rep.newLst hp h1)⟩⟩
theorem atI_reps {K : PySem.W.Frag} {H : Hp} {ds : List D} {xs : List V} {i : Int} {d : D} (h : Reps K H ds xs) (e : atI ds i = some d) : ∃ v, atI xs i = some v ∧ Rep K H d v := by
  unfold atI at e ⊢
  rw [h.length]
  obtain ⟨j, e1, e2⟩ := bind_some e
  obtain ⟨v, h1, h2⟩ := h.getD e2
  exact ⟨v, by rw [e1]; exact h1, h2⟩
theorem pu_ix (ha : Pu X a f) (hb : Pu X b g) (hs : PlainIx b := by intro _ _; rfl) : Pu X (.Subscript a b pos) (eOp oIx f g) := PE.imp (pe_ix (ix_list.or ix_tup) ha.un hb.un hs) (op_of fun x y d e H vx vy Q hx hy q => by
  cases y with
  | int i =>
    cases x with
    | list l =>
      obtain ⟨p, xs, e1, h1, h2⟩ := rep_lst hx
      obtain ⟨v, h3, h4⟩ := atI_reps h2 e
      exact .inl ⟨p, xs, i, v, e1, rep_int hy, h1, h3, q v H (Same.refl H) h4⟩
    | tuple l =>
      obtain ⟨p, xs, e1, h1, h2⟩ := rep_tup hx
      obtain ⟨v, h3, h4⟩ := atI_reps h2 e
      exact .inr ⟨p, xs, i, v, e1, rep_int hy, h1, h3, q v H (Same.refl H) h4⟩
    | _ => cases e
  | _ => cases x <;> cases e)
structure CallD (X : Cx) (id : Value) (F : List D → Option D) : Prop where
  ex : ∃ r, CallR X id r ∧ ∀ ds d, F ds = some d → ∀ (H : Hp) (vs : List V) (Q : VK), Reps X.K H ds vs → (∀ v H', Same H H' → Rep X.K H' d v → Q v H') → r vs H Q
theorem call_of {r : List V → Hp → VK → Prop} {F : List D → Option D} (w : ∀ ds d, F ds = some d → ∀ (H : Hp) (vs : List V) (Q : VK), Reps X.K H ds vs → (∀ v H', Same H H' → Rep X.K H' d v → Q v H') → r vs H Q) :
    ∀ σ H Q, tP X.K (eCall F fa) σ H Q → tCB r (tPA X.K fa) σ H Q := fun σ H Q ⟨δ, d, rs, e, q⟩ => by
  obtain ⟨ds, e1, e⟩ := bind_some e
  exact ⟨δ, ds, rs, e1, fun vs H1 s1 h1 => w ds d e H1 vs Q h1 fun v H2 s2 h2 => q v H2 (s1.trans s2) h2⟩
theorem pu_callB {id : String} {F : List D → Option D} {x : Str} {p0 : Pos} (hc : CallD X (.builtin id) F) (hg : Gl X x) (hm : X.mg x = none) (hv : bootBuiltins x = some (.builtin id)) (ha : PuA X (a :: es) fa) (hn : x ≠ "__name__" := by decide)
    (hdb : (x == ("__debug__" : Str)) = false := by decide) (he : starEach (a :: es) X.env = (false, eval a X.env) :: starEach es X.env := by rfl) (hpl : (backTo pos (starEach es X.env)).any (·.1) = false := by rfl) :
    Pu X (.Call (.Name x p0) (a :: es) [] pos) (eCall F fa) := by
  obtain ⟨r, h1, h2⟩ := hc.ex
  exact PE.imp (pe_callB h1 hg hm hv ha.un hn hdb he hpl) (call_of h2)
theorem pu_callTy {T : String} {F : List D → Option D} {x : Str} {p0 : Pos} (hc : CallD X (.type T) F) (hg : Gl X x) (hm : X.mg x = none) (hv : bootBuiltins x = some (.type T)) (ha : PuA X (a :: es) fa) (hn : x ≠ "__name__" := by decide)
    (hdb : (x == ("__debug__" : Str)) = false := by decide) (he : starEach (a :: es) X.env = (false, eval a X.env) :: starEach es X.env := by rfl) (hpl : (backTo pos (starEach es X.env)).any (·.1) = false := by rfl) :
    Pu X (.Call (.Name x p0) (a :: es) [] pos) (eCall F fa) := by
  obtain ⟨r, h1, h2⟩ := hc.ex
  exact PE.imp (pe_callTy h1 hg hm hv ha.un hn hdb he hpl) (call_of h2)
theorem reps1 {K : PySem.W.Frag} {H : Hp} {d : D} {vs : List V} (h : Reps K H [d] vs) : ∃ v, vs = [v] ∧ Rep K H d v := by
  obtain ⟨v, r, rfl, h1, h2⟩ := h.uncons
  rw [h2.unnil]
  exact ⟨v, rfl, h1⟩
theorem fLen_some {ds : List D} {d : D} (h : fLen ds = some d) : ∃ l, (ds = [.list l] ∨ ds = [.tuple l]) ∧ d = .int l.length := by
  unfold fLen at h
  split at h
  · cases h; exact ⟨_, .inl rfl, rfl⟩
  · cases h; exact ⟨_, .inr rfl, rfl⟩
  · cases h
theorem cd_len : CallD X (.builtin "len") fLen := ⟨_, call_len_seq, fun ds d e H vs Q h q => by
  obtain ⟨l, hd, rfl⟩ := fLen_some e
  rcases hd with rfl | rfl
  · obtain ⟨v, rfl, h1⟩ := reps1 h
    obtain ⟨p, xs, rfl, h2, h3⟩ := rep_lst h1
    exact ⟨p, xs, rfl, .inl h2, by rw [h3.length]; exact q _ H (Same.refl H) (Rep.ofInt _)⟩
  · obtain ⟨v, rfl, h1⟩ := reps1 h
    obtain ⟨p, xs, rfl, h2, h3⟩ := rep_tup h1
    exact ⟨p, xs, rfl, .inr h2, by rw [h3.length]; exact q _ H (Same.refl H) (Rep.ofInt _)⟩⟩
theorem fTuple_some {ds : List D} {d : D} (h : fTuple ds = some d) : ∃ l, (ds = [.list l] ∨ ds = [.tuple l]) ∧ d = .tuple l := by
  unfold fTuple at h
  split at h
  · cases h; exact ⟨_, .inl rfl, rfl⟩
  · cases h; exact ⟨_, .inr rfl, rfl⟩
  · cases h
theorem cd_tuple : CallD X (.type "tuple") fTuple := ⟨_, call_tuple_of, fun ds d e H vs Q h q => by
  obtain ⟨l, hd, rfl⟩ := fTuple_some e
  rcases hd with rfl | rfl
  · obtain ⟨v, rfl, h1⟩ := reps1 h
    obtain ⟨p, xs, rfl, h2, h3⟩ := rep_lst h1
    exact ⟨p, xs, rfl, .inl ⟨h2, fun t ht => q _ _ (same_upd ht _) (Rep.newTup ht h3)⟩⟩
  · obtain ⟨v, rfl, h1⟩ := reps1 h
    obtain ⟨p, xs, rfl, h2, h3⟩ := rep_tup h1
    exact ⟨p, xs, rfl, .inr ⟨h2, q _ H (Same.refl H) (Rep.ofTup h2 h3)⟩⟩⟩
theorem fList_some {ds : List D} {d : D} (h : fList ds = some d) : ∃ l, (ds = [.list l] ∨ ds = [.tuple l]) ∧ d = .list l := by
  unfold fList at h
  split at h
  · cases h; exact ⟨_, .inl rfl, rfl⟩
  · cases h; exact ⟨_, .inr rfl, rfl⟩
  · cases h
theorem cd_list : CallD X (.type "list") fList := ⟨_, call_list_of, fun ds d e H vs Q h q => by
  obtain ⟨l, hd, rfl⟩ := fList_some e
  rcases hd with rfl | rfl
  · obtain ⟨v, rfl, h1⟩ := reps1 h
    obtain ⟨p, xs, rfl, h2, h3⟩ := rep_lst h1
    exact ⟨p, xs, rfl, .inl h2, fun t ht => q _ _ (same_upd ht _) (Rep.newLst ht h3)⟩
  · obtain ⟨v, rfl, h1⟩ := reps1 h
    obtain ⟨p, xs, rfl, h2, h3⟩ := rep_tup h1
    exact ⟨p, xs, rfl, .inr h2, fun t ht => q _ _ (same_upd ht _) (Rep.newLst ht h3)⟩⟩
def spP (K : PySem.W.Frag) (n : Nat) (F : List D → Option D) : Sp := fun vs H Q _ => ∃ ds d, ds.length = n ∧ Reps K H ds vs ∧ F ds = some d ∧ ∀ v H', Same H H' → Rep K H' d v → Q v H'
theorem spP_len {K : PySem.W.Frag} {n : Nat} {F : List D → Option D} {ps : List Str} (hn : n = ps.length) (vs : List V) (H : Hp) (Q : VK) (E : XK) (h : spP K n F vs H Q E) : vs.length = ps.length := by
  obtain ⟨ds, d, h1, h2, _⟩ := h
  rw [h2.length, h1, hn]
theorem aLen {δ : Dl} : ∀ {ds : List D} {es : List Fe}, (es.foldr aCons aNil) δ = some ds → ds.length = es.length
  | ds, [], h => by cases h; rfl
  | ds, e :: es, h => by
    obtain ⟨x, _, h⟩ := bind_some h
    obtain ⟨xs, h2, h⟩ := bind_some h
    cases h
    rw [List.length_cons, List.length_cons, aLen h2]
theorem pu_call {kk n : Nat} {f0 : Addr} {fd : FuncData} {ps : List Str} {F : List D → Option D} {x : Str} {p0 : Pos} {E : XK} (F0 : FnOk X.prog X.w X.K X.mg X.base CX0 kk f0 fd ps (spP X.K n F)) (hr : Room kk X.A) (hg : Gl X x) (hm : X.mg x = some (.ref f0))
    (hk : PySem.W.keepIn X.K (.ref f0) = true) (hb : Binds X.K fd ps []) (ha : PuA X (a :: es) fa) (hn : ∀ δ ds, fa δ = some ds → ds.length = n) (hdb : (x == ("__debug__" : Str)) = false := by decide)
    (he : starEach (a :: es) X.env = (false, eval a X.env) :: starEach es X.env := by rfl) (hpl : (backTo pos (starEach es X.env)).any (·.1) = false := by rfl) :
    Pu X (.Call (.Name x p0) (a :: es) [] pos) (eCall F fa) := PE.imp (pe_call F0 hr hg hm hk hb .nil (pass0 (X := X)) ha.un hdb he hpl) fun σ H Q ⟨δ, d, rs, e, q⟩ => by
  obtain ⟨ds, e1, e⟩ := bind_some e
  refine ⟨δ, ds, rs, e1, fun vs H1 s1 h1 => ⟨ds, d, hn δ ds e1, ?_, e, fun v H2 s2 h2 => q v H2 (s1.trans s2) h2⟩⟩
  rw [List.append_nil]
  exact h1
end
end PU
namespace PU
open PySem PySem.Spec L2
open PyProof.Rows hiding St
structure ItD (K : PySem.W.Frag) (ds : List D) (J : It) (H : Hp) : Prop where
  go : ∀ (i : Nat) (H2 : Hp), Same H H2 → i < ds.length → J.go i H2
  yld : ∀ (i : Nat) (H2 : Hp) (x : V) (H3 : Hp), Same H H2 → J.yld i H2 x H3 → i < ds.length → Same H2 H3 ∧ ∃ d, ds[i]? = some d ∧ Rep K H3 d x
  stop : ∀ H2 : Hp, Same H H2 → J.stop ds.length H2
  frm : ∀ (i : Nat) (H2 : Hp) (x : V) (H3 : Hp) (a : Addr) (xs : List V), H2 a = some (.lst xs) → J.yld i H2 x H3 → J.yld i (rm H2 a) x (rm H3 a) ∧ H3 a = some (.lst xs)
def tPI (K : PySem.W.Frag) (f : Fi) : TI := fun σ H R => ∃ δ ds, RepSt K H δ σ ∧ f δ = some ds ∧ ∀ J H', Same H H' → ItD K ds J H' → R J H'
structure PuI (X : Cx) (tg iter : Expr) (f : Fi) : Prop where
  un : PI X tg iter (tPI X.K f)
section
variable {X : Cx} {a b tg iter elt : Expr} {es : List Expr} {pos : Pos} {f g : Fe} {fa : Fa} {fi : Fi} {gf : Fg}
theorem PI.imp {t : TI} {f : Fi} (h : PI X tg iter t) (w : ∀ σ H R, tPI X.K f σ H R → t σ H R) : PuI X tg iter f := PuI.mk fun pins s σ H R I q => h pins s σ H R I (w σ H R q)
theorem itd_list {K : PySem.W.Frag} {H : Hp} {p : Addr} {xs : List V} {ds : List D} (h : SqL K H p xs) (r : Reps K H ds xs) : ItD K ds (Itl K p) H where
  go := fun i H2 s2 hi => by
    obtain ⟨x, h1, _⟩ := r.getD (List.getElem?_eq_getElem hi)
    exact ⟨xs, x, s2.seq h, h1⟩
  yld := fun i H2 x H3 s2 hy hi => by
    obtain ⟨e, hy⟩ := hy
    subst e
    obtain ⟨d, h1, h2⟩ := (r.mono s2).get (hy xs (s2.seq h))
    exact ⟨Same.refl _, d, h1, h2⟩
  stop := fun H2 s2 => ⟨xs, s2.seq h, by rw [r.length]; exact Nat.le_refl _⟩
  frm := fun i H2 x H3 a xs hx hy => by
    obtain ⟨e, hy⟩ := hy
    subst e
    exact ⟨⟨rfl, fun ys h => hy ys ((same_rm _ a).seq h)⟩, hx⟩
theorem itd_tup {K : PySem.W.Frag} {H : Hp} {p : Addr} {xs : List V} {ds : List D} (h : SqT K H p xs) (r : Reps K H ds xs) : ItD K ds (Itt K p) H where
  go := fun i H2 s2 hi => by
    obtain ⟨x, h1, _⟩ := r.getD (List.getElem?_eq_getElem hi)
    exact ⟨xs, x, sqT_mono s2 h, h1⟩
  yld := fun i H2 x H3 s2 hy hi => by
    obtain ⟨e, hy⟩ := hy
    subst e
    obtain ⟨d, h1, h2⟩ := (r.mono s2).get (hy xs (sqT_mono s2 h))
    exact ⟨Same.refl _, d, h1, h2⟩
  stop := fun H2 s2 => ⟨xs, sqT_mono s2 h, by rw [r.length]; exact Nat.le_refl _⟩
  frm := fun i H2 x H3 a xs hx hy => by
    obtain ⟨e, hy⟩ := hy
    subst e
    exact ⟨⟨rfl, fun ys h => hy ys (sqT_mono (same_rm _ a) h)⟩, hx⟩
theorem pui_seq (hl : Pu X a f) : PuI X tg a (iSeq f) := by
  refine ⟨?_⟩
  intro pins s σ H R I h
  obtain ⟨δ, ds, rs, e, q⟩ := h
  obtain ⟨d, e1, e⟩ := bind_some e
  refine thn (hl.un pins s σ H _ I ⟨δ, d, rs, e1, fun v H1 s1 h1 => And.intro s1 h1⟩) fun u s2 ⟨v, H1, I1, rv, s1, h1⟩ => ?_
  cases d with
  | list l =>
    cases e
    obtain ⟨p, xs, rfl, h2, h3⟩ := rep_lst h1
    cases rv
    obtain ⟨its, rv, pl, hz⟩ := I1.list h2
    refine wpAny_pyIter_list pl.isList ?_
    refine ⟨s2.heap.objs.size, [s2.heap.objs.size], _, _, H1, rfl, I1.kept (t' := s2.toks) fun b o e => Heap.get?_push_of_some _ e, turn_list p _, ⟨_, Heap.get?_push_size _ rfl, rfl, rfl⟩, fun b hb => ?_, q _ _ s1 (itd_list h2 h3)⟩
    have e : b = s2.heap.objs.size := by simpa using hb
    subst e
    exact I1.fpOk (Nat.le_refl _) (I1.hok.fresh (Nat.le_refl _))
  | tuple l =>
    cases e
    obtain ⟨p, xs, rfl, h2, h3⟩ := rep_tup h1
    cases rv
    obtain ⟨its, rv, pl, hz⟩ := I1.tuple h2
    refine wpAny_pyIter_tuple (show s2.heap.IsTuple p its.toArray from pl) ?_
    refine ⟨s2.heap.objs.size, [s2.heap.objs.size], _, _, H1, rfl, I1.kept (t' := s2.toks) fun b o e => Heap.get?_push_of_some _ e, turn_tuple p _, ⟨_, Heap.get?_push_size _ rfl, rfl, rfl⟩, fun b hb => ?_, q _ _ s1 (itd_tup h2 h3)⟩
    have e : b = s2.heap.objs.size := by simpa using hb
    subst e
    exact I1.fpOk (Nat.le_refl _) (I1.hok.fresh (Nat.le_refl _))
  | _ => cases e
theorem rngD_length (lo : Int) (n : Nat) : (rngD lo n).length = n := by unfold rngD; rw [List.length_map, List.length_range]
theorem rngD_get (lo : Int) {n i : Nat} (h : i < n) : (rngD lo n)[i]? = some (.int (lo + i)) := by
  unfold rngD
  rw [List.getElem?_map, List.getElem?_range h]
  rfl
theorem itd_rng {K : PySem.W.Frag} {H : Hp} (lo : Int) (n : Nat) : ItD K (rngD lo n) (Itr lo n) H where
  go := fun i H2 _ hi => by rw [rngD_length] at hi; exact hi
  yld := fun i H2 x H3 _ hy hi => by
    obtain ⟨e, hy⟩ := hy
    subst e
    subst hy
    rw [rngD_length] at hi
    exact ⟨Same.refl _, _, rngD_get lo hi, Rep.ofInt _⟩
  stop := fun H2 _ => by rw [rngD_length]; exact Nat.le_refl _
  frm := fun i H2 x H3 a xs hx hy => by
    obtain ⟨e, hy⟩ := hy
    subst e
    exact ⟨⟨rfl, hy⟩, hx⟩
theorem cR_of {i : Int} (h : cR i = true) : -(2 ^ 62) ≤ i ∧ i < 2 ^ 62 := by
  unfold cR at h
  rw [Bool.and_eq_true] at h
  exact ⟨of_decide_eq_true h.1, of_decide_eq_true h.2⟩
theorem pui_rng1 {p0 : Pos} (hg : Gl X "range") (hm : X.mg "range" = none) (ha : PuA X [a] (aCons f aNil)) (hs : starEach [a] X.env = [(false, eval a X.env)] := by rfl) : PuI X tg (.Call (.Name "range" p0) [a] [] pos) (iRng (aCons f aNil)) :=
  PI.imp (pi_range1 hg hm ha.un hs) fun σ H R ⟨δ, ds, rs, e, q⟩ => by
  obtain ⟨as, e1, e⟩ := bind_some e
  refine ⟨δ, as, rs, e1, fun vs H1 s1 h1 => ?_⟩
  obtain ⟨x, _, e2⟩ := bind_some e1
  obtain ⟨xs, e3, e2⟩ := bind_some e2
  cases e3
  cases e2
  cases x with
  | int j =>
    obtain ⟨v, rfl, h2⟩ := reps1 h1
    have e' : (if cR j then some (rngD 0 j.toNat) else none) = some ds := e
    by_cases hc : cR j = true
    · rw [if_pos hc] at e'
      cases e'
      rw [rep_int h2]
      exact ⟨j, rfl, (cR_of hc).1, (cR_of hc).2, q _ _ s1 (itd_rng 0 _)⟩
    · rw [if_neg hc] at e'; cases e'
  | _ => cases e
structure TgD (K : PySem.W.Frag) (g : TG) (gf : Fg) (own : List Nat) : Prop where
  run : ∀ (v : V) (σ : St) (H Hs : Hp) (Q : St → Hp → Prop) (d : D) (δ δ' : Dl), Same Hs H → RepSt K Hs δ σ → Rep K Hs d v → gf d δ = some δ' →
    (∀ σ', RepSt K Hs δ' σ' → σ'.length = σ.length → (∀ i, i ∉ own → σ'[i]? = σ[i]?) → Q σ' H) → g v σ H Q
theorem td_name {K : PySem.W.Frag} (i : Nat) : TgD K (gName i) (gN i) [i] := ⟨fun v σ H Hs Q d δ δ' _ r h e q => by
  cases e
  refine q _ (r.set h i) (List.length_set ..) fun j hj => ?_
  rw [List.getElem?_set_ne (fun z => hj (by simp [z]))]⟩
theorem RepSt.sel {K : PySem.W.Frag} {H : Hp} {δ : Dl} {σ : St} (r : RepSt K H δ σ) (sel : List (Option Nat)) : RepSt K H (selD sel δ) (selSt sel σ) := by
  refine ⟨by unfold selD selSt; rw [List.length_map, List.length_map], fun i d h => ?_⟩
  unfold selD at h
  unfold selSt
  rw [List.getElem?_map] at h ⊢
  cases q : sel[i]? with
  | none => rw [q] at h; cases h
  | some o =>
    rw [q] at h
    cases o with
    | none => cases h
    | some j =>
      have h' : (δ[j]?).bind id = some d := Option.some.inj h
      obtain ⟨od, e1, e2⟩ := bind_some h'
      have e3 : od = some d := e2
      subst e3
      obtain ⟨v, h1, h2⟩ := r.get j d e1
      refine ⟨v, ?_, h2⟩
      show some ((σ[j]?).bind id) = some (some v)
      rw [h1]
      rfl
structure PuIf (X : Cx) (ifs : List Expr) (c : Fb) : Prop where
  un : PIf X ifs (tPT X.K c)
theorem puif_nil : PuIf X [] cTrue := PuIf.mk fun pins s σ H Q I ⟨δ, t, r, e, q⟩ => by
  cases e
  exact pif_nil pins s σ H Q I (q H (Same.refl H))
theorem puif_one {c : Expr} {p : Fb} (h : PuT X c p) : PuIf X [c] p := ⟨pif_one h.un⟩
theorem lc_read {g : TG} {ct : Fb} {fe : Fe} {sel : List (Option Nat)} {own : List Nat} (tg : TgD X.K g gf own) (ho : ∀ i ∈ own, sel[i]? = some none) :
    ∀ σ H Q, tP X.K (eLc fi sel gf ct fe) σ H Q → tLc (tPI X.K fi) sel g (tPT X.K ct) (tP X.K fe) σ H Q := fun σ H Q ⟨δ, d, r, e, q⟩ => by
  obtain ⟨ds, e1, e⟩ := bind_some e
  by_cases hf : fit ds.length = true
  · rw [if_pos hf] at e
    obtain ⟨ys, e2, e⟩ := bind_some e
    cases e
    have hz : ds.length ≤ sizeLine := fit_le hf
    refine ⟨δ, ds, r, e1, fun J H1 s1 hJ => ⟨fun i m vs H2 => m = ds.length - i ∧ i ≤ ds.length ∧ Same H1 H2 ∧ vs.length ≤ i ∧ ∃ dn rt, lcF gf ct fe (selD sel δ) (ds.drop i) = some rt ∧ dn ++ rt = ys ∧ Reps X.K H2 dn vs,
      ⟨ds.length, rfl, Nat.zero_le _, Same.refl _, Nat.le_refl _, [], ys, e2, rfl, Reps.nil⟩, ?_⟩⟩
    rintro i m vs H2 ⟨rfl, hi, s2, hv, dn, rt, e3, e4, h3⟩
    by_cases hlt : i < ds.length
    · refine .inr ⟨hJ.go i H2 s2 hlt, by omega, fun x H3 hy => ?_⟩
      obtain ⟨s3, dx, ex, hx⟩ := hJ.yld i H2 x H3 s2 hy hlt
      have hd : ds.drop i = dx :: ds.drop (i + 1) := by
        rw [List.drop_eq_getElem_cons hlt]
        rw [List.getElem?_eq_getElem hlt] at ex
        rw [Option.some.inj ex]
      rw [hd] at e3
      obtain ⟨δ1, e5, e3⟩ := bind_some e3
      obtain ⟨t, e6, e3⟩ := bind_some e3
      have r3 : RepSt X.K H3 (selD sel δ) (selSt sel σ) := (r.mono ((s1.trans s2).trans s3)).sel sel
      refine tg.run x _ H3 H3 _ dx _ δ1 (Same.refl H3) r3 hx e5 fun σ4 r4 l4 k4 => ?_
      refine ⟨⟨l4, fun j v hj => ?_⟩, δ1, t, r4, e6, fun H5 s5 => ?_⟩
      · by_cases hjo : j ∈ own
        · exfalso
          unfold selSt at hj
          rw [List.getElem?_map, ho j hjo] at hj
          cases hj
        · rw [k4 j hjo]; exact hj
      · cases t with
        | true =>
          rw [if_pos rfl] at e3 ⊢
          obtain ⟨y, e7, e3⟩ := bind_some e3
          obtain ⟨rt', e8, e3⟩ := bind_some e3
          cases e3
          refine ⟨δ1, y, r4.mono s5, e7, fun v6 H6 s6 h6 => ⟨ds.length - (i + 1), by omega, rfl, hlt, ((s2.trans s3).trans s5).trans s6, ?_, dn ++ [y], rt', e8, ?_, ?_⟩⟩
          · rw [List.length_append, List.length_singleton]; omega
          · rw [List.append_assoc]; exact e4
          · exact Reps.append (h3.mono ((s3.trans s5).trans s6)) (Reps.cons h6 Reps.nil)
        | false =>
          rw [if_neg Bool.false_ne_true] at e3 ⊢
          exact ⟨ds.length - (i + 1), by omega, rfl, hlt, (s2.trans s3).trans s5, by omega, dn, rt, e3, e4, h3.mono (s3.trans s5)⟩
    · have hie : i = ds.length := by omega
      subst hie
      rw [List.drop_length] at e3
      cases e3
      rw [List.append_nil] at e4
      subst e4
      exact .inl ⟨hJ.stop H2 s2, fun l hl => q _ _ ((s1.trans s2).trans (same_upd hl _)) (Rep.newLst hl h3)⟩
  · rw [if_neg hf] at e; cases e
theorem pu_lc {N : List Str} {sel : List (Option Nat)} {scope : Scope} {XS : List (Str × NameKind)} {ifs : List Expr} {g : TG} {ct : Fb} {fe : Fe} {own : List Nat} (S : LcScope X.N XS N sel scope) (hXS : X.env.scope.names = XS) (hc : X.calm = true)
    (hi : PuI X tg iter fi) (tgd : TgD X.K g gf own) (ho : ∀ i ∈ own, sel[i]? = some none) (hg : ∀ C fp s H, PG (lcCx X N scope C fp s H) tg g) (ht : ∀ C fp s H, PuIf (lcCx X N scope C fp s H) ifs ct) (he : ∀ C fp s H, Pu (lcCx X N scope C fp s H) elt fe)
    (hs : ∀ x, foldedSetIterable iter X.env x = pure x := by intro _; rfl) : Pu X (.ListComp elt [⟨tg, iter, ifs, 0⟩] scope pos) (eLc fi sel gf ct fe) :=
  PE.imp (pe_lc (tt := tPT X.K ct) (te := tP X.K fe) S hXS hc hi.un hg (fun C fp s H => (ht C fp s H).un) (fun C fp s H => (he C fp s H).un) hs) (lc_read tgd ho)
def EndsOk (K : PySem.W.Frag) (E : Ends) (H : Hp) : Fl → Prop
  | .nx δ' => ∀ σ' H', Same H H' → RepSt K H' δ' σ' → E.nx σ' H'
  | .rt d => ∀ v H', Same H H' → Rep K H' d v → E.rt v H'
  | .bk δ' => ∀ σ' H', Same H H' → RepSt K H' δ' σ' → E.bk σ' H'
  | .ct δ' => ∀ σ' H', Same H H' → RepSt K H' δ' σ' → E.ct σ' H'
theorem EndsOk.mono {K : PySem.W.Frag} {E : Ends} {H H' : Hp} {r : Fl} (h : EndsOk K E H r) (s : Same H H') : EndsOk K E H' r := by
  cases r with
  | nx δ => exact fun σ' H2 s2 r2 => h σ' H2 (s.trans s2) r2
  | rt d => exact fun v H2 s2 r2 => h v H2 (s.trans s2) r2
  | bk δ => exact fun σ' H2 s2 r2 => h σ' H2 (s.trans s2) r2
  | ct δ => exact fun σ' H2 s2 r2 => h σ' H2 (s.trans s2) r2
def tPS (K : PySem.W.Frag) (f : Fs) : TS := fun E σ H => ∃ δ r, RepSt K H δ σ ∧ f δ = some r ∧ EndsOk K E H r
structure Ps (X : Cx) (st : Stmt) (f : Fs) : Prop where
  un : PS X st (tPS X.K f)
structure Pss (X : Cx) (st : List Stmt) (f : Fs) : Prop where
  un : PSs X st (tPS X.K f)
theorem PS.imp {st : Stmt} {t : TS} {f : Fs} (h : PS X st t) (w : ∀ E σ H, tPS X.K f E σ H → t E σ H) : Ps X st f := Ps.mk fun pins s σ H E I q => h pins s σ H E I (w E σ H q)
theorem PSs.imp {st : List Stmt} {t : TS} {f : Fs} (h : PSs X st t) (w : ∀ E σ H, tPS X.K f E σ H → t E σ H) : Pss X st f := Pss.mk fun pins s σ H E I q => h pins s σ H E I (w E σ H q)
variable {st : Stmt} {rest sa sb : List Stmt} {fs fs' : Fs}
theorem puss_nil : Pss X [] sNext := PSs.imp pss_nil fun E σ H ⟨δ, r, rs, e, q⟩ => by
  cases e
  exact q σ H (Same.refl H) rs
theorem puss_one (h : Ps X st fs) : Pss X [st] fs := ⟨pss_one h.un⟩
theorem seq_read : ∀ E σ H, tPS X.K (sSeq fs fs') E σ H → tSeq (tPS X.K fs) (tPS X.K fs') E σ H := fun E σ H ⟨δ, r, rs, e, q⟩ => by
  obtain ⟨r1, e1, e⟩ := bind_some e
  refine ⟨δ, r1, rs, e1, ?_⟩
  cases r1 with
  | nx δ' => exact fun σ' H' s' rs' => ⟨δ', r, rs', e, q.mono s'⟩
  | rt d => cases e; exact q
  | bk d => cases e; exact q
  | ct d => cases e; exact q
theorem puss_cons (h : Ps X st fs) (t : Pss X rest fs') : Pss X (st :: rest) (sSeq fs fs') := PSs.imp (pss_cons h.un t.un) seq_read
theorem pus_ret (h : Pu X a f) : Ps X (.Return (some a) pos) (sRet f) := PS.imp (ps_ret h.un) fun E σ H ⟨δ, r, rs, e, q⟩ => by
  obtain ⟨d, e1, e⟩ := bind_some e
  cases e
  exact ⟨δ, d, rs, e1, q⟩
theorem set_read {t : TE} (w : ∀ σ H Q, tP X.K f σ H Q → t σ H Q) (i : Nat) : ∀ E σ H, tPS X.K (sSet i f) E σ H → tAsg t (gName i) E σ H := fun E σ H ⟨δ, r, rs, e, q⟩ => by
  obtain ⟨d, e1, e⟩ := bind_some e
  cases e
  exact w _ _ _ ⟨δ, d, rs, e1, fun v H' s' h' => q _ H' s' ((rs.mono s').set h' i)⟩
theorem pus_set {i : Nat} {x : Str} {pos' : Pos} (hN : X.N.Nodup) (h : Pu X a f) (hi : X.N[i]? = some x := by rfl) (hx : Loc X.env.scope x := by first | exact Or.inl rfl | exact Or.inr rfl) (hs : swapsWith a (some (.Name x pos')) pos.line X.env = pure false := by rfl)
    (hf : X.fn x = true ∨ X.env.scope.names.lookup x = some .local := by first | exact .inl rfl | exact .inr rfl) : Ps X (.Assign [.Name x pos'] a pos) (sSet i f) := PS.imp (ps_set hN hi hx h.un hs hf) (set_read (fun _ _ _ q => q) i)
theorem if_read {p : Fb} : ∀ E σ H, tPS X.K (sIf p fs fs') E σ H → tIfS (tPT X.K p) (tPS X.K fs) (tPS X.K fs') E σ H := fun E σ H ⟨δ, r, rs, e, q⟩ => by
  obtain ⟨t, e1, e⟩ := bind_some e
  refine ⟨δ, t, rs, e1, fun H1 s1 => ?_⟩
  cases t with
  | true => rw [if_pos rfl] at e ⊢; exact ⟨δ, r, rs.mono s1, e, q.mono s1⟩
  | false => rw [if_neg Bool.false_ne_true] at e ⊢; exact ⟨δ, r, rs.mono s1, e, q.mono s1⟩
theorem pus_if {c : Expr} {p : Fb} (hc : PuT X c p) (ha : Pss X sa fs) (hb : Pss X sb fs') : Ps X (.If c sa sb pos) (sIf p fs fs') := PS.imp (ps_if hc.un ha.un hb.un) if_read
theorem rep_start {K : PySem.W.Frag} {H : Hp} {N : List Str} {ds : List D} {vs : List V} (h : Reps K H ds vs) : RepSt K H (startD N.length ds) (L2.start N vs) := by
  have hl := h.length
  refine ⟨by unfold startD L2.start; simp [hl], fun i d e => ?_⟩
  unfold startD at e
  unfold L2.start
  by_cases hi : i < ds.length
  · rw [List.getElem?_append_left (by rw [List.length_map]; exact hi), List.getElem?_map] at e
    cases q : ds[i]? with
    | none => rw [q] at e; cases e
    | some d' =>
      rw [q] at e
      cases e
      obtain ⟨x, h1, h2⟩ := h.getD q
      exact ⟨x, by rw [List.getElem?_append_left (by rw [List.length_map, hl]; exact hi), List.getElem?_map, h1]; rfl, h2⟩
  · rw [List.getElem?_append_right (by rw [List.length_map]; omega), List.getElem?_replicate] at e
    split at e <;> cases e
end
section
variable {P : Program} {w : World} {K : PySem.W.Frag} {mg : Str → Option Value} {base : Heap}
theorem fn_plain {x qual : Str} {st : Stmt} {f : Addr} {fd : FuncData} {N ps : List Str} {k : Nat} {B : Fs} (F : Fun K x qual st f fd) (S : FnScope N ps (defScope st))
    (hb : ∀ (cdv : Value) (A : Around) (outer : List Env) (s : Shared) (H : Hp) (E : XK), Room k (A.deeper (envOfC qual (defScope st) s.heap.objs.size f cdv)) →
      Pss (cxOf CX0 P w K mg base N qual (defScope st) f cdv A outer s H E).nox (defBody st) B) : FnOk P w K mg base CX0 (k + 1) f fd ps (spP K ps.length (dataOf N.length B)) := by
  refine F.ok S (spP_len rfl) (fun cdv A outer s H vs Q E hr h => ⟨_, (hb cdv A outer s H E hr).un, ?_⟩)
  obtain ⟨ds, d, h1, h2, h3, h4⟩ := h
  unfold dataOf at h3
  cases q : B (startD N.length ds) with
  | none => rw [q] at h3; cases h3
  | some fl =>
    rw [q] at h3
    refine ⟨_, fl, rep_start h2, q, ?_⟩
    cases fl with
    | rt d' => cases h3; exact h4
    | nx δ => cases h3; exact fun σ' H' s' r' => h4 _ H' s' Rep.ofNone
    | bk δ => cases h3
    | ct δ => cases h3
end
end PU
namespace L2
open PySem PySem.Spec
open PyProof.Rows hiding St
section
variable {prog : Program} {w : World} {A : Around} {E : Value → Shared → Prop} {s : Shared}
theorem getItem_tup_whole {t sl : Addr} {items : Array Value} {vl vu : Value} {lo hi : Option Int} {Q : Value → Shared → Prop} (ht : IsTup s.heap t items) (hs : s.heap.IsSliceOf sl vl vu .none) (pl : IsPart vl lo) (pu : IsPart vu hi)
    (hw : HT.sIx items.size 0 lo = 0 ∧ HT.sIx items.size items.size hi = items.size) (h : Q (.ref t) s) : wpAny (model prog w) A (getItem (.ref t) (.ref sl)) Q E s := by
  obtain ⟨os, hos, hcs, hds⟩ := id hs
  have hTs : s.TypeIs (.ref sl) "slice" := ⟨os, hos, hcs⟩
  unfold getItem
  try with_reducible refine wpAny_holding ?_
  first | refine wpAny_bind (wpAny_pure ?_) | skip
  refine wpAny_bind (wpAny_sequenceKey ht.typeIs (by decide) ?_)
  refine wpAny_bind (wpAny_callSpecial?_slot (name := Str.ofString "__getitem__") ht.typeIs PyProof.Rows.slot_tuple_getitem (wpAny_call_entry PyProof.Rows.slot_tuple_getitem ht.typeIs entry_tuple_getitem ?_ (args_tuple_getitem _ _)))
  show wpAny _ _ (Builtin.Tuple.tupleItemsOf (.ref t) >>= _) _ _ s
  refine wpAny_bind (tupleItemsOf_ ht ?_)
  refine wpAny_bind (wpAny_typeOf hTs ?_)
  rw [if_pos (by decide)]
  refine wpAny_bind (HT.sliceApplied_gen hs pl pu ?_)
  have hyes : ((((HT.sIx items.size 0 lo : Nat) : Int) == 0 && (1 : Int) == 1 && (HT.sIx items.size items.size hi - HT.sIx items.size 0 lo) == items.size) = true) := by
    rw [hw.1, hw.2]
    simp
  show wpAny _ _ (if (((HT.sIx items.size 0 lo : Nat) : Int) == 0 && (1 : Int) == 1 && (HT.sIx items.size items.size hi - HT.sIx items.size 0 lo) == items.size) = true then _ else _) _ _ s
  rw [if_pos hyes]
  unfold Builtin.Tuple.tupleIsExact
  exact wpAny_bind (wpAny_bind (wpAny_typeOf ht.typeIs (wpAny_pure (wpAny_bind (wpAny_rule (wpAny_pure ⟨_, rfl, wpAny_pure h⟩))))))
end
section
variable {X : Cx}
theorem cut_whole {α : Type} {xs : List α} {lo hi : Option Int} (h : HT.sIx xs.length 0 lo = 0 ∧ HT.sIx xs.length xs.length hi = xs.length) : PU.cutD xs lo hi = xs := by
  unfold PU.cutD
  rw [h.1, h.2, List.drop_zero, Nat.sub_zero, List.take_length]
def rSlW (K : PySem.W.Frag) : V → Option Int → Option Int → Hp → VK → Prop := fun x lo hi H Q => ∃ a xs, x = .ref a ∧ SqT K H a xs ∧ (HT.sIx xs.length 0 lo = 0 ∧ HT.sIx xs.length xs.length hi = xs.length) ∧ Q (.ref a) H
theorem sl_tupW : SlR X (rSlW X.K) := by
  intro pins s σ H x v vl vu lo hi sl Q I rx hs pl pu h
  obtain ⟨a, xs, rfl, hx, hw, q⟩ := h
  cases rx
  obtain ⟨its, r, ht, hz⟩ := I.tuple hx
  have hlen : its.toArray.size = xs.length := by rw [List.size_toArray]; exact r.length.symm
  exact ⟨"tuple", _, PyProof.Rows.slot_tuple_getitem.lookup, ht.typeIs, getItem_tup_whole ht hs pl pu (by rw [hlen]; exact hw) ⟨.ref a, H, I, rfl, q⟩⟩
theorem noFill_tuple_mul : fillsNumberSlot (.type "tuple") "mul" = pure false :=
  PySem.fillsNumberSlot_seq (id := "tuple.__mul__") (r := some (.builtin "tuple.__rmul__")) PySem.F.slot_tuple_mul.lookup (by decide +kernel) PySem.F.slot_tuple_rmul.lookup (by decide +kernel)
theorem repeat_tuple : seqRepeat? (.type "tuple") = pure (some (.builtin "tuple.__mul__")) := by
  unfold seqRepeat?
  rw [PySem.seqSlot_of (T := "tuple") (name := "__mul__") (id := "tuple.__mul__") PySem.F.slot_tuple_mul.lookup (by decide +kernel), PySem.seqSlot_of (T := "tuple") (name := "__rmul__") (id := "tuple.__rmul__") PySem.F.slot_tuple_rmul.lookup (by decide +kernel)]
  rfl
theorem rmul_tup (a : Int) (t : Tok) (l : Addr) (items : Array Value) (n : Nat) (di : Option Addr) (sl : Array (Option Value)) :
    Meets (Builtin.«int.__rmul__» ⟨[.int a t, .ref l], []⟩) (fun _ R s => s.heap.get? l = some { cls := .type "tuple", dict := di, data := .seq items n, slots := sl } ∧ R (.ok (.ret Value.notImplemented)) s) :=
  .of_wp fun prog w A R s h => by
    obtain ⟨hp, g, d, tk, os⟩ := s
    obtain ⟨hl, h⟩ := h
    wp_walk
    exact ⟨_, rfl, h⟩
theorem mul_tupM (l : Addr) (items : Array Value) (n : Nat) (di : Option Addr) (sl : Array (Option Value)) (x : Int) (u : Tok) (h1 : 2 ≤ x) (h2 : x ≤ 1000) (hne : items.isEmpty = false) (hz : items.size * x.toNat ≤ sizeLine) :
    Meets (Builtin.«tuple.__mul__» ⟨[.ref l, .int x u], []⟩) (fun _ R s => s.heap.get? l = some { cls := .type "tuple", dict := di, data := .seq items n, slots := sl } ∧ R (.ok (.ret (.ref s.heap.objs.size))) { s with heap := s.heap.push { cls := .type "tuple", data := .seq ((List.replicate x.toNat items).foldl (· ++ ·) #[]) } }) :=
  .of_wp fun prog w A R s h => by
    obtain ⟨hp, g, d, tk, os⟩ := s
    obtain ⟨hl, h⟩ := h
    have c1 : ¬ ((decide (x < -(2 ^ 63)) || decide (x ≥ 2 ^ 63)) = true) := by simp; omega
    have c2 : ¬ ((items.isEmpty || x == 1) = true) := by rw [hne]; simp; omega
    have c3 : ¬ ((decide (x ≤ 0) || items.isEmpty) = true) := by rw [hne]; simp; omega
    have hx : ((items.size : Int) * x) = ((items.size * x.toNat : Nat) : Int) := by rw [Int.natCast_mul, Int.toNat_of_nonneg (by omega)]
    have hbig : (sizeLine : Nat) ≤ (2 ^ 63 - 1) / 8 := by decide
    have c4 : ¬ ((items.size : Int) * x > (2 ^ 63 - 1) / 8) := by rw [hx]; omega
    have c5 : ¬ (Builtin.Tuple.tupleTooMany ((items.size : Int) * x) = true) := by
      unfold Builtin.Tuple.tupleTooMany
      rw [hx]
      exact fun q => by have := of_decide_eq_true q; omega
    have hsz : ((List.replicate x.toNat items).foldl (· ++ ·) #[]).size ≤ sizeLine := by
      have key : ∀ (m : Nat) (acc : Array Value), ((List.replicate m items).foldl (· ++ ·) acc).size = acc.size + m * items.size := fun m => by
        induction m with
        | zero => intro acc; simp
        | succ m ih => intro acc; rw [List.replicate_succ, List.foldl_cons, ih, Array.size_append, Nat.succ_mul]; omega
      rw [key, Nat.mul_comm]
      simpa using hz
    wp_walk using AutoSeq1.wpAny_loadPart' hl
    rw [if_neg c1]
    try dsimp only
    refine wpAny_bind (tupleItemsOf_ ⟨_, hl, rfl, _, rfl⟩ ?_)
    try dsimp only
    rw [if_neg c2]
    try dsimp only
    rw [if_neg c3]
    try dsimp only
    rw [if_neg c4]
    try dsimp only
    rw [if_neg c5]
    exact wpAny_bind (m := Builtin.Tuple.tupleExact _) (wpAny_newObj_type (wpAny_pure ⟨_, rfl, h⟩) hsz)
def rRepT (K : PySem.W.Frag) : R2 := fun x y H Q => ∃ l k xs, x = .ref l ∧ y = .int k ∧ SqT K H l xs ∧ 2 ≤ k ∧ k ≤ 1000 ∧ xs ≠ [] ∧ xs.length * k.toNat ≤ sizeLine ∧ ∀ p, H p = none → Q (.ref p) (upd H p (.tup (List.replicate k.toNat xs).flatten))
theorem op_repT : OpR X (binaryOp .Mult) (rRepT X.K) := by
  intro pins s σ H x y v u Q I rx ry h
  obtain ⟨l, k, xs, rfl, rfl, hx, h1, h2, hne, hz, q⟩ := h
  cases rx
  obtain ⟨t, rfl⟩ := ry
  obtain ⟨its, r, ⟨⟨cls, di, data, sl⟩, e, hc, n, hd⟩, hzz⟩ := I.tuple hx
  simp only at hc hd
  subst hc hd
  have hlen := r.length
  have hemp : its.toArray.isEmpty = false := by
    cases its with
    | nil => exact absurd (r.nil_iff.mp rfl) hne
    | cons a b => rfl
  have hnew : List.foldl (fun x1 x2 => x1 ++ x2) #[] (List.replicate k.toNat its.toArray) = (List.replicate k.toNat its).flatten.toArray := by
    have := foldl_rep its k.toNat []
    rw [List.nil_append] at this
    exact this
  refine wpAny_binaryOp_repeat_ref (T := "tuple") (U := "int") (by decide) ⟨_, e, rfl⟩ (fun s' => typeIs_int s' k t) noFill_tuple_mul PySem.F.fills_int_mul PySem.F.slot_int_rmul repeat_tuple PySem.F.slot_int_index.lookup
    (call_meets PySem.F.slot_int_rmul (typeIs_int s k t) PySem.F.entry_int_rmul (PySem.F.args_int_rmul_2 _ _) (rmul_tup k t l its.toArray n di sl)
      ⟨e, rfl, ⟨_, e, rfl⟩, call_meets PySem.F.slot_tuple_mul ⟨_, e, rfl⟩ PySem.F.entry_tuple_mul (PySem.F.args_tuple_mul_2 _ _) (mul_tupM l its.toArray n di sl k t h1 h2 hemp (by rw [List.size_toArray, ← hlen]; exact hz)) ⟨e, ?_⟩⟩)
  rw [hnew]
  refine ⟨.ref s.heap.objs.size, _, I.laid (t' := s.toks) (o := .tup (List.replicate k.toNat xs).flatten) (fun b ob q => Heap.get?_push_of_some _ q) (Nat.le_refl _) ?_, rfl, q _ (I.hok.fresh (Nat.le_refl _))⟩
  exact ⟨by rw [len_rep, Nat.mul_comm]; exact hz, _, r.rep k.toNat, IsTupD.new _ _⟩
end
end L2
namespace PU
open PySem PySem.Spec L2
open PyProof.Rows hiding St
section
variable {X : Cx} {a b : Expr} {pos : Pos} {f g : Fe}
theorem pu_mul (ha : Pu X a f) (hb : Pu X b g) : Pu X (.BinOp a .Mult b pos) (eOp oMul f g) := PE.imp (pe_op (op_mul.or op_repT) ha.un hb.un) (op_of fun x y d e H vx vy Q hx hy q => by
  unfold oMul at e
  split at e
  · rename_i i j
    by_cases h : cMul i j = true
    · rw [if_pos h] at e
      cases e
      rw [rep_int hx, rep_int hy]
      refine .inl ⟨i, j, rfl, rfl, ?_, q _ H (Same.refl H) (Rep.ofInt _)⟩
      unfold cMul at h
      rw [Bool.or_eq_true, Bool.and_eq_true, Bool.and_eq_true] at h
      rcases h with ⟨h1, h2⟩ | ⟨h1, h2⟩
      · exact .inl ⟨of_decide_eq_true h1, of_decide_eq_true h2⟩
      · exact .inr ⟨of_decide_eq_true h1, of_decide_eq_true h2⟩
    · rw [if_neg h] at e; cases e
  · rename_i l k
    by_cases h : (decide (2 ≤ k) && decide (k ≤ 1000) && !l.isEmpty && fit (l.length * k.toNat)) = true
    · rw [if_pos h] at e
      cases e
      rw [Bool.and_eq_true, Bool.and_eq_true, Bool.and_eq_true] at h
      obtain ⟨⟨⟨h1, h2⟩, h3⟩, h4⟩ := h
      obtain ⟨p, xs, rfl, h5, h6⟩ := rep_tup hx
      rw [rep_int hy]
      refine .inr ⟨p, k, xs, rfl, rfl, h5, of_decide_eq_true h1, of_decide_eq_true h2, fun z => ?_, by rw [h6.length]; exact fit_le h4, fun t ht => q _ _ (same_upd ht _) (Rep.newTup ht (h6.rep k.toNat))⟩
      have hl : l = [] := by
        have := h6.length
        rw [z] at this
        exact List.length_eq_zero_iff.mp this.symm
      rw [hl] at h3
      cases h3
    · rw [if_neg h] at e; cases e
  · cases e)
end
end PU
namespace L2
open PySem PySem.Spec
open PyProof.Rows hiding St
section
variable {X : Cx}
theorem vals_bool {bs : List Bool} {its : List Value} (r : Vals (bs.map V.bl) its) {i : Nat} {v : Value} (h : its[i]? = some v) : v = .bool (bs.getD i false) := by
  have hl : its.length = bs.length := by have := r.length; rw [List.length_map] at this; exact this.symm
  obtain ⟨hlt, e⟩ := List.getElem?_eq_some_iff.mp h
  have hn : i < bs.length := by omega
  obtain ⟨u, h1, h2⟩ := r.get (i := i) (x := V.bl bs[i]) (by rw [List.getElem?_map, List.getElem?_eq_getElem hn]; rfl)
  rw [h] at h1
  cases h1
  have h2' : v = .bool bs[i] := h2
  rw [h2', List.getD_eq_getElem?_getD, List.getElem?_eq_getElem hn]
  rfl
theorem all_range (bs : List Bool) : (List.range bs.length).all (fun i => bs.getD i false) = bs.all id := by
  rw [Bool.eq_iff_iff, List.all_eq_true, List.all_eq_true]
  constructor
  · intro h x hx
    obtain ⟨i, hi, e⟩ := List.mem_iff_getElem.mp hx
    have := h i (List.mem_range.mpr hi)
    rw [List.getD_eq_getElem?_getD, List.getElem?_eq_getElem hi] at this
    rw [← e]
    exact this
  · intro h i hi
    have hi' := List.mem_range.mp hi
    rw [List.getD_eq_getElem?_getD, List.getElem?_eq_getElem hi']
    exact h _ (List.getElem_mem hi')
theorem call_allS (hc : X.calm = true) : CallR X (.builtin "all") (fun xs H Q => ∃ (p : Addr) (bs : List Bool), xs = [.ref p] ∧ SqL X.K H p (bs.map V.bl) ∧ Q (.bl (bs.all id)) H) := by
  intro pins s σ H xs us Q I r h
  obtain ⟨p, bs, rfl, hq, q⟩ := h
  obtain ⟨u, rfl, rx⟩ := vals1 r
  cases rx
  have hh : X.A.in1.handled = none := I.ok.hd hc
  obtain ⟨its, rv, pl, hz⟩ := I.list hq
  have hlen := rv.length
  rw [List.length_map] at hlen
  have hlt : @LT.lt Nat instLTNat p s.heap.objs.size := by obtain ⟨o, n, e, _⟩ := pl; exact Heap.lt_size e
  refine call_all_walk (wpAny_pyIter_list pl.isList ?_)
  refine ⟨_, _, _, _, _, _, fun i => bs.getD i false, rfl, Walks.list (A := X.A.in1) hh s.heap.objs.size p (Nat.ne_of_lt hlt) its.toArray, ⟨⟨_, Heap.get?_push_size _ rfl, rfl, rfl⟩, pl.isList.push _⟩, fun i v s' Q' E' e hQ => ?_, fun h' tk hk => ?_⟩
  · rw [vals_bool rv (show its[i]? = some v by simpa using e)]
    exact wpAny_truthy_bool hQ
  · rw [show its.toArray.size = bs.length by rw [List.size_toArray, hlen], all_range]
    refine ⟨.bl (bs.all id), H, I.kept fun b o e => hk b o (fun z => ?_) (Heap.get?_push_of_some _ e), rfl, q⟩
    have z' : b = s.heap.objs.size := by simpa using z
    exact Nat.ne_of_lt (Heap.lt_size e) z'
end
end L2
namespace PU
open PySem PySem.Spec L2
open PyProof.Rows hiding St
section
variable {X : Cx} {a b c : Expr} {es : List Expr} {pos : Pos} {f g k : Fe} {fa : Fa}
theorem allOf_bl : ∀ {ds : List D} {ns : List Bool}, allOf isBl ds = some ns → ds = ns.map PyData.bool
  | [], _, h => by cases h; rfl
  | d :: ds, _, h => by
    obtain ⟨x, e1, h⟩ := bind_some h
    obtain ⟨xs, e2, h⟩ := bind_some h
    cases h
    rw [allOf_bl e2]
    cases d with
    | bool i => cases e1; rfl
    | _ => cases e1
theorem allOf_bls (ns : List Bool) : allOf isBl (ns.map PyData.bool) = some ns := by
  induction ns with
  | nil => rfl
  | cons n ns ih => show (allOf isBl (ns.map PyData.bool)).bind _ = _; rw [ih]; rfl
theorem reps_bls {K : PySem.W.Frag} {H : Hp} : ∀ {ns : List Bool} {vs : List V}, Reps K H (ns.map PyData.bool) vs → vs = ns.map V.bl
  | [], _, h => h.unnil
  | _ :: _, _, h => by
    obtain ⟨v, vs, rfl, h2, h3⟩ := Reps.uncons h
    rw [rep_bool h2, reps_bls h3]; rfl
theorem cd_all (hc : X.calm = true) : CallD X (.builtin "all") fAll := ⟨_, call_allS hc, fun ds d e H vs Q h q => by
  unfold fAll at e
  split at e
  · rename_i l
    obtain ⟨bs, e2, e⟩ := bind_some e
    cases e
    have hl := allOf_bl e2
    subst hl
    obtain ⟨v, rfl, h1⟩ := reps1 h
    obtain ⟨p, xs, rfl, h2, h3⟩ := rep_lst h1
    have := reps_bls h3
    subst this
    exact ⟨p, bs, rfl, h2, q _ H (Same.refl H) (Rep.ofBool _)⟩
  · cases e⟩
theorem isinstD {pins : List (Addr × Obj)} {σ : St} {H : Hp} {s : Shared} {A : Around} {E : Value → Shared → Prop} {Q : Value → Shared → Prop} {d : D} {v : V} {u : Value} {T : String} {t : Bool} (I : Inv X pins σ H s) (h : Rep X.K H d v) (r : RelV v u)
    (e : PySem.W.kitOne X.K (.type (kindOf d)) (.type T) = some t) (hq : ∀ tk, Q (.bool t) { s with toks := tk }) (hd : noD d = true) : wpAny (model X.prog X.w) A (call (.builtin "isinstance") [u, .type T]) Q E s := by
  cases d with
  | none => rw [rep_none h] at r; exact isinst_ok I r (.non) e hq
  | bool b => rw [rep_bool h] at r; exact isinst_ok I r (.bl b) e hq
  | int i => rw [rep_int h] at r; exact isinst_ok I r (.int i) e hq
  | str x => rw [rep_str h] at r; exact isinst_ok I r (.str x) e hq
  | list l =>
    obtain ⟨p, xs, rfl, h2, h3⟩ := rep_lst h
    cases r
    obtain ⟨its, _, ⟨o, n, h4, h5, _⟩, _⟩ := I.list h2
    exact PySem.W.kia_one PySem.W.kitx_list I.kIn ⟨o, h4, h5⟩ e (fun z => nomatch z) hq
  | tuple l =>
    obtain ⟨p, xs, rfl, h2, h3⟩ := rep_tup h
    cases r
    obtain ⟨its, _, ⟨o, h4, h5, _⟩, _⟩ := I.tuple h2
    exact PySem.W.kia_one PySem.W.kitx_tuple I.kIn ⟨o, h4, h5⟩ e (fun z => nomatch z) hq
  | dict _ => cases hd
structure KitT (K : PySem.W.Frag) (T : String) : Prop where
  non : PySem.W.kitOne K (.type "NoneType") (.type T) = some (isK T .none)
  bl : PySem.W.kitOne K (.type "bool") (.type T) = some (isK T (.bool true))
  int : PySem.W.kitOne K (.type "int") (.type T) = some (isK T (.int 0))
  str : PySem.W.kitOne K (.type "str") (.type T) = some (isK T (.str ""))
  lst : PySem.W.kitOne K (.type "list") (.type T) = some (isK T (.list []))
  tup : PySem.W.kitOne K (.type "tuple") (.type T) = some (isK T (.tuple []))
theorem pu_isinst {T : String} {y : Str} {p0 p1 : Pos} (kt : KitT X.K T) (ha : Pu X a f) (hg : Gl X "isinstance") (hm : X.mg "isinstance" = none) (hv : bootBuiltins "isinstance" = some (.builtin "isinstance")) (hgT : Gl X y) (hmT : X.mg y = none) (hvT : bootBuiltins y = some (.type T))
    (hn : y ≠ "__name__" := by decide) (hd : (y == ("__debug__" : Str)) = false := by decide) (hsA : starEach [a, .Name y p1] X.env = (false, eval a X.env) :: starEach [.Name y p1] X.env := by rfl) (hsB : starEach [Expr.Name y p1] X.env = [(false, eval (.Name y p1) X.env)] := by rfl)
    (hpl : (backTo pos (starEach [Expr.Name y p1] X.env)).any (·.1) = false := by rfl) :
    Pu X (.Call (.Name "isinstance" p0) [a, .Name y p1] [] pos) (eIs T f) := by
  have hc : CallR X (.builtin "isinstance") (fun xs H Q => ∃ d v, xs = [v, .ty T] ∧ Rep X.K H d v ∧ noD d = true ∧ Q (.bl (isK T d)) H) := by
    intro pins s σ H xs us Q I r h
    obtain ⟨d, v, rfl, h1, hnd, q⟩ := h
    obtain ⟨u, w', rfl, r1, r2⟩ := vals2 r
    cases r2
    refine isinstD I h1 r1 (t := isK T d) ?_ (fun tk => ⟨.bl _, H, I.tok tk, rfl, q⟩) hnd
    cases d with
    | none => exact kt.non
    | bool b => exact kt.bl
    | int i => exact kt.int
    | str x => exact kt.str
    | list l => exact kt.lst
    | tuple l => exact kt.tup
    | dict _ => cases hnd
  refine PE.imp (pe_callB hc hg hm hv (pa_cons ha.un (pa_cons (pe_bltn (v := .ty T) hgT hmT hvT rfl hn hd) pa_nil hsB) hsA) (he := hsA) (hpl := hpl)) fun σ H Q ⟨δ, d, r, e, q⟩ => ?_
  obtain ⟨x, e1, e⟩ := bind_some e
  by_cases hnd : noD x = true
  · rw [if_pos hnd] at e
    cases e
    exact ⟨δ, x, r, e1, fun v H1 s1 h1 => ⟨x, v, rfl, h1, hnd, q _ H1 s1 (Rep.ofBool _)⟩⟩
  · rw [if_neg hnd] at e; cases e
theorem shaped_lay {d : D} (h : SeqAt.shaped d = true) : PyData.canLay0 d = true := by
  unfold SeqAt.shaped at h
  rw [Bool.and_eq_true] at h
  exact h.1
mutual
theorem reads_of {pins : List (Addr × Obj)} {σ : St} {H : Hp} {s : Shared} (I : Inv X pins σ H s) : ∀ {d : D} {v : V} {u : Value}, PyData.canLay0 d = true → Rep X.K H d v → RelV v u → ∃ as, Reads s.heap u d as
  | .none, _, u, _, h, r => by rw [rep_none h] at r; cases r; exact ⟨_, .none⟩
  | .bool b, _, u, hl, h, r => by rw [rep_bool h] at r; cases r; exact ⟨_, .bool b⟩
  | .int i, _, u, hl, h, r => by rw [rep_int h] at r; obtain ⟨t, rfl⟩ := r; exact ⟨_, .int i t⟩
  | .str x, _, u, hl, h, r => by rw [rep_str h] at r; obtain ⟨t, rfl⟩ := r; exact ⟨_, .str x t⟩
  | .tuple ds, _, u, hl, h, r => by
    obtain ⟨p, xs, rfl, h2, h3⟩ := rep_tup h
    cases r
    obtain ⟨its, rv, ⟨o, h4, h5, n, h6⟩, _⟩ := I.tuple h2
    obtain ⟨as, hr⟩ := reads_all I (by simpa [PyData.canLay0] using hl) h3 rv
    exact ⟨_, .tuple h4 h5 h6 (by simpa using hr)⟩
  | .list ds, _, u, hl, h, r => by
    obtain ⟨p, xs, rfl, h2, h3⟩ := rep_lst h
    cases r
    obtain ⟨its, rv, ⟨o, n, h4, h5, _, h6⟩, _⟩ := I.list h2
    obtain ⟨as, hr⟩ := reads_all I (by simpa [PyData.canLay0] using hl) h3 rv
    exact ⟨_, .list h4 h5 h6 (by simpa using hr)⟩
  | .dict _, _, _, hl, _, _ => by simp [PyData.canLay0] at hl
theorem reads_all {pins : List (Addr × Obj)} {σ : St} {H : Hp} {s : Shared} (I : Inv X pins σ H s) : ∀ {ds : List D} {vs : List V} {us : List Value}, PyData.canLayAll0 ds = true → Reps X.K H ds vs → Vals vs us → ∃ as, ReadsAll s.heap us ds as
  | [], _, _, _, h, r => by rw [h.unnil] at r; cases r; exact ⟨_, .nil⟩
  | d0 :: ds0, _, _, hl, h, r => by
    obtain ⟨v, vs, rfl, h2, h3⟩ := h.uncons
    have hl' : PyData.canLay0 d0 = true ∧ PyData.canLayAll0 ds0 = true := by simpa [PyData.canLayAll0] using hl
    cases r with
    | cons r1 r2 =>
      obtain ⟨as, q1⟩ := reads_of I hl'.1 h2 r1
      obtain ⟨bs, q2⟩ := reads_all I hl'.2 h3 r2
      exact ⟨_, .cons q1 q2⟩
end
theorem cd_eq (hu : X.A.units + 64 < cLine) : CmpD X .Eq oEq := ⟨fun vx vy H Q => ∃ x y, Rep X.K H x vx ∧ Rep X.K H y vy ∧ SeqAt.shaped x = true ∧ SeqAt.shaped y = true ∧ Q (.bl (PyData.eqv x y)) H, by
    intro pins s σ H vx vy v u Q I rx ry h
    obtain ⟨x, y, h1, h2, h3, h4, q⟩ := h
    obtain ⟨as, r1⟩ := reads_of I (shaped_lay h3) h1 rx
    obtain ⟨bs, r2⟩ := reads_of I (shaped_lay h4) h2 ry
    exact eq_dataH r1 r2 h3 h4 hu ⟨.bl _, H, I, rfl, q⟩,
  fun x y d e H vx vy Q hx hy q => by
    unfold oEq at e
    by_cases hc : (SeqAt.shaped x && SeqAt.shaped y) = true
    · rw [if_pos hc] at e
      cases e
      rw [Bool.and_eq_true] at hc
      exact ⟨x, y, hx, hy, hc.1, hc.2, q _ H (Same.refl H) (Rep.ofBool _)⟩
    · rw [if_neg hc] at e; cases e⟩
theorem cd_ne (hu : X.A.units + 64 < cLine) : CmpD X .NotEq oNe := ⟨fun vx vy H Q => ∃ x y, Rep X.K H x vx ∧ Rep X.K H y vy ∧ SeqAt.shaped x = true ∧ SeqAt.shaped y = true ∧ Q (.bl (!PyData.eqv x y)) H, by
    intro pins s σ H vx vy v u Q I rx ry h
    obtain ⟨x, y, h1, h2, h3, h4, q⟩ := h
    obtain ⟨as, r1⟩ := reads_of I (shaped_lay h3) h1 rx
    obtain ⟨bs, r2⟩ := reads_of I (shaped_lay h4) h2 ry
    exact ne_dataH r1 r2 h3 h4 hu ⟨.bl _, H, I, rfl, q⟩,
  fun x y d e H vx vy Q hx hy q => by
    unfold oNe at e
    by_cases hc : (SeqAt.shaped x && SeqAt.shaped y) = true
    · rw [if_pos hc] at e
      cases e
      rw [Bool.and_eq_true] at hc
      exact ⟨x, y, hx, hy, hc.1, hc.2, q _ H (Same.refl H) (Rep.ofBool _)⟩
    · rw [if_neg hc] at e; cases e⟩
def tPO (K : PySem.W.Frag) (f : Fp) : TO := fun σ H Q => ∃ δ o, RepSt K H δ σ ∧ f δ = some o ∧ ∀ H', Same H H' → Q o H'
structure PuO (X : Cx) (e : Option Expr) (f : Fp) : Prop where
  un : PO X e (tPO X.K f)
theorem PO.imp {e : Option Expr} {t : TO} {f : Fp} (h : PO X e t) (w : ∀ σ H Q, tPO X.K f σ H Q → t σ H Q) : PuO X e f := PuO.mk fun pins s σ H Q I q => h pins s σ H Q I (w σ H Q q)
theorem puo_none : PuO X none oNone := PO.imp po_none fun σ H Q ⟨δ, o, r, e, q⟩ => by
  cases e
  exact q H (Same.refl H)
theorem isInt_some {d : D} {i : Int} (h : isInt d = some i) : d = .int i := by
  cases d with
  | int j => cases h; rfl
  | _ => cases h
theorem puo_some (h : Pu X a f) : PuO X (some a) (oSome f) := PO.imp (po_some h.un) fun σ H Q ⟨δ, o, r, e, q⟩ => by
  obtain ⟨d, e1, e⟩ := bind_some e
  obtain ⟨i, e2, e⟩ := bind_some e
  cases e
  have := isInt_some e2
  subst this
  exact ⟨δ, _, r, e1, fun v H1 s1 h1 => ⟨i, rep_int h1, q H1 s1⟩⟩
theorem cut_reps {K : PySem.W.Frag} {H : Hp} {ds : List D} {xs : List V} (h : Reps K H ds xs) (lo hi : Option Int) : Reps K H (cutD ds lo hi) (cutV xs lo hi) := by
  unfold cutD cutV
  rw [h.length]
  exact (h.drop _).take _
variable {lo hi : Option Expr} {fl fh : Fp} {p2 : Pos}
theorem pu_slice (ha : Pu X a f) (hl : PuO X lo fl) (hu : PuO X hi fh) : Pu X (.Subscript a (.Slice lo hi none p2) pos) (eSl f fl fh) := PE.imp (pe_slice (sl_list.or (sl_tup.or sl_tupW)) ha.un hl.un hu.un) fun σ H Q ⟨δ, d, r, e, q⟩ => by
  obtain ⟨x, e1, e⟩ := bind_some e
  obtain ⟨l, e2, e⟩ := bind_some e
  obtain ⟨u, e3, e⟩ := bind_some e
  refine ⟨δ, x, r, e1, fun v H1 s1 h1 => ⟨δ, l, r.mono s1, e2, fun H2 s2 => ⟨δ, u, r.mono (s1.trans s2), e3, fun H3 s3 => ?_⟩⟩⟩
  have h3 := h1.mono (s2.trans s3)
  cases x with
  | list ds =>
    cases e
    obtain ⟨p, xs, rfl, h4, h5⟩ := rep_lst h3
    exact .inl ⟨p, xs, rfl, h4, fun t ht => q _ _ (((s1.trans s2).trans s3).trans (same_upd ht _)) (Rep.newLst ht (cut_reps h5 l u))⟩
  | tuple ds =>
    cases e
    obtain ⟨p, xs, rfl, h4, h5⟩ := rep_tup h3
    by_cases hc : HT.sIx xs.length 0 l = 0 ∧ HT.sIx xs.length xs.length u = xs.length
    · refine .inr (.inr ⟨p, xs, rfl, h4, hc, q _ H3 ((s1.trans s2).trans s3) ?_⟩)
      rw [cut_whole (by rw [← h5.length]; exact hc)]
      exact Rep.ofTup h4 h5
    · exact .inr (.inl ⟨p, xs, rfl, h4, hc, fun t ht => q _ _ (((s1.trans s2).trans s3).trans (same_upd ht _)) (Rep.newTup ht (cut_reps h5 l u))⟩)
  | _ => cases e
end
end PU
namespace L2
open PySem PySem.Spec
open PyProof.Rows hiding St
section
variable {X : Cx} {pins : List (Addr × Obj)} {σ σ' : St} {H H' : Hp} {s s' : Shared} {a : Addr} {xs : List V}
theorem Inv.untrack (I : Inv X pins σ H s) (h : H a = some (.lst xs)) : ∃ (its : List Value) (n : Nat), Vals xs its ∧ xs.length ≤ sizeLine ∧ Inv X (pins ++ [(a, { cls := .type "list", data := .seq its.toArray n })]) σ (rm H a) s := by
  obtain ⟨its, n, r, e, z⟩ := I.lst h
  refine ⟨its, n, r, z, ⟨I.ok, I.os, I.bare, ⟨fun b o => I.base.keep b o, fun b o => I.base.slot b o, fun b o q m hx => ?_, fun b o => I.base.there b o, fun b ys q => ?_, fun b o u q => ?_, fun b ps q => ?_⟩, I.loc, I.cell, ?_, fun x c q => ?_, fun p hp => ?_, fun b u q => ?_, I.len⟩⟩
  · have := I.base.free b o q m hx
    by_cases hb : b = a
    · rw [hb]; exact rm_same
    · rw [rm_ne hb]; exact this
  · have w := I.base.tups b ys q
    rw [rm_ne (fun hb => by rw [hb, h] at w; cases w)]; exact w
  · have w := I.base.frzs b o u q
    rw [rm_ne (fun hb => by rw [hb, h] at w; cases w)]; exact w
  · obtain ⟨m, w⟩ := I.base.tbls b ps q
    exact ⟨m, by rw [rm_ne (fun hb => by rw [hb, h] at w; cases w)]; exact w⟩
  · by_cases hb : X.env.locals = a
    · rw [hb]; exact rm_same
    · rw [rm_ne hb]; exact I.free
  · have w := I.freeC x c q
    rw [rm_ne (fun hb => by rw [hb, h] at w; cases w)]; exact w
  · rw [← List.append_assoc] at hp
    rcases List.mem_append.mp hp with hp | hp
    · obtain ⟨p1, p2, p3, p4, p5⟩ := I.pin p hp
      exact ⟨p1, by rw [rm_ne (fun hb => by rw [hb, h] at p2; cases p2)]; exact p2, p3, p4, p5⟩
    · have : p = _ := List.mem_singleton.mp hp
      subst this
      refine ⟨e, rm_same, fun hb => ?_, fun hb => ?_, fun v q => nomatch q⟩
      · have w := I.free
        rw [← (show a = X.env.locals from hb), h] at w
        cases w
      · obtain ⟨_, o, ho, _⟩ := I.ok.funs.mem hb
        have w := I.base.free a o ho (I.ok.frf a hb) fun z => I.ok.exfs a z hb
        rw [h] at w
        cases w
  · obtain ⟨hb, q⟩ := rm_some q
    exact (I.hok b u q).stay (fun c v _ w => w) (fun c w => by rw [rm_ne (fun hc => by rw [hc, h] at w; cases w)]; exact w) fun c ys w => by rw [rm_ne (fun hc => by rw [hc, h] at w; cases w)]; exact w
theorem Inv.retrack {its : List Value} {n : Nat} (I : Inv X pins σ H s) (h : H a = some (.lst xs)) (r : Vals xs its) (z : xs.length ≤ sizeLine) (J : Inv X (pins ++ [(a, { cls := .type "list", data := .seq its.toArray n })]) σ' H' s') :
    H' a = none ∧ Inv X pins σ' (upd H' a (.lst xs)) s' := by
  obtain ⟨e, hn, _⟩ := J.pin (a, { cls := .type "list", data := .seq its.toArray n }) (by simp)
  have hn' : H' a = none := hn
  have ne : ∀ b, H b ≠ some (.lst xs) → b ≠ a := fun b hb z => hb (by rw [z]; exact h)
  refine ⟨hn', J.ok, J.os, J.bare, ⟨fun b o => J.base.keep b o, fun b o => J.base.slot b o, fun b o q m hx => ?_, fun b o => J.base.there b o, fun b ys q => ?_, fun b o u q => ?_, fun b ps q => ?_⟩, J.loc, J.cell, ?_, fun x c q => ?_, fun p hp => ?_, J.hok.track hn' ⟨z, its, n, r, e⟩, J.len⟩
  · rw [upd_ne (ne b (by rw [I.base.free b o q m hx]; exact fun z => nomatch z))]; exact J.base.free b o q m hx
  · rw [upd_ne (ne b (by rw [I.base.tups b ys q]; exact fun z => nomatch z))]; exact J.base.tups b ys q
  · rw [upd_ne (ne b (by rw [I.base.frzs b o u q]; exact fun z => nomatch z))]; exact J.base.frzs b o u q
  · obtain ⟨m, w⟩ := I.base.tbls b ps q
    obtain ⟨m', w'⟩ := J.base.tbls b ps q
    exact ⟨m', by rw [upd_ne (ne b (by rw [w]; exact fun z => nomatch z))]; exact w'⟩
  · rw [upd_ne (ne _ (by rw [I.free]; exact fun z => nomatch z))]; exact J.free
  · rw [upd_ne (ne c (by rw [I.freeC x c q]; exact fun z => nomatch z))]; exact J.freeC x c q
  · obtain ⟨p1, p2, p3, p4, p5⟩ := J.pin p (by rw [← List.append_assoc]; exact List.mem_append_left _ hp)
    exact ⟨p1, by rw [upd_ne (ne p.1 (by rw [(I.pin p hp).2.1]; exact fun z => nomatch z))]; exact p2, p3, p4, p5⟩
end
section
variable {X : Cx}
def fE (t : TE) : TE := fun σ H Q => ∃ a xs, H a = some (.lst xs) ∧ t σ (rm H a) fun v H' => H' a = none → Q v (upd H' a (.lst xs))
theorem PE.frame {e : Expr} {t : TE} (h : PE X e t) : PE X e (fE t) := fun pins s σ H Q I ⟨a, xs, ha, q⟩ => by
  obtain ⟨its, n, r, z, J⟩ := I.untrack ha
  refine thn (h _ s σ _ _ J q) fun u s' ⟨v, H', J', rv, q'⟩ => ?_
  obtain ⟨hn, I'⟩ := I.retrack ha r z J'
  exact ⟨v, _, I', rv, q' hn⟩
def fS (t : TS) : TS := fun E σ H => ∃ a xs, H a = some (.lst xs) ∧ t { nx := fun σ' H' => H' a = none → E.nx σ' (upd H' a (.lst xs)), rt := fun v H' => H' a = none → E.rt v (upd H' a (.lst xs)), bk := fun σ' H' => H' a = none → E.bk σ' (upd H' a (.lst xs)), ct := fun σ' H' => H' a = none → E.ct σ' (upd H' a (.lst xs)) } σ (rm H a)
theorem PS.frame {st : Stmt} {t : TS} (h : PS X st t) : PS X st (fS t) := fun pins s σ H E I ⟨a, xs, ha, q⟩ => by
  obtain ⟨its, n, r, z, J⟩ := I.untrack ha
  refine thn (h _ s σ _ _ J q) fun fl s' hq => ?_
  cases fl with
  | next => obtain ⟨σ', H', J', q'⟩ := hq; obtain ⟨hn, I'⟩ := I.retrack ha r z J'; exact ⟨σ', _, I', q' hn⟩
  | brk => obtain ⟨σ', H', J', q'⟩ := hq; obtain ⟨hn, I'⟩ := I.retrack ha r z J'; exact ⟨σ', _, I', q' hn⟩
  | cont => obtain ⟨σ', H', J', q'⟩ := hq; obtain ⟨hn, I'⟩ := I.retrack ha r z J'; exact ⟨σ', _, I', q' hn⟩
  | ret u => obtain ⟨v, σ', H', J', rv, q'⟩ := hq; obtain ⟨hn, I'⟩ := I.retrack ha r z J'; exact ⟨v, σ', _, I', rv, q' hn⟩
def fI (t : TI) : TI := fun σ H R => ∃ a xs, H a = some (.lst xs) ∧ t σ (rm H a) fun J H' => H' a = none → R J (upd H' a (.lst xs))
theorem PI.frame {tg iter : Expr} {t : TI} (h : PI X tg iter t) : PI X tg iter (fI t) := fun pins s σ H R I ⟨a, xs, ha, q⟩ => by
  obtain ⟨its, n, r, z, J⟩ := I.untrack ha
  refine thn (h _ s σ _ _ J q) fun v s1 h1 => thn h1 fun itv s2 h2 => ?_
  obtain ⟨it, fp, tn, Jt, H', e, J', T, st, ff, q'⟩ := h2
  obtain ⟨hn, I'⟩ := I.retrack ha r z J'
  refine ⟨it, fp, tn, Jt, _, e, I', T, st, fun b hb => ?_, q' hn⟩
  obtain ⟨f0, f1, f2, f3, f4, f5⟩ := ff b hb
  have hne : b ≠ a := fun z => f5 (a, { cls := .type "list", data := .seq its.toArray n }) (by simp) z.symm
  exact ⟨by rw [upd_ne hne]; exact f0, f1, f2, f3, f4, fun p hp => f5 p (by rw [← List.append_assoc]; exact List.mem_append_left _ hp)⟩
end
end L2
namespace PU
open PySem PySem.Spec L2
open PyProof.Rows hiding St
structure Own (K : PySem.W.Frag) (o : Nat) (a : Addr) (H0 H : Hp) (δ : Dl) (ds : List D) (σ : St) : Prop where
  slot : δ[o]? = some (some (opq a))
  lst : ∃ xs, H a = some (.lst xs) ∧ Reps K (rm H a) ds xs
  st : RepSt K (rm H a) δ σ
  old : Same H0 (rm H a)
def EndsO (K : PySem.W.Frag) (o : Nat) (a : Addr) (H0 : Hp) (E : Ends) : Fl → List D → Prop
  | .nx δ', ds => ∀ σ' H', Own K o a H0 H' δ' ds σ' → E.nx σ' H'
  | .rt d, _ => ∀ v H', Same H0 H' → Rep K H' d v → E.rt v H'
  | .bk δ', ds => ∀ σ' H', Own K o a H0 H' δ' ds σ' → E.bk σ' H'
  | .ct δ', ds => ∀ σ' H', Own K o a H0 H' δ' ds σ' → E.ct σ' H'
def tO (K : PySem.W.Frag) (o : Nat) (f : Fo) : TS := fun E σ H => ∃ a H0 δ ds r, Own K o a H0 H δ ds σ ∧ f δ ds = some r ∧ EndsO K o a H0 E r.1 r.2
structure PsO (X : Cx) (o : Nat) (st : Stmt) (f : Fo) : Prop where
  un : PS X st (tO X.K o f)
structure PssO (X : Cx) (o : Nat) (st : List Stmt) (f : Fo) : Prop where
  un : PSs X st (tO X.K o f)
section
variable {X : Cx} {st : Stmt} {rest sa sb : List Stmt} {o : Nat} {fs : Fs} {fo go : Fo} {a tg iter : Expr} {f : Fe} {fi : Fi} {gf : Fg} {pos : Pos}
theorem PS.impO {st : Stmt} {t : TS} {f : Fo} {o : Nat} (h : PS X st t) (w : ∀ E σ H, tO X.K o f E σ H → t E σ H) : PsO X o st f := PsO.mk fun pins s σ H E I q => h pins s σ H E I (w E σ H q)
theorem PSs.impO {st : List Stmt} {t : TS} {f : Fo} {o : Nat} (h : PSs X st t) (w : ∀ E σ H, tO X.K o f E σ H → t E σ H) : PssO X o st f := PssO.mk fun pins s σ H E I q => h pins s σ H E I (w E σ H q)
theorem oss_one (h : PsO X o st fo) : PssO X o [st] fo := ⟨pss_one h.un⟩
theorem oss_cons (h : PsO X o st fo) (t : PssO X o rest go) : PssO X o (st :: rest) (oSeq fo go) := PSs.impO (pss_cons h.un t.un) fun E σ H ⟨a, H0, δ, ds, r, ow, e, q⟩ => by
  obtain ⟨r1, e1, e⟩ := bind_some e
  obtain ⟨fl, ds1⟩ := r1
  refine ⟨a, H0, δ, ds, (fl, ds1), ow, e1, ?_⟩
  cases fl with
  | nx δ' => exact fun σ' H' ow' => ⟨a, H0, δ', ds1, r, ow', e, q⟩
  | rt d => cases e; exact q
  | bk d => cases e; exact q
  | ct d => cases e; exact q
def Leaves (o : Nat) (f : Fs) : Prop := ∀ δ r, f δ = some r → match r with
  | .nx δ' => δ'[o]? = δ[o]?
  | .rt _ => True
  | .bk δ' => δ'[o]? = δ[o]?
  | .ct δ' => δ'[o]? = δ[o]?
theorem Own.put {K : PySem.W.Frag} {o : Nat} {a : Addr} {H0 H H' : Hp} {δ δ' : Dl} {ds : List D} {σ σ' : St} {xs : List V} (ow : Own K o a H0 H δ ds σ) (hx : H a = some (.lst xs)) (s : Same (rm H a) H') (hn : H' a = none) (r : RepSt K H' δ' σ') (e : δ'[o]? = δ[o]?) :
    Own K o a H0 (upd H' a (.lst xs)) δ' ds σ' := by
  obtain ⟨ys, hy, hr⟩ := ow.lst
  rw [hx] at hy
  cases hy
  refine ⟨by rw [e]; exact ow.slot, ⟨xs, upd_same, ?_⟩, ?_, ?_⟩
  · rw [rm_upd hn]; exact hr.mono s
  · rw [rm_upd hn]; exact r
  · rw [rm_upd hn]; exact ow.old.trans s
theorem os_lift (h : Ps X st fs) (hl : Leaves o fs) : PsO X o st (oLift fs) := PS.impO (PS.frame h.un) fun E σ H ⟨a, H0, δ, ds, r, ow, e, q⟩ => by
  obtain ⟨xs, hx, hr⟩ := ow.lst
  obtain ⟨fl, e1, e⟩ := bind_some e
  cases e
  refine ⟨a, xs, hx, δ, fl, ow.st, e1, ?_⟩
  have hl' := hl δ fl e1
  cases fl with
  | nx δ' => exact fun σ' H' s' r' hn => q σ' _ (ow.put hx s' hn r' hl')
  | bk δ' => exact fun σ' H' s' r' hn => q σ' _ (ow.put hx s' hn r' hl')
  | ct δ' => exact fun σ' H' s' r' hn => q σ' _ (ow.put hx s' hn r' hl')
  | rt d => exact fun v H' s' r' hn => q v _ ((ow.old.trans s').trans (same_upd hn _)) (r'.mono (same_upd hn _))
theorem oss_close (h : Pss X rest fs) : PssO X o rest (oClose o fs) := PSs.impO h.un fun E σ H ⟨a, H0, δ, ds, r, ow, e, q⟩ => by
  obtain ⟨xs, hx, hr⟩ := ow.lst
  obtain ⟨fl, e1, e⟩ := bind_some e
  have hs : Same (rm H a) H := same_rm H a
  have rs : RepSt X.K H (δ.set o (some (.list ds))) σ := by
    refine ⟨by rw [List.length_set]; exact ow.st.len, fun i d hd => ?_⟩
    by_cases hi : o = i
    · subst hi
      have hlt : o < δ.length := (List.getElem?_eq_some_iff.mp ow.slot).1
      rw [List.getElem?_set_self hlt] at hd
      cases hd
      obtain ⟨v, h1, h2⟩ := ow.st.get o _ ow.slot
      refine ⟨v, h1, ?_⟩
      rw [rep_opq h2]
      exact Rep.ofLst (SqL.of hx) (hr.mono hs)
    · rw [List.getElem?_set_ne hi] at hd
      obtain ⟨v, h1, h2⟩ := ow.st.get i d hd
      exact ⟨v, h1, h2.mono hs⟩
  cases fl with
  | rt d =>
    cases e
    exact ⟨_, _, rs, e1, fun v H' s' r' => q v H' ((ow.old.trans hs).trans s') r'⟩
  | nx δ' => cases e
  | bk δ' => cases e
  | ct δ' => cases e
theorem os_app {p0 p1 p2 : Pos} {x : Str} (h : Pu X a f) (hN : X.N[o]? = some x := by rfl) (hv : Vis X.env.scope x := by first | exact Or.inl rfl | exact Or.inr (Or.inl rfl) | exact Or.inr (Or.inr rfl)) (hd : (x == ("__debug__" : Str)) = false := by decide) (hcd : (x == ("__classdict__" : Str)) = false := by decide)
    (hbase : attributeBase (.Name x p0) "append" X.env (eval (.Name x p0) X.env) = eval (.Name x p0) X.env := by rfl)
    (hfew : ((backTo p2 (starEach [a] X.env)).all (fun x => !x.1) && (backToKw p2 (keywordEach [] X.env)).all (fun x => x.1.isSome) && decide ([a].length + ([] : List Keyword).length + (if ([] : List Keyword).isEmpty then 0 else 1) < 30)) = true := by rfl)
    (hline : (p1.endLine == p2.line) = true := by rfl) (hs : starEach [a] X.env = [(false, eval a X.env)] := by rfl) (hsw : swapsWith (.Call (.Attribute (.Name x p0) "append" p1) [a] [] p2) none pos.line X.env = pure false := by rfl) :
    PsO X o (.Expr (.Call (.Attribute (.Name x p0) "append" p1) [a] [] p2) pos) (oApp o f) :=
  PS.impO (ps_expr (pe_bm PySem.F.plainAttrs_list PySem.F.slot_list_append PySem.F.type_list_append mt_append (pe_var hN hv hd hcd) (pa_cons (PE.frame h.un) pa_nil hs) hbase hfew hline hs rfl) hsw) fun E σ H ⟨a, H0, δ, ds, r, ow, e, q⟩ => by
  obtain ⟨xs, hx, hr⟩ := ow.lst
  obtain ⟨d, e1, e⟩ := bind_some e
  by_cases hf : fit (ds.length + 1) = true
  · rw [if_pos hf] at e
    cases e
    obtain ⟨v, h1, h2⟩ := ow.st.get o _ ow.slot
    have hva := rep_opq h2
    subst hva
    have hz := fit_le hf
    refine ⟨.ref a, h1, .inl ⟨rfl, xs, SqL.of hx⟩, a, xs, hx, δ, d, ow.st, e1, fun v' H' s' r' hn => ?_⟩
    refine ⟨a, xs, v', rfl, rfl, upd_same, by rw [hr.length]; omega, ?_⟩
    rw [upd_upd]
    refine q σ _ ⟨ow.slot, ⟨xs ++ [v'], upd_same, ?_⟩, ?_, ?_⟩
    · rw [rm_upd hn]; exact Reps.append (hr.mono s') (Reps.cons r' Reps.nil)
    · rw [rm_upd hn]; exact ow.st.mono s'
    · rw [rm_upd hn]; exact ow.old.trans s'
  · rw [if_neg hf] at e; cases e
theorem os_for {g : TG} {own : List Nat} (hp : PassesOwn (model X.prog X.w) X.A X.env X.xe) (hc : X.calm = true) (hi : PuI X tg iter fi) (tgd : TgD X.K g gf own) (ho : o ∉ own) (hg : PG X tg g) (hb : PssO X o sa fo)
    (hgl : ∀ d δ δ', gf d δ = some δ' → δ'[o]? = δ[o]?) (hs : ∀ x, foldedSetIterable iter X.env x = pure x := by intro _; rfl) : PsO X o (.For tg iter sa [] pos) (oFor fi gf fo) :=
  PS.impO (ps_for hp hc (PI.frame hi.un) hg hb.un hs) fun E σ H ⟨a, H0, δ, ds, r, ow, e, q⟩ => by
  obtain ⟨xs, hx, hr⟩ := ow.lst
  obtain ⟨es, e1, e⟩ := bind_some e
  refine ⟨a, xs, hx, δ, es, ow.st, e1, fun J H1 s1 hJ hn1 => ?_⟩
  have ow1 : Own X.K o a H0 (upd H1 a (.lst xs)) δ ds σ := ow.put hx s1 hn1 (ow.st.mono s1) rfl
  refine ⟨fun i m σ2 H2 => m = es.length - i ∧ i ≤ es.length ∧ Same H1 (rm H2 a) ∧ ∃ δ2 ds2, Own X.K o a H0 H2 δ2 ds2 σ2 ∧ forO gf fo (es.drop i) δ2 ds2 = some r, ⟨es.length, rfl, Nat.zero_le _, by rw [rm_upd hn1]; exact Same.refl _, δ, ds, ow1, e⟩, ?_⟩
  rintro i m σ2 H2 ⟨rfl, hi.un, s2, δ2, ds2, ow2, e2⟩
  have s2' : Same H1 H2 := s2.trans (same_rm H2 a)
  by_cases hlt : i < es.length
  · refine .inr ⟨hJ.go i H2 s2' hlt, fun σ' H' => ∃ δ3 ds3, Own X.K o a H0 H' δ3 ds3 σ' ∧ Same H1 (rm H' a) ∧ forO gf fo (es.drop (i + 1)) δ3 ds3 = some r, fun σ' H' ⟨δ3, ds3, r3, s3, e3⟩ => ⟨es.length - (i + 1), by omega, rfl, hlt, s3, δ3, ds3, r3, e3⟩, fun x H3 hy => ?_⟩
    obtain ⟨xs2, hx2, hr2⟩ := ow2.lst
    obtain ⟨fy, hx3⟩ := hJ.frm i H2 x H3 a xs2 hx2 hy
    obtain ⟨s3, dx, ex, hx'⟩ := hJ.yld i (rm H2 a) x (rm H3 a) s2 fy hlt
    have hd : es.drop i = dx :: es.drop (i + 1) := by
      rw [List.drop_eq_getElem_cons hlt]
      rw [List.getElem?_eq_getElem hlt] at ex
      rw [Option.some.inj ex]
    rw [hd] at e2
    obtain ⟨δ3, e3, e2⟩ := bind_some e2
    obtain ⟨fl, e4, e2⟩ := bind_some e2
    obtain ⟨fl, ds4⟩ := fl
    refine tgd.run x σ2 H3 (rm H3 a) _ dx δ2 δ3 (same_rm H3 a) (ow2.st.mono s3) hx' e3 fun σ4 r4 _ _ => ?_
    have ow4 : Own X.K o a H0 H3 δ3 ds2 σ4 := ⟨by rw [hgl dx δ2 δ3 e3]; exact ow2.slot, ⟨xs2, hx3, hr2.mono s3⟩, r4, ow2.old.trans s3⟩
    refine ⟨a, rm H3 a, δ3, ds2, (fl, ds4), ⟨ow4.slot, ow4.lst, ow4.st, Same.refl _⟩, e4, ?_⟩
    have back : ∀ {δ5 : Dl} {σ' : St} {H' : Hp}, Own X.K o a (rm H3 a) H' δ5 ds4 σ' → Own X.K o a H0 H' δ5 ds4 σ' ∧ Same H1 (rm H' a) := fun ow' => ⟨⟨ow'.slot, ow'.lst, ow'.st, (ow2.old.trans s3).trans ow'.old⟩, (s2.trans s3).trans ow'.old⟩
    cases fl with
    | nx δ5 => exact fun σ' H' ow' => ⟨δ5, ds4, (back ow').1, (back ow').2, e2⟩
    | ct δ5 => exact fun σ' H' ow' => ⟨δ5, ds4, (back ow').1, (back ow').2, e2⟩
    | bk δ5 =>
      cases e2
      exact fun σ' H' ow' => q σ' H' (back ow').1
    | rt d =>
      cases e2
      exact fun v H' s' r' => q v H' (((ow2.old.trans s3)).trans s') r'
  · have hie : i = es.length := by omega
    subst hie
    rw [List.drop_length] at e2
    cases e2
    exact .inl ⟨hJ.stop H2 s2', q σ2 H2 ow2⟩
theorem leaves_set {i o : Nat} {f : Fe} (h : i ≠ o) : Leaves o (sSet i f) := fun δ r e => by
  obtain ⟨d, e1, e⟩ := bind_some e
  cases e
  exact List.getElem?_set_ne h
end
end PU
namespace L2
open PySem PySem.Spec
open PyProof.Rows hiding St
section
variable {prog : Program} {w : World} {A : Around} {E : Value → Shared → Prop} {z : Shared}
end
def IsSeq (tup : Bool) (h : Heap) (a : Addr) (vs : Array Value) : Prop := if tup then h.IsTuple a vs else h.IsList a vs
def SqS (tup : Bool) (K : PySem.W.Frag) (H : Hp) (a : Addr) (xs : List V) : Prop := if tup then SqT K H a xs else SqL K H a xs
section
variable {X : Cx} {pins : List (Addr × Obj)} {σ : St} {H : Hp} {s : Shared}
theorem Inv.seq (I : Inv X pins σ H s) {tup : Bool} {a : Addr} {xs : List V} (h : SqS tup X.K H a xs) : ∃ its : List Value, Vals xs its ∧ IsSeq tup s.heap a its.toArray ∧ xs.length ≤ sizeLine ∧ a < s.heap.objs.size := by
  cases tup with
  | true =>
    obtain ⟨its, r, p, z⟩ := I.tuple h
    exact ⟨its, r, p, z, p.lt⟩
  | false =>
    obtain ⟨its, r, p, z⟩ := I.list h
    refine ⟨its, r, p.isList, z, ?_⟩
    obtain ⟨o, n, e, _⟩ := p
    exact Heap.lt_size e
theorem Inv.track {a : Addr} {o : HO} (I : Inv X pins σ H s) (f : FpOk X pins H a) (hs : X.s₀.heap.objs.size ≤ a) (new : ObjOk X.prog X.w (upd H a o) s.heap a o) : Inv X pins σ (upd H a o) s := by
  obtain ⟨f0, f1, f2, f3, f4, f5⟩ := f
  refine ⟨I.ok, I.os, I.bare, Un.track I.base (Heap.get?_none_of_le hs) f0, I.loc, I.cell, by rw [upd_ne (Ne.symm f1)]; exact I.free, fun x c e => by rw [upd_ne (f4 x c e)]; exact I.freeC x c e, fun p hp => ?_, I.hok.track f0 new, I.len⟩
  obtain ⟨p1, p2, p3, p4, p5⟩ := I.pin p hp
  exact ⟨p1, by rw [upd_ne (f5 p hp)]; exact p2, p3, p4, p5⟩
end
end L2
namespace PySem
open PyProof.Rows
end PySem
namespace PU
open PySem PySem.Spec L2
open PyProof.Rows hiding St
section
variable {X : Cx} {a b : Expr} {elts : List Expr} {kt : Nat} {pt pos : Pos} {f g : Fe}
structure Df (P : Program) (w : World) (K : PySem.W.Frag) (mg : Str → Option Value) (base : Heap) (k : Nat) (x : Str) (ps : List Str) (F : List D → Option D) : Prop where
  ex : ∃ (f0 : Addr) (fd : FuncData), FnOk P w K mg base CX0 k f0 fd ps (spP K ps.length F) ∧ Binds K fd ps [] ∧ PySem.W.keepIn K (.ref f0) = true ∧ mg x = some (.ref f0)
theorem pu_callD {fa : Fa} {kk : Nat} {ps : List Str} {F : List D → Option D} {x : Str} {p0 : Pos} {es : List Expr} (d : Df X.prog X.w X.K X.mg X.base kk x ps F) (hr : Room kk X.A) (hg : Gl X x) (ha : PuA X (a :: es) fa) (hn : ∀ δ ds, fa δ = some ds → ds.length = ps.length)
    (hdb : (x == ("__debug__" : Str)) = false := by decide) (he : starEach (a :: es) X.env = (false, eval a X.env) :: starEach es X.env := by rfl) (hpl : (backTo pos (starEach es X.env)).any (·.1) = false := by rfl) : Pu X (.Call (.Name x p0) (a :: es) [] pos) (eCall F fa) := by
  obtain ⟨f0, fd, h1, h2, h3, h4⟩ := d.ex
  exact pu_call (E := E0) h1 hr hg h4 h3 h2 ha hn hdb he hpl
end
end PU
namespace L2
open PySem PySem.Spec
open PyProof.Rows hiding St
section
variable {X : Cx}
def rCatT2 (K : PySem.W.Frag) : R2 := fun x y H Q => ∃ a b xs ys, x = .ref a ∧ y = .ref b ∧ SqT K H a xs ∧ SqT K H b ys ∧ xs.length + ys.length ≤ sizeLine ∧
  (xs = [] → Q (.ref b) H) ∧ (xs ≠ [] → ys = [] → Q (.ref a) H) ∧ (xs ≠ [] → ys ≠ [] → ∀ p, H p = none → Q (.ref p) (upd H p (.tup (xs ++ ys))))
theorem op_catT2 : OpR X (binaryOp .Add) (rCatT2 X.K) := by
  intro pins s σ H x y v u Q I rx ry h
  obtain ⟨a, b, xs, ys, rfl, rfl, ha, hb, hz, q0, q1, q2⟩ := h
  cases rx
  cases ry
  obtain ⟨its, r1, p1, _⟩ := I.tuple ha
  obtain ⟨its2, r2, p2, _⟩ := I.tuple hb
  by_cases hx : xs = []
  · obtain ⟨⟨c1, d1, dt1, sl1⟩, o1, e1, n1, f1⟩ := p1
    obtain ⟨⟨c2, d2, dt2, sl2⟩, o2, e2, n2, f2⟩ := p2
    simp only at e1 f1 e2 f2
    subst e1 f1 e2 f2
    have hi : its = [] := r1.nil_iff.mpr hx
    exact concat_meets ⟨_, o1, rfl⟩ ⟨_, o2, rfl⟩ noFill_tuple_add seq_tuple_add PySem.F.slot_tuple_add PySem.F.entry_tuple_add (PySem.F.args_tuple_add_2 _ _) (tuple_addW0 a b its.toArray its2.toArray n1 n2 d1 d2 sl1 sl2 (by simp [hi])) ⟨o1, o2, ⟨.ref b, H, I, rfl, q0 hx⟩⟩
  · refine HT.cat_tup p1 p2 (fun z => hx (r1.nil_iff.mp z)) (fun z => ⟨.ref a, H, I, rfl, q1 hx (r2.nil_iff.mp z)⟩) (fun z => ?_) (by rw [← r1.length, ← r2.length]; exact hz)
    refine ⟨.ref s.heap.objs.size, _, I.laid (t' := s.toks) (o := .tup (xs ++ ys)) (fun b ob q => Heap.get?_push_of_some _ q) (Nat.le_refl _) ?_, rfl, q2 hx (fun w => z (r2.nil_iff.mpr w)) _ (I.hok.fresh (Nat.le_refl _))⟩
    exact ⟨by rw [List.length_append]; exact hz, _, r1.append r2, IsTupD.new _ _⟩
def rCatL (K : PySem.W.Frag) : R2 := fun x y H Q => ∃ a b xs ys, x = .ref a ∧ y = .ref b ∧ SqL K H a xs ∧ SqL K H b ys ∧ xs.length + ys.length ≤ sizeLine ∧ ∀ p, H p = none → Q (.ref p) (upd H p (.lst (xs ++ ys)))
theorem op_catL : OpR X (binaryOp .Add) (rCatL X.K) := by
  intro pins s σ H x y v u Q I rx ry h
  obtain ⟨a, b, xs, ys, rfl, rfl, ha, hb, hz, q⟩ := h
  cases rx
  cases ry
  obtain ⟨its, r1, ⟨⟨c1, d1, dt1, sl1⟩, n1, o1, e1, _, f1⟩, _⟩ := I.list ha
  obtain ⟨its2, r2, ⟨⟨c2, d2, dt2, sl2⟩, n2, o2, e2, _, f2⟩, _⟩ := I.list hb
  simp only at e1 f1 e2 f2
  subst e1 f1 e2 f2
  have e : its.toArray ++ its2.toArray = (its ++ its2).toArray := by simp
  have hl1 := r1.length
  have hl2 := r2.length
  refine concat_meets ⟨_, o1, rfl⟩ ⟨_, o2, rfl⟩ noFill_list_add seq_list_add PySem.F.slot_list_add PySem.F.entry_list_add (PySem.F.args_list_add_2 _ _) (list_addW a b its.toArray its2.toArray n1 n2 d1 d2 sl1 sl2 (by rw [List.size_toArray, List.size_toArray]; omega)) ⟨o1, o2, ?_⟩
  rw [e]
  refine ⟨.ref s.heap.objs.size, _, I.laid (t' := s.toks) (o := .lst (xs ++ ys)) (fun b ob q => Heap.get?_push_of_some _ q) (Nat.le_refl _) ?_, rfl, q _ (I.hok.fresh (Nat.le_refl _))⟩
  exact ⟨by rw [List.length_append]; exact hz, _, 0, r1.append r2, Heap.get?_push_size _ rfl⟩
end
end L2
namespace PU
open PySem PySem.Spec L2
open PyProof.Rows hiding St
section
variable {X : Cx} {a b : Expr} {f g : Fe} {pos : Pos}
theorem reps_nil_iff {K : PySem.W.Frag} {H : Hp} {ds : List D} {xs : List V} (h : Reps K H ds xs) : xs = [] ↔ ds = [] := by
  cases ds with
  | nil => rw [h.unnil]; exact ⟨fun _ => rfl, fun _ => rfl⟩
  | cons d ds => obtain ⟨v, vs, rfl, _⟩ := h.uncons; exact ⟨(fun z => nomatch z), (fun z => nomatch z)⟩
theorem pu_add (ha : Pu X a f) (hb : Pu X b g) : Pu X (.BinOp a .Add b pos) (eOp oAdd f g) := PE.imp (pe_op (op_add.or (op_catT2.or op_catL)) ha.un hb.un) (op_of fun x y d e H vx vy Q hx hy q => by
  unfold oAdd at e
  split at e
  · cases e
    rw [rep_int hx, rep_int hy]
    exact .inl ⟨_, _, rfl, rfl, q _ H (Same.refl H) (Rep.ofInt _)⟩
  · rename_i l m
    by_cases hf : fit (l.length + m.length) = true
    · rw [if_pos hf] at e
      cases e
      obtain ⟨p, xs, rfl, h1, h2⟩ := rep_tup hx
      obtain ⟨p', ys, rfl, h3, h4⟩ := rep_tup hy
      refine .inr (.inl ⟨p, p', xs, ys, rfl, rfl, h1, h3, by rw [h2.length, h4.length]; exact fit_le hf, fun z => ?_, fun _ z => ?_, fun _ _ t ht => ?_⟩)
      · have hl : l = [] := (reps_nil_iff h2).mp z
        rw [hl, List.nil_append] at q
        exact q _ H (Same.refl H) (Rep.ofTup h3 h4)
      · have hm : m = [] := (reps_nil_iff h4).mp z
        rw [hm, List.append_nil] at q
        exact q _ H (Same.refl H) (Rep.ofTup h1 h2)
      · exact q _ _ (same_upd ht _) (Rep.newTup ht (h2.append h4))
    · rw [if_neg hf] at e; cases e
  · rename_i l m
    by_cases hf : fit (l.length + m.length) = true
    · rw [if_pos hf] at e
      cases e
      obtain ⟨p, xs, rfl, h1, h2⟩ := rep_lst hx
      obtain ⟨p', ys, rfl, h3, h4⟩ := rep_lst hy
      exact .inr (.inr ⟨p, p', xs, ys, rfl, rfl, h1, h3, by rw [h2.length, h4.length]; exact fit_le hf, fun t ht => q _ _ (same_upd ht _) (Rep.newLst ht (h2.append h4))⟩)
    · rw [if_neg hf] at e; cases e
  · cases e)
end
theorem kit_eq (K : PySem.W.Frag) (A B : String) : PySem.W.kitOne K (.type A) (.type B) = (if (Value.type A == Value.type B) = true then some true else if PySem.W.kitMeta B = true then (fastBuiltinMro A).map (·.contains (Value.type B)) else none) := rfl
theorem kit_int (K : PySem.W.Frag) : KitT K "int" := ⟨(kit_eq K _ _).trans (by decide +kernel), (kit_eq K _ _).trans (by decide +kernel), (kit_eq K _ _).trans (by decide +kernel), (kit_eq K _ _).trans (by decide +kernel), (kit_eq K _ _).trans (by decide +kernel), (kit_eq K _ _).trans (by decide +kernel)⟩
theorem kit_bool (K : PySem.W.Frag) : KitT K "bool" := ⟨(kit_eq K _ _).trans (by decide +kernel), (kit_eq K _ _).trans (by decide +kernel), (kit_eq K _ _).trans (by decide +kernel), (kit_eq K _ _).trans (by decide +kernel), (kit_eq K _ _).trans (by decide +kernel), (kit_eq K _ _).trans (by decide +kernel)⟩
theorem kit_tuple (K : PySem.W.Frag) : KitT K "tuple" := ⟨(kit_eq K _ _).trans (by decide +kernel), (kit_eq K _ _).trans (by decide +kernel), (kit_eq K _ _).trans (by decide +kernel), (kit_eq K _ _).trans (by decide +kernel), (kit_eq K _ _).trans (by decide +kernel), (kit_eq K _ _).trans (by decide +kernel)⟩
theorem bb_len : bootBuiltins "len" = some (.builtin "len") := by decide +kernel
theorem bb_all : bootBuiltins "all" = some (.builtin "all") := by decide +kernel
theorem bb_isinstance : bootBuiltins "isinstance" = some (.builtin "isinstance") := by decide +kernel
theorem bb_tuple : bootBuiltins "tuple" = some (.type "tuple") := by decide +kernel
theorem bb_list : bootBuiltins "list" = some (.type "list") := by decide +kernel
theorem bb_int : bootBuiltins "int" = some (.type "int") := by decide +kernel
theorem bb_bool : bootBuiltins "bool" = some (.type "bool") := by decide +kernel
theorem gN_leaves {i o : Nat} (h : i ≠ o) : ∀ d δ δ', gN i d δ = some δ' → δ'[o]? = δ[o]? := fun d δ δ' e => by
  cases e
  exact List.getElem?_set_ne h
end PU
namespace PU
open PySem PySem.Spec L2
open PyProof.Rows hiding St
section
variable {X : Cx} {a b c tg iter : Expr} {es : List Expr} {pos : Pos} {f g : Fe} {fa : Fa} {fi : Fi} {gf : Fg} {p : Fb} {st : Stmt} {rest sa sb : List Stmt} {o : Nat} {fs fs' : Fs} {fo go : Fo}
theorem same_rm_rm {H H' : Hp} (s : Same H H') (a : Addr) : Same (rm H a) (rm H' a) := fun b u h => by
  obtain ⟨h1, h2⟩ := rm_some h
  rw [rm_ne h1]
  exact s b u h2
theorem oOpen_some {δ : Dl} {r : Fl} (h : oOpen o fa fo δ = some r) : o < δ.length ∧ ∃ d ds0, r = .rt d ∧ fa δ = some ds0 ∧ fit ds0.length = true ∧ ∀ p : Addr, ∃ ds, fo (δ.set o (some (opq p))) ds0 = some (.rt d, ds) := by
  unfold oOpen at h
  split at h
  · rename_i hc
    cases h
    obtain ⟨ds0, h1, h2, h3⟩ := Classical.choose_spec hc.2
    exact ⟨hc.1, _, ds0, rfl, h1, h2, h3⟩
  · cases h
theorem puss_openC {x : Str} {px p0 : Pos} (hN : X.N.Nodup) (ha : PuA X es fa) (t : PssO X o rest fo) (hi : X.N[o]? = some x := by rfl) (hx : Loc X.env.scope x := by first | exact Or.inl rfl | exact Or.inr rfl)
    (hs : swapsWith (.List es p0) (some (.Name x px)) pos.line X.env = pure false := by rfl) (hf : X.fn x = true ∨ X.env.scope.names.lookup x = some .local := by first | exact .inl rfl | exact .inr rfl) :
    Pss X (.Assign [.Name x px] (.List es p0) pos :: rest) (oOpen o fa fo) :=
  PSs.imp (pss_cons (ps_set hN hi hx (pe_lst ha.un) hs hf) t.un) fun E σ H ⟨δ, r, rs, e, q⟩ => by
  obtain ⟨hlt, d, ds0, rfl, e0, hfit, e1⟩ := oOpen_some e
  refine ⟨δ, ds0, rs, e0, fun vs H1 s1 h1 => ⟨by rw [h1.length]; exact fit_le hfit, fun p hp => ?_⟩⟩
  obtain ⟨ds, e2⟩ := e1 p
  refine ⟨p, H1, δ.set o (some (opq p)), ds0, (.rt d, ds), ⟨by rw [List.getElem?_set_self hlt], ⟨vs, upd_same, ?_⟩, ?_, ?_⟩, e2, fun v H' s' r' => q v H' (s1.trans s') r'⟩
  · rw [rm_upd hp]; exact h1
  · rw [rm_upd hp]; exact (rs.mono s1).set (Rep.ofOpq p) o
  · rw [rm_upd hp]; exact Same.refl H1
end
end PU
namespace PU
open PySem PySem.Spec L2
open PyProof.Rows hiding St
section
variable {K : PySem.W.Frag} {H H' : Hp} {p : Addr} {kvs : List (Key × V)}
theorem sqT_rmD (hp : H p = some (.dK kvs)) {a : Addr} {xs : List V} (h : SqT K H a xs) : SqT K (rm H p) a xs := by
  rcases h with (h | ⟨o, h⟩) | h
  · exact .inl (.inl (by rw [rm_ne (fun z => by rw [z, hp] at h; cases h)]; exact h))
  · exact .inl (.inr ⟨o, by rw [rm_ne (fun z => by rw [z, hp] at h; cases h)]; exact h⟩)
  · exact .inr h
theorem sqL_rmD (hp : H p = some (.dK kvs)) {a : Addr} {xs : List V} (h : SqL K H a xs) : SqL K (rm H p) a xs := by
  rcases h with (h | ⟨o, h⟩) | h
  · exact .inl (.inl (by rw [rm_ne (fun z => by rw [z, hp] at h; cases h)]; exact h))
  · exact .inl (.inr ⟨o, by rw [rm_ne (fun z => by rw [z, hp] at h; cases h)]; exact h⟩)
  · exact .inr h
mutual
theorem Rep.rmD (hp : H p = some (.dK kvs)) : ∀ {d : D} {v : V}, Rep K H d v → Rep K (rm H p) d v
  | .none, _, h => by unfold Rep at h ⊢; exact h
  | .bool _, _, h => by unfold Rep at h ⊢; exact h
  | .int _, _, h => by unfold Rep at h ⊢; exact h
  | .str _, _, h => by unfold Rep at h ⊢; exact h
  | .tuple ds, _, h => by
    unfold Rep at h ⊢
    obtain ⟨a, xs, h1, h2, h3⟩ := h
    exact ⟨a, xs, h1, sqT_rmD hp h2, Reps.rmD hp h3⟩
  | .list ds, _, h => by
    unfold Rep at h ⊢
    obtain ⟨a, xs, h1, h2, h3⟩ := h
    exact ⟨a, xs, h1, sqL_rmD hp h2, Reps.rmD hp h3⟩
  | .dict _, _, h => by unfold Rep at h ⊢; exact h
theorem Reps.rmD (hp : H p = some (.dK kvs)) : ∀ {ds : List D} {vs : List V}, Reps K H ds vs → Reps K (rm H p) ds vs
  | [], _, h => by unfold Reps at h ⊢; exact h
  | _ :: _, _, h => by
    unfold Reps at h ⊢
    obtain ⟨v, vs, h1, h2, h3⟩ := h
    exact ⟨v, vs, h1, Rep.rmD hp h2, Reps.rmD hp h3⟩
end
theorem RepSt.rmD (hp : H p = some (.dK kvs)) {δ : Dl} {σ : St} (r : RepSt K H δ σ) : RepSt K (rm H p) δ σ := ⟨r.len, fun i d h => let ⟨v, h1, h2⟩ := r.get i d h; ⟨v, h1, Rep.rmD hp h2⟩⟩
theorem rm_upd2 {H : Hp} {a : Addr} {o : HO} : rm (upd H a o) a = rm H a := by
  funext b
  by_cases h : b = a
  · subst h; rw [rm_same, rm_same]
  · rw [rm_ne h, rm_ne h, upd_ne h]
def keysK (kvs : List (Key × V)) : List Key := kvs.map fun (kv : Key × V) => kv.1
theorem putK_keys (kvs : List (Key × V)) (k : Key) (v : V) : keysK (putK kvs k v) = addK (keysK kvs) k := by
  unfold putK addK
  have e : (kvs.any fun kv => decide (kv.1 = k)) = true ↔ k ∈ keysK kvs := by
    unfold keysK
    rw [List.any_eq_true, List.mem_map]
    constructor
    · rintro ⟨x, hx, e⟩; exact ⟨x, hx, of_decide_eq_true e⟩
    · rintro ⟨x, hx, e⟩; exact ⟨x, hx, decide_eq_true e⟩
  by_cases h : k ∈ keysK kvs
  · rw [if_pos (e.mpr h), if_pos h]
    unfold keysK
    rw [List.map_map]
    refine List.map_congr_left fun x _ => ?_
    show (if x.1 = k then (x.1, v) else x).1 = x.1
    split <;> rfl
  · rw [if_neg (fun z => h (e.mp z)), if_neg h]
    unfold keysK
    rw [List.map_append]
    rfl
end
theorem fn_none {P : Program} {w : World} {K : PySem.W.Frag} {mg : Str → Option Value} {base : Heap} {x qual : Str} {st : Stmt} {f : Addr} {fd : FuncData} {N ps : List Str} {k n : Nat} (F : Fun K x qual st f fd) (S : FnScope N ps (defScope st)) : FnOk P w K mg base CX0 (k + 1) f fd ps (spP K n fun _ => none) :=
  F.ok S (fun vs H Q E h => by obtain ⟨ds, d, _, _, h3, _⟩ := h; cases h3) fun cdv A outer s H vs Q E hr h => by obtain ⟨ds, d, _, _, h3, _⟩ := h; cases h3
end PU
namespace PySem.SeqAt
open AutoSeq1 (wpAny_loadPart')
open MeetsSeq MeetsSeq2
end PySem.SeqAt
namespace L2
open PySem PySem.Spec
open PyProof.Rows hiding St
section
variable {X : Cx}
theorem PE.or {e : Expr} {t u : TE} (h1 : PE X e t) (h2 : PE X e u) : PE X e (fun σ H Q => t σ H Q ∨ u σ H Q) := fun pins s σ H Q I h => h.elim (h1 pins s σ H Q I) (h2 pins s σ H Q I)
theorem Vals.pick : ∀ {xs : List V} {us : List Value}, Vals xs us → ∀ (is : List Nat), Vals (is.filterMap fun (i : Nat) => xs[i]?) (is.filterMap fun (i : Nat) => us[i]?)
  | xs, us, r, [] => .nil
  | xs, us, r, i :: is => by
    rw [List.filterMap_cons, List.filterMap_cons]
    cases e : xs[i]? with
    | none => rw [r.none_of e]; exact Vals.pick r is
    | some x =>
      obtain ⟨u, e1, e2⟩ := r.get e
      rw [e1]
      exact .cons e2 (Vals.pick r is)
theorem Vals.step {xs : List V} {us : List Value} (r : Vals xs us) (k : Nat) : Vals (PU.stepD k xs) (PU.stepD k us) := by
  unfold PU.stepD
  rw [r.length]
  have := Vals.pick r ((List.range ((us.length + k - 1) / k)).map fun (i : Nat) => i * k)
  rw [List.filterMap_map, List.filterMap_map] at this
  exact this
end
end L2
namespace PU
open PySem PySem.Spec L2
open PyProof.Rows hiding St
section
variable {X : Cx} {a b c : Expr} {es : List Expr} {pos : Pos} {f g k : Fe} {fa : Fa}
variable {lo hi : Option Expr} {fl fh : Fp} {p2 p3 : Pos}
end
end PU
namespace L2
open PySem PySem.Spec
open PyProof.Rows hiding St
section
variable {prog : Program} {w : World} {A : Around} {E : Value → Shared → Prop} {s : Shared}
variable {z TI TO i1 i2 l1 l2 : Addr} {n1 n2 k : Nat} {P1 P2 : Nat → Value → Prop} {T1 T2 : Nat → Heap → Prop} {a b : Value}
end
end L2
namespace PU
open PySem PySem.Spec L2
open PyProof.Rows hiding St
section
variable {X : Cx} {a b : Expr} {elts : List Expr} {kt : Nat} {pt pos : Pos} {f g : Fe}
end
end PU
namespace RG
def sumN (f : Nat → Int) : Nat → Int
  | 0 => 0
  | n + 1 => sumN f n + f n
theorem sumN_congr {f g : Nat → Int} : ∀ {n : Nat}, (∀ i, i < n → f i = g i) → sumN f n = sumN g n
  | 0, _ => rfl
  | n + 1, h => by
    show sumN f n + f n = sumN g n + g n
    rw [sumN_congr fun i hi => h i (by omega), h n (by omega)]
theorem sumN_add (f g : Nat → Int) : ∀ n, sumN (fun i => f i + g i) n = sumN f n + sumN g n
  | 0 => rfl
  | n + 1 => by
    show sumN (fun i => f i + g i) n + (f n + g n) = (sumN f n + f n) + (sumN g n + g n)
    rw [sumN_add f g n]; omega
theorem sumN_mul (c : Int) (f : Nat → Int) : ∀ n, sumN (fun i => c * f i) n = c * sumN f n
  | 0 => by simp [sumN]
  | n + 1 => by
    show sumN (fun i => c * f i) n + c * f n = c * (sumN f n + f n)
    rw [sumN_mul c f n, Int.mul_add]
theorem sumN_zero : ∀ n, sumN (fun _ => 0) n = 0
  | 0 => rfl
  | n + 1 => by show sumN (fun _ => 0) n + 0 = 0; rw [sumN_zero n]; rfl
theorem sumN_ite (k : Nat) (c : Int) : ∀ n, sumN (fun i => if i = k then c else 0) n = if k < n then c else 0
  | 0 => by simp [sumN]
  | n + 1 => by
    show sumN (fun i => if i = k then c else 0) n + (if n = k then c else 0) = _
    rw [sumN_ite k c n]
    by_cases h1 : k < n
    · rw [if_pos h1, if_neg (by omega), if_pos (by omega)]; omega
    · rw [if_neg h1]
      by_cases h2 : n = k
      · rw [if_pos h2, if_pos (by omega)]; omega
      · rw [if_neg h2, if_neg (by omega)]; rfl
theorem sumN_swap (f : Nat → Nat → Int) (m : Nat) : ∀ n, sumN (fun i => sumN (fun j => f i j) m) n = sumN (fun j => sumN (fun i => f i j) n) m
  | 0 => by
    show (0 : Int) = sumN (fun j => 0) m
    rw [sumN_zero]
  | n + 1 => by
    show sumN (fun i => sumN (fun j => f i j) m) n + sumN (fun j => f n j) m = sumN (fun j => sumN (fun i => f i j) n + f n j) m
    rw [sumN_swap f m n, sumN_add]
def Ls (b : Int) (v : Int) : Prop := v % b ≠ 0
instance (b v : Int) : Decidable (Ls b v) := inferInstanceAs (Decidable (v % b ≠ 0))
def Adj (H W : Nat) (b : Int) (G : Nat → Nat → Int) (l m : Nat) : Prop :=
  (l < H ∧ H ≤ m ∧ m < H + W ∧ Ls b (G l (m - H))) ∨ (m < H ∧ H ≤ l ∧ l < H + W ∧ Ls b (G m (l - H)))
structure Zero (H W : Nat) (G : Nat → Nat → Int) : Prop where
  rows : ∀ i, i < H → sumN (fun j => G i j) W = 0
  cols : ∀ j, j < W → sumN (fun i => G i j) H = 0
section
variable {H W : Nat} {b : Int} {G : Nat → Nat → Int}
theorem Adj.symm {l m : Nat} (h : Adj H W b G l m) : Adj H W b G m l := by
  rcases h with h | h
  · exact .inr h
  · exact .inl h
theorem Adj.lt {l m : Nat} (h : Adj H W b G l m) : l < H + W := by
  rcases h with ⟨h, _⟩ | ⟨_, _, h, _⟩ <;> omega
theorem Adj.side {l m : Nat} (h : Adj H W b G l m) : (l < H) ↔ ¬ (m < H) := by
  rcases h with ⟨h1, h2, _⟩ | ⟨h1, h2, _⟩ <;> omega
theorem Adj.ne {l m : Nat} (h : Adj H W b G l m) : l ≠ m := by
  rcases h with ⟨h1, h2, _⟩ | ⟨h1, h2, _⟩ <;> omega
end
def Ch (A : Nat → Nat → Prop) : List Nat → Prop
  | [] => True
  | [_] => True
  | x :: y :: r => A x y ∧ Ch A (y :: r)
theorem Ch.tail {A : Nat → Nat → Prop} {x : Nat} : ∀ {r : List Nat}, Ch A (x :: r) → Ch A r
  | [], _ => trivial
  | _ :: _, h => h.2
theorem Ch.drop {A : Nat → Nat → Prop} : ∀ {r : List Nat} (n : Nat), Ch A r → Ch A (r.drop n)
  | _, 0, h => h
  | [], _ + 1, h => h
  | _ :: _, n + 1, h => Ch.drop n (Ch.tail h)
theorem Ch.snoc {A : Nat → Nat → Prop} {y : Nat} : ∀ {r : List Nat} (hr : r ≠ []), Ch A r → A (r.getLast hr) y → Ch A (r ++ [y])
  | [x], _, _, h => ⟨h, trivial⟩
  | x :: z :: r, _, h, h2 => by
    refine ⟨h.1, ?_⟩
    have := Ch.snoc (r := z :: r) (List.cons_ne_nil _ _) h.2 (by rw [List.getLast_cons (List.cons_ne_nil _ _)] at h2; exact h2)
    exact this
theorem Ch.get {A : Nat → Nat → Prop} : ∀ {r : List Nat} (h : Ch A r) (i : Nat) (hi : i + 1 < r.length), A (r[i]'(by omega)) (r[i + 1]'hi)
  | x :: y :: r, h, 0, _ => h.1
  | x :: y :: r, h, i + 1, hi => Ch.get (r := y :: r) h.2 i (by simpa using hi)
  | [x], _, i, hi => absurd hi (by simp)
  | [], _, i, hi => absurd hi (by simp)
structure Ring (A : Nat → Nat → Prop) (r : List Nat) : Prop where
  ch : Ch A r
  nd : r.Nodup
  len : 3 ≤ r.length
  close : ∀ (h : r ≠ []), A (r.getLast h) (r.head h)
structure Walk (A : Nat → Nat → Prop) (n : Nat) (path : List Nat) (ahead : Nat) : Prop where
  ne : path ≠ []
  nd : path.Nodup
  ch : Ch A path
  near : A (path.getLast ne) ahead
  back : ∀ (pre : List Nat) (x y : Nat), path = pre ++ [x, y] → ahead ≠ x
  lt : ∀ l ∈ path, l < n
theorem Walk.go {A : Nat → Nat → Prop} {n : Nat} {path : List Nat} {ahead y : Nat} (w : Walk A n path ahead) (hn : ahead ∉ path) (hl : ahead < n) (hy : A ahead y) (hne : y ≠ path.getLast w.ne) : Walk A n (path ++ [ahead]) y where
  ne := by simp
  nd := by
    rw [List.nodup_append]
    refine ⟨w.nd, by simp, fun a ha c hc e => ?_⟩
    have : c = ahead := by simpa using hc
    subst this
    subst e
    exact hn ha
  ch := w.ch.snoc w.ne w.near
  near := by simpa using hy
  back := fun pre x z e => by
    have h1 : path ++ [ahead] = (pre ++ [x]) ++ [z] := by rw [e]; simp
    have h2 := (List.append_inj' h1 rfl).1
    have : path.getLast w.ne = x := by
      have : path.getLast w.ne = (pre ++ [x]).getLast (by simp) := by congr 1
      rw [this]; simp
    rw [← this]
    exact hne
  lt := fun l h => by
    rcases List.mem_append.mp h with h | h
    · exact w.lt l h
    · have : l = ahead := by simpa using h
      subst this
      exact hl
def place (H : Nat) (l m : Nat) : Nat × Nat := (min l m, max l m - H)
def rot (r : List Nat) : List Nat := r.drop 1 ++ r.take 1
def places (H : Nat) (r : List Nat) : List (Nat × Nat) := (r.zip (rot r)).map fun p => place H p.1 p.2
theorem rot_length (r : List Nat) : (rot r).length = r.length := by
  unfold rot
  rw [List.length_append, List.length_drop, List.length_take]
  omega
theorem rot_get {r : List Nat} (i : Nat) (h : i < r.length) : (rot r)[i]? = some (if h' : i + 1 < r.length then r[i + 1] else r[0]'(by omega)) := by
  unfold rot
  by_cases h' : i + 1 < r.length
  · rw [dif_pos h', List.getElem?_append_left (by rw [List.length_drop]; omega), List.getElem?_drop, Nat.add_comm 1 i, List.getElem?_eq_getElem h']
  · rw [dif_neg h', List.getElem?_append_right (by rw [List.length_drop]; omega), List.length_drop]
    have e : i - (r.length - 1) = 0 := by omega
    rw [e]
    cases r with
    | nil => exact absurd h (by simp)
    | cons x r => simp
theorem places_length (H : Nat) (r : List Nat) : (places H r).length = r.length := by
  unfold places
  rw [List.length_map, List.length_zip, rot_length]
  omega
def nxt (r : List Nat) (i : Nat) (h : i < r.length) : Nat := if h' : i + 1 < r.length then r[i + 1] else r[0]'(by omega)
theorem places_get {H : Nat} {r : List Nat} (i : Nat) (h : i < r.length) : (places H r)[i]? = some (place H r[i] (nxt r i h)) := by
  unfold places nxt
  rw [List.getElem?_map]
  have : (r.zip (rot r))[i]? = some (r[i], if h' : i + 1 < r.length then r[i + 1] else r[0]'(by omega)) := by
    rw [List.getElem?_zip_eq_some]
    exact ⟨List.getElem?_eq_getElem h, rot_get i h⟩
  rw [this]
  rfl
section
variable {H W : Nat} {b : Int} {G : Nat → Nat → Int} {r : List Nat}
theorem Ring.adj (R : Ring (Adj H W b G) r) (i : Nat) (h : i < r.length) : Adj H W b G r[i] (nxt r i h) := by
  unfold nxt
  by_cases h' : i + 1 < r.length
  · rw [dif_pos h']; exact R.ch.get i h'
  · rw [dif_neg h']
    have hne : r ≠ [] := fun e => by subst e; simp at h
    have := R.close hne
    rw [List.getLast_eq_getElem, List.head_eq_getElem] at this
    have e : r.length - 1 = i := by omega
    simpa [e] using this
theorem place_adj {l m : Nat} (h : Adj H W b G l m) : (place H l m).1 < H ∧ (place H l m).2 < W ∧ Ls b (G (place H l m).1 (place H l m).2) ∧ ((l = (place H l m).1 ∧ m = (place H l m).2 + H) ∨ (m = (place H l m).1 ∧ l = (place H l m).2 + H)) := by
  unfold place
  rcases h with ⟨h1, h2, h3, h4⟩ | ⟨h1, h2, h3, h4⟩
  · have e1 : min l m = l := by omega
    have e2 : max l m = m := by omega
    show min l m < H ∧ max l m - H < W ∧ Ls b (G (min l m) (max l m - H)) ∧ _
    rw [e1, e2]
    exact ⟨h1, by omega, h4, .inl ⟨rfl, by omega⟩⟩
  · have e1 : min l m = m := by omega
    have e2 : max l m = l := by omega
    show min l m < H ∧ max l m - H < W ∧ Ls b (G (min l m) (max l m - H)) ∧ _
    rw [e1, e2]
    exact ⟨h1, by omega, h4, .inr ⟨rfl, by omega⟩⟩
theorem get_inj (nd : r.Nodup) {i j : Nat} (hi : i < r.length) (hj : j < r.length) (e : r[i] = r[j]) : i = j := (List.getElem_inj nd).mp e
theorem Ring.place_inj (R : Ring (Adj H W b G) r) {i j : Nat} (hi : i < r.length) (hj : j < r.length) (e : place H r[i] (nxt r i hi) = place H r[j] (nxt r j hj)) : i = j := by
  obtain ⟨_, _, _, a⟩ := place_adj (R.adj i hi)
  obtain ⟨_, _, _, c⟩ := place_adj (R.adj j hj)
  rw [e] at a
  have hl := R.len
  have key : r[i] = r[j] ∨ (r[i] = nxt r j hj ∧ r[j] = nxt r i hi) := by
    rcases a with ⟨a1, a2⟩ | ⟨a1, a2⟩ <;> rcases c with ⟨c1, c2⟩ | ⟨c1, c2⟩
    · exact .inl (a1.trans c1.symm)
    · exact .inr ⟨a1.trans c1.symm, c2.trans a2.symm⟩
    · exact .inr ⟨a2.trans c2.symm, c1.trans a1.symm⟩
    · exact .inl (a2.trans c2.symm)
  rcases key with k | ⟨k1, k2⟩
  · exact get_inj R.nd hi hj k
  · exfalso
    unfold nxt at k1 k2
    by_cases h1 : j + 1 < r.length
    · rw [dif_pos h1] at k1
      have e1 := get_inj R.nd hi h1 k1
      by_cases h2 : i + 1 < r.length
      · rw [dif_pos h2] at k2
        have e2 := get_inj R.nd hj h2 k2
        omega
      · rw [dif_neg h2] at k2
        have e2 := get_inj R.nd hj (by omega) k2
        omega
    · rw [dif_neg h1] at k1
      have e1 := get_inj R.nd hi (by omega) k1
      by_cases h2 : i + 1 < r.length
      · rw [dif_pos h2] at k2
        have e2 := get_inj R.nd hj h2 k2
        omega
      · rw [dif_neg h2] at k2
        have e2 := get_inj R.nd hj (by omega) k2
        omega
theorem Ring.places_nodup (R : Ring (Adj H W b G) r) : (places H r).Nodup := by
  refine List.pairwise_iff_getElem.mpr fun i j hi hj hij e => ?_
  rw [places_length] at hi hj
  have e1 := places_get (H := H) i hi
  have e2 := places_get (H := H) j hj
  rw [List.getElem?_eq_getElem (by rw [places_length]; exact hi)] at e1
  rw [List.getElem?_eq_getElem (by rw [places_length]; exact hj)] at e2
  have := R.place_inj hi hj ((Option.some.inj e1).symm.trans (e.trans (Option.some.inj e2)))
  omega
theorem Ring.places_loose (R : Ring (Adj H W b G) r) {p : Nat × Nat} (h : p ∈ places H r) : p.1 < H ∧ p.2 < W ∧ Ls b (G p.1 p.2) := by
  obtain ⟨i, hi, e⟩ := List.mem_iff_getElem.mp h
  rw [places_length] at hi
  have e' : (places H r)[i]? = some p := by rw [List.getElem?_eq_getElem (by rw [places_length]; exact hi), e]
  rw [places_get i hi] at e'
  have e'' := Option.some.inj e'
  obtain ⟨h1, h2, h3, _⟩ := place_adj (R.adj i hi)
  rw [← e'']
  exact ⟨h1, h2, h3⟩
theorem side_alt {A : Nat → Nat → Prop} {S : Nat → Bool} (hs : ∀ x y, A x y → S y = !S x) : ∀ {r : List Nat}, Ch A r → ∀ (i : Nat) (hi : i < r.length) (h0 : 0 < r.length), S r[i] = (if i % 2 = 0 then S r[0] else !S r[0])
  | r, c, 0, hi, h0 => by simp
  | r, c, i + 1, hi, h0 => by
    have ih := side_alt hs c i (by omega) h0
    have st := hs _ _ (c.get i hi)
    rw [st, ih]
    by_cases h : i % 2 = 0
    · rw [if_pos h, if_neg (by omega)]
    · rw [if_neg h, if_pos (by omega)]; simp
theorem Ring.even (R : Ring (Adj H W b G) r) : r.length % 2 = 0 := by
  have hl := R.len
  have hs : ∀ x y, Adj H W b G x y → decide (y < H) = !decide (x < H) := fun x y h => by
    have := h.side
    by_cases hx : x < H
    · have hy : ¬ y < H := this.mp hx
      rw [decide_eq_true hx, decide_eq_false hy]; rfl
    · have hy : y < H := by
        by_cases hy : y < H
        · exact hy
        · exact absurd (this.mpr hy) hx
      rw [decide_eq_false hx, decide_eq_true hy]; rfl
  have h1 := side_alt (S := fun x => decide (x < H)) hs R.ch (r.length - 1) (by omega) (by omega)
  have h2 := hs _ _ (R.adj (r.length - 1) (by omega))
  have e : nxt r (r.length - 1) (by omega) = r[0]'(by omega) := by
    unfold nxt
    rw [dif_neg (by omega)]
  rw [e] at h2
  have h1' : decide (r[r.length - 1]'(by omega) < H) = (if (r.length - 1) % 2 = 0 then decide (r[0]'(by omega) < H) else !decide (r[0]'(by omega) < H)) := h1
  rw [h1'] at h2
  by_cases h : (r.length - 1) % 2 = 0
  · rw [if_pos h] at h2
    cases hb : decide (r[0]'(by omega) < H) <;> rw [hb] at h2 <;> cases h2
  · omega
end
def evs {α : Type} : List α → List α
  | [] => []
  | [x] => [x]
  | x :: _ :: r => x :: evs r
def ods {α : Type} : List α → List α
  | [] => []
  | [_] => []
  | _ :: y :: r => y :: ods r
theorem evs_sub {α : Type} : ∀ (l : List α), (evs l).Sublist l
  | [] => .slnil
  | [x] => List.Sublist.refl _
  | x :: y :: r => ((evs_sub r).cons y).cons_cons x
theorem ods_sub {α : Type} : ∀ (l : List α), (ods l).Sublist l
  | [] => .slnil
  | [x] => .cons x .slnil
  | x :: y :: r => ((ods_sub r).cons_cons y).cons x
theorem mem_evs_ods {α : Type} {x : α} : ∀ {l : List α}, x ∈ l → x ∈ evs l ∨ x ∈ ods l
  | [y], h => .inl h
  | y :: z :: r, h => by
    rcases List.mem_cons.mp h with e | h
    · exact .inl (by rw [e]; exact List.mem_cons_self)
    · rcases List.mem_cons.mp h with e | h
      · exact .inr (by rw [e]; exact List.mem_cons_self)
      · rcases mem_evs_ods h with q | q
        · exact .inl (List.mem_cons_of_mem _ q)
        · exact .inr (List.mem_cons_of_mem _ q)
theorem evs_ods_apart {α : Type} {x : α} : ∀ {l : List α}, l.Nodup → x ∈ evs l → x ∈ ods l → False
  | [], _, h, _ => by cases h
  | [y], _, _, h => by cases h
  | y :: z :: r, nd, h1, h2 => by
    obtain ⟨n1, nd⟩ := List.nodup_cons.mp nd
    obtain ⟨n2, nd⟩ := List.nodup_cons.mp nd
    rcases List.mem_cons.mp h1 with e1 | k1
    · rcases List.mem_cons.mp h2 with e2 | k2
      · exact n1 (by rw [← e1, e2]; exact List.mem_cons_self)
      · exact n1 (by rw [← e1]; exact List.mem_cons_of_mem _ ((ods_sub r).mem k2))
    · rcases List.mem_cons.mp h2 with e2 | k2
      · exact n2 (by rw [← e2]; exact (evs_sub r).mem k1)
      · exact evs_ods_apart nd k1 k2
def alt : List Int → Int
  | [] => 0
  | x :: r => x - alt r
def sumL : List Int → Int
  | [] => 0
  | x :: r => x + sumL r
theorem alt_evs_ods : ∀ (l : List Int), alt l = sumL (evs l) - sumL (ods l)
  | [] => rfl
  | [x] => by simp [alt, evs, ods, sumL]
  | x :: y :: r => by
    show x - (y - alt r) = (x + sumL (evs r)) - (y + sumL (ods r))
    rw [alt_evs_ods r]; omega
theorem evs_map {α β : Type} (f : α → β) : ∀ (l : List α), evs (l.map f) = (evs l).map f
  | [] => rfl
  | [x] => rfl
  | x :: y :: r => by
    show f x :: evs (r.map f) = f x :: (evs r).map f
    rw [evs_map f r]
theorem ods_map {α β : Type} (f : α → β) : ∀ (l : List α), ods (l.map f) = (ods l).map f
  | [] => rfl
  | [x] => rfl
  | x :: y :: r => by
    show f y :: ods (r.map f) = f y :: (ods r).map f
    rw [ods_map f r]
theorem alt_append (x : Int) : ∀ (l : List Int), alt (l ++ [x]) = alt l + (if l.length % 2 = 0 then x else -x)
  | [] => by simp [alt]
  | y :: r => by
    show y - alt (r ++ [x]) = y - alt r + _
    rw [alt_append x r, List.length_cons]
    by_cases h : r.length % 2 = 0
    · rw [if_pos h, if_neg (by omega)]; omega
    · rw [if_neg h, if_pos (by omega)]; omega
theorem alt_zip (f g : Nat → Int) : ∀ (l m : List Nat), l.length = m.length → alt ((l.zip m).map fun p => f p.1 + g p.2) = alt (l.map f) + alt (m.map g)
  | [], [], _ => rfl
  | x :: l, y :: m, h => by
    show (f x + g y) - alt ((l.zip m).map fun p => f p.1 + g p.2) = (f x - alt (l.map f)) + (g y - alt (m.map g))
    rw [alt_zip f g l m (by simpa using h)]; omega
  | [], _ :: _, h => by cases h
  | _ :: _, [], h => by cases h
theorem alt_rot (f : Nat → Int) (r : List Nat) (h : r.length % 2 = 0) : alt ((rot r).map f) = - alt (r.map f) := by
  cases r with
  | nil => rfl
  | cons x r =>
    show alt ((r ++ [x]).map f) = -(f x - alt (r.map f))
    rw [List.map_append]
    show alt (r.map f ++ [f x]) = _
    rw [alt_append, List.length_map]
    rw [List.length_cons] at h
    rw [if_neg (by omega)]; omega
theorem alt_row {H W : Nat} {b : Int} {G : Nat → Nat → Int} {r : List Nat} (R : Ring (Adj H W b G) r) (i : Nat) (hi : i < H) : alt ((places H r).map fun p => if p.1 = i then 1 else 0) = 0 := by
  have e : (places H r).map (fun p => if p.1 = i then (1 : Int) else 0) = (r.zip (rot r)).map fun p => (if p.1 = i then 1 else 0) + (if p.2 = i then 1 else 0) := by
    unfold places
    rw [List.map_map]
    refine List.map_congr_left fun q hq => ?_
    obtain ⟨t, ht, e⟩ := List.mem_iff_getElem.mp hq
    have ht' : t < r.length := by rw [List.length_zip, rot_length] at ht; omega
    have e' : (r.zip (rot r))[t]? = some q := by rw [List.getElem?_eq_getElem ht, e]
    rw [List.getElem?_zip_eq_some] at e'
    obtain ⟨e1, e2⟩ := e'
    rw [rot_get t ht'] at e2
    rw [List.getElem?_eq_getElem ht'] at e1
    have ea := R.adj t ht'
    have q1 : q.1 = r[t] := (Option.some.inj e1).symm
    have q2 : q.2 = nxt r t ht' := (Option.some.inj e2).symm
    rw [← q1, ← q2] at ea
    show (if (place H q.1 q.2).1 = i then (1 : Int) else 0) = _
    unfold place
    rcases ea with ⟨h1, h2, _⟩ | ⟨h1, h2, _⟩
    · have : min q.1 q.2 = q.1 := by omega
      rw [this, if_neg (show ¬ q.2 = i by omega)]; omega
    · have : min q.1 q.2 = q.2 := by omega
      rw [this, if_neg (show ¬ q.1 = i by omega)]; omega
  rw [e, alt_zip (fun x => if x = i then 1 else 0) (fun x => if x = i then 1 else 0) r (rot r) (rot_length r).symm, alt_rot _ r R.even]
  omega
theorem alt_col {H W : Nat} {b : Int} {G : Nat → Nat → Int} {r : List Nat} (R : Ring (Adj H W b G) r) (j : Nat) : alt ((places H r).map fun p => if p.2 = j then 1 else 0) = 0 := by
  have e : (places H r).map (fun p => if p.2 = j then (1 : Int) else 0) = (r.zip (rot r)).map fun p => (if p.1 = j + H then 1 else 0) + (if p.2 = j + H then 1 else 0) := by
    unfold places
    rw [List.map_map]
    refine List.map_congr_left fun q hq => ?_
    obtain ⟨t, ht, e⟩ := List.mem_iff_getElem.mp hq
    have ht' : t < r.length := by rw [List.length_zip, rot_length] at ht; omega
    have e' : (r.zip (rot r))[t]? = some q := by rw [List.getElem?_eq_getElem ht, e]
    rw [List.getElem?_zip_eq_some] at e'
    obtain ⟨e1, e2⟩ := e'
    rw [rot_get t ht'] at e2
    rw [List.getElem?_eq_getElem ht'] at e1
    have ea := R.adj t ht'
    have q1 : q.1 = r[t] := (Option.some.inj e1).symm
    have q2 : q.2 = nxt r t ht' := (Option.some.inj e2).symm
    rw [← q1, ← q2] at ea
    show (if (place H q.1 q.2).2 = j then (1 : Int) else 0) = _
    unfold place
    rcases ea with ⟨h1, h2, _⟩ | ⟨h1, h2, _⟩
    · have : max q.1 q.2 = q.2 := by omega
      show (if max q.1 q.2 - H = j then (1 : Int) else 0) = _
      rw [this, if_neg (show ¬ q.1 = j + H by omega)]
      by_cases hq2 : q.2 = j + H
      · rw [if_pos (by omega), if_pos hq2]; rfl
      · rw [if_neg (by omega), if_neg hq2]; rfl
    · have : max q.1 q.2 = q.1 := by omega
      show (if max q.1 q.2 - H = j then (1 : Int) else 0) = _
      rw [this, if_neg (show ¬ q.2 = j + H by omega)]
      by_cases hq2 : q.1 = j + H
      · rw [if_pos (by omega), if_pos hq2]; rfl
      · rw [if_neg (by omega), if_neg hq2]; rfl
  rw [e, alt_zip (fun x => if x = j + H then 1 else 0) (fun x => if x = j + H then 1 else 0) r (rot r) (rot_length r).symm, alt_rot _ r R.even]
  omega
def add (G : Nat → Nat → Int) (ps : List (Nat × Nat)) (c : Int) : Nat → Nat → Int := fun i j => G i j + c * sumL (ps.map fun p => if p = (i, j) then 1 else 0)
theorem sumL_map_zero {α : Type} {f : α → Int} : ∀ {l : List α}, (∀ x ∈ l, f x = 0) → sumL (l.map f) = 0
  | [], _ => rfl
  | x :: l, h => by
    show f x + sumL (l.map f) = 0
    rw [h x List.mem_cons_self, sumL_map_zero fun y hy => h y (List.mem_cons_of_mem _ hy)]; rfl
theorem hit_out {ps : List (Nat × Nat)} {i j : Nat} (h : (i, j) ∉ ps) : sumL (ps.map fun p => if p = (i, j) then 1 else 0) = 0 :=
  sumL_map_zero fun p hp => if_neg fun e => h (by rw [← e]; exact hp)
theorem hit_in : ∀ {ps : List (Nat × Nat)} {i j : Nat}, ps.Nodup → (i, j) ∈ ps → sumL (ps.map fun p => if p = (i, j) then 1 else 0) = 1
  | p :: r, i, j, nd, h => by
    obtain ⟨n1, nd⟩ := List.nodup_cons.mp nd
    show (if p = (i, j) then (1 : Int) else 0) + sumL (r.map fun p => if p = (i, j) then 1 else 0) = 1
    rcases List.mem_cons.mp h with e | h
    · rw [if_pos e.symm, hit_out (by rw [e]; exact n1)]; rfl
    · rw [if_neg (fun e => n1 (by rw [e]; exact h)), hit_in nd h]; rfl
def shift (G : Nat → Nat → Int) (ps : List (Nat × Nat)) (c : Int) : Nat → Nat → Int := add (add G (evs ps) c) (ods ps) (-c)
theorem shift_val (G : Nat → Nat → Int) (ps : List (Nat × Nat)) (c : Int) (i j : Nat) : shift G ps c i j = G i j + c * alt (ps.map fun p => if p = (i, j) then 1 else 0) := by
  unfold shift add
  rw [alt_evs_ods, evs_map, ods_map, Int.mul_sub, Int.neg_mul]
  omega
theorem sumN_alt (f : Nat → (Nat × Nat) → Int) (n : Nat) : ∀ (ps : List (Nat × Nat)), sumN (fun j => alt (ps.map (f j))) n = alt (ps.map fun p => sumN (fun j => f j p) n)
  | [] => by
    show sumN (fun _ => 0) n = 0
    exact sumN_zero n
  | p :: r => by
    show sumN (fun j => f j p - alt (r.map (f j))) n = sumN (fun j => f j p) n - alt (r.map fun p => sumN (fun j => f j p) n)
    rw [← sumN_alt f n r]
    have e : ∀ m, sumN (fun j => f j p - alt (r.map (f j))) m = sumN (fun j => f j p) m - sumN (fun j => alt (r.map (f j))) m := by
      intro m
      induction m with
      | zero => rfl
      | succ m ih =>
        show sumN (fun j => f j p - alt (r.map (f j))) m + (f m p - alt (r.map (f m))) = (sumN (fun j => f j p) m + f m p) - (sumN (fun j => alt (r.map (f j))) m + alt (r.map (f m)))
        rw [ih]; omega
    exact e n
section
variable {H W : Nat} {b : Int} {G : Nat → Nat → Int} {r : List Nat}
theorem shift_zero (z : Zero H W G) (R : Ring (Adj H W b G) r) (c : Int) : Zero H W (shift G (places H r) c) where
  rows := fun i hi => by
    rw [sumN_congr (g := fun j => G i j + c * alt ((places H r).map fun p => if p = (i, j) then 1 else 0)) fun j _ => shift_val _ _ _ _ _, sumN_add, sumN_mul, z.rows i hi, sumN_alt (fun j p => if p = (i, j) then 1 else 0)]
    have e : (places H r).map (fun p => sumN (fun j => if p = (i, j) then (1 : Int) else 0) W) = (places H r).map fun p => if p.1 = i then 1 else 0 := by
      refine List.map_congr_left fun p hp => ?_
      obtain ⟨_, hw, _⟩ := R.places_loose hp
      by_cases h1 : p.1 = i
      · rw [if_pos h1, sumN_congr (g := fun j => if j = p.2 then 1 else 0) fun j _ => ?_, sumN_ite, if_pos hw]
        by_cases h2 : j = p.2
        · rw [if_pos h2, if_pos (by rw [h2, ← h1])]
        · rw [if_neg h2, if_neg (fun e => h2 (by rw [e]))]
      · rw [if_neg h1, sumN_congr (g := fun _ => 0) fun j _ => if_neg fun e => h1 (by rw [e]), sumN_zero]
    rw [e, alt_row R i hi]
    omega
  cols := fun j hj => by
    rw [sumN_congr (g := fun i => G i j + c * alt ((places H r).map fun p => if p = (i, j) then 1 else 0)) fun i _ => shift_val _ _ _ _ _, sumN_add, sumN_mul, z.cols j hj, sumN_alt (fun i p => if p = (i, j) then 1 else 0)]
    have e : (places H r).map (fun p => sumN (fun i => if p = (i, j) then (1 : Int) else 0) H) = (places H r).map fun p => if p.2 = j then 1 else 0 := by
      refine List.map_congr_left fun p hp => ?_
      obtain ⟨hh, _, _⟩ := R.places_loose hp
      by_cases h1 : p.2 = j
      · rw [if_pos h1, sumN_congr (g := fun i => if i = p.1 then 1 else 0) fun i _ => ?_, sumN_ite, if_pos hh]
        by_cases h2 : i = p.1
        · rw [if_pos h2, if_pos (by rw [h2, ← h1])]
        · rw [if_neg h2, if_neg (fun e => h2 (by rw [e]))]
      · rw [if_neg h1, sumN_congr (g := fun _ => 0) fun i _ => if_neg fun e => h1 (by rw [e]), sumN_zero]
    rw [e, alt_col R j]
    omega
theorem shift_at (R : Ring (Adj H W b G) r) (c : Int) (i j : Nat) : (((i, j) ∈ evs (places H r) ∧ shift G (places H r) c i j = G i j + c) ∨ ((i, j) ∈ ods (places H r) ∧ shift G (places H r) c i j = G i j - c)) ∨ ((i, j) ∉ places H r ∧ shift G (places H r) c i j = G i j) := by
  have nd := R.places_nodup
  have e : shift G (places H r) c i j = (G i j + c * sumL ((evs (places H r)).map fun p => if p = (i, j) then 1 else 0)) + (-c) * sumL ((ods (places H r)).map fun p => if p = (i, j) then 1 else 0) := rfl
  by_cases h1 : (i, j) ∈ evs (places H r)
  · have h2 : (i, j) ∉ ods (places H r) := fun h => evs_ods_apart nd h1 h
    rw [hit_in (nd.sublist (evs_sub _)) h1, hit_out h2] at e
    exact .inl (.inl ⟨h1, by omega⟩)
  · by_cases h2 : (i, j) ∈ ods (places H r)
    · rw [hit_out h1, hit_in (nd.sublist (ods_sub _)) h2] at e
      exact .inl (.inr ⟨h2, by omega⟩)
    · rw [hit_out h1, hit_out h2] at e
      exact .inr ⟨fun h => (mem_evs_ods h).elim h1 h2, by omega⟩
end
def In (b v0 v : Int) : Prop := ∃ q : Int, b * q ≤ v0 ∧ v0 ≤ b * q + b ∧ b * q ≤ v ∧ v ≤ b * q + b ∧ (v0 % b = 0 → v = v0)
theorem In.refl {b : Int} (hb : 0 < b) (v : Int) : In b v v := by
  have h1 := Int.mul_ediv_add_emod v b
  have h2 := Int.emod_nonneg v (show b ≠ 0 by omega)
  have h3 := Int.emod_lt_of_pos v hb
  exact ⟨v / b, by omega, by omega, by omega, by omega, fun _ => rfl⟩
theorem loose_rest {b v q : Int} (hb : 0 < b) (h1 : b * q ≤ v) (h2 : v ≤ b * q + b) (hl : Ls b v) : v % b = v - b * q ∧ b * q < v ∧ v < b * q + b := by
  have hne : v ≠ b * q := fun e => hl (by rw [e]; exact Int.mul_emod_right b q)
  have hne2 : v ≠ b * q + b := fun e => hl (by rw [e, show b * q + b = b * (q + 1) by rw [Int.mul_add]; omega]; exact Int.mul_emod_right b (q + 1))
  refine ⟨?_, by omega, by omega⟩
  have e : v = (v - b * q) + b * q := by omega
  rw [e, Int.add_mul_emod_self_left, Int.emod_eq_of_lt (by omega) (by omega)]
  omega
theorem In.up {b v0 v c : Int} (hb : 0 < b) (h : In b v0 v) (hl : Ls b v) (h0 : 0 ≤ c) (hc : c ≤ b - v % b) : In b v0 (v + c) := by
  obtain ⟨q, h1, h2, h3, h4, h5⟩ := h
  obtain ⟨e, l1, l2⟩ := loose_rest hb h3 h4 hl
  exact ⟨q, h1, h2, by omega, by omega, fun hz => absurd (by rw [h5 hz]; exact hz) hl⟩
theorem In.down {b v0 v c : Int} (hb : 0 < b) (h : In b v0 v) (hl : Ls b v) (h0 : 0 ≤ c) (hc : c ≤ v % b) : In b v0 (v - c) := by
  obtain ⟨q, h1, h2, h3, h4, h5⟩ := h
  obtain ⟨e, l1, l2⟩ := loose_rest hb h3 h4 hl
  exact ⟨q, h1, h2, by omega, by omega, fun hz => absurd (by rw [h5 hz]; exact hz) hl⟩
theorem up_whole {b v : Int} (hb : 0 < b) : (v + (b - v % b)) % b = 0 := by
  have h1 := Int.mul_ediv_add_emod v b
  have e : v + (b - v % b) = b * (v / b + 1) := by rw [Int.mul_add]; omega
  rw [e]
  exact Int.mul_emod_right b _
theorem down_whole {b v : Int} : (v - v % b) % b = 0 := by
  have h1 := Int.mul_ediv_add_emod v b
  have e : v - v % b = b * (v / b) := by omega
  rw [e]
  exact Int.mul_emod_right b _
theorem In.near {b v0 v : Int} (hb : 0 < b) (h : In b v0 v) (hv : v % b = 0) : -b < v - v0 ∧ v - v0 < b := by
  obtain ⟨q, h1, h2, h3, h4, h5⟩ := h
  by_cases hz : v0 % b = 0
  · rw [h5 hz]; omega
  · obtain ⟨_, l1, l2⟩ := loose_rest hb h1 h2 hz
    omega
def cN (p : Nat → Nat) : Nat → Nat
  | 0 => 0
  | n + 1 => cN p n + p n
theorem cN_le {p q : Nat → Nat} : ∀ {n : Nat}, (∀ i, i < n → p i ≤ q i) → cN p n ≤ cN q n
  | 0, _ => Nat.le_refl _
  | n + 1, h => Nat.add_le_add (cN_le fun i hi => h i (by omega)) (h n (by omega))
theorem cN_lt {p q : Nat → Nat} {k : Nat} : ∀ {n : Nat}, (∀ i, i < n → p i ≤ q i) → k < n → p k < q k → cN p n < cN q n
  | n + 1, h, hk, hl => by
    show cN p n + p n < cN q n + q n
    by_cases e : k = n
    · subst e
      have := cN_le (p := p) (q := q) (n := k) fun i hi => h i (by omega)
      omega
    · have := cN_lt (n := n) (fun i hi => h i (by omega)) (by omega) hl
      have := h n (by omega)
      omega
def ind (b v : Int) : Nat := if Ls b v then 1 else 0
def cnt (H W : Nat) (b : Int) (G : Nat → Nat → Int) : Nat := cN (fun i => cN (fun j => ind b (G i j)) W) H
theorem ind_le {b v v' : Int} (h : Ls b v' → Ls b v) : ind b v' ≤ ind b v := by
  unfold ind
  by_cases h1 : Ls b v'
  · rw [if_pos h1, if_pos (h h1)]; exact Nat.le_refl _
  · rw [if_neg h1]; exact Nat.zero_le _
theorem cnt_lt {H W : Nat} {b : Int} {G G' : Nat → Nat → Int} (h : ∀ i j, i < H → j < W → Ls b (G' i j) → Ls b (G i j)) {i j : Nat} (hi : i < H) (hj : j < W) (h1 : Ls b (G i j)) (h2 : ¬ Ls b (G' i j)) : cnt H W b G' < cnt H W b G := by
  refine cN_lt (fun i' hi' => cN_le fun j' hj' => ind_le (h i' j' hi' hj')) hi (cN_lt (fun j' hj' => ind_le (h i j' hi hj')) hj ?_)
  unfold ind
  rw [if_pos h1, if_neg h2]
  decide
structure Fit (H W : Nat) (b : Int) (G0 G : Nat → Nat → Int) : Prop where
  zero : Zero H W G
  near : ∀ i j, i < H → j < W → In b (G0 i j) (G i j)
theorem step {H W : Nat} {b : Int} {G0 G : Nat → Nat → Int} {r : List Nat} {c : Int} (hb : 0 < b) (F : Fit H W b G0 G) (R : Ring (Adj H W b G) r)
    (h1 : ∀ p ∈ evs (places H r), c ≤ b - G p.1 p.2 % b) (h2 : ∀ p ∈ ods (places H r), c ≤ G p.1 p.2 % b) (hm : (∃ p ∈ evs (places H r), c = b - G p.1 p.2 % b) ∨ (∃ p ∈ ods (places H r), c = G p.1 p.2 % b)) :
    Fit H W b G0 (shift G (places H r) c) ∧ (∀ i j, i < H → j < W → Ls b (shift G (places H r) c i j) → Ls b (G i j)) ∧ cnt H W b (shift G (places H r) c) < cnt H W b G := by
  have hc : 0 ≤ c := by
    rcases hm with ⟨p, _, e⟩ | ⟨p, _, e⟩
    · have := Int.emod_lt_of_pos (G p.1 p.2) hb; omega
    · have := Int.emod_nonneg (G p.1 p.2) (show b ≠ 0 by omega); omega
  have le : ∀ i j, (i, j) ∈ evs (places H r) → Ls b (G i j) := fun i j h => (R.places_loose ((evs_sub _).mem h)).2.2
  have lo : ∀ i j, (i, j) ∈ ods (places H r) → Ls b (G i j) := fun i j h => (R.places_loose ((ods_sub _).mem h)).2.2
  have sub : ∀ i j, i < H → j < W → Ls b (shift G (places H r) c i j) → Ls b (G i j) := fun i j _ _ h => by
    rcases shift_at R c i j with (⟨hm, _⟩ | ⟨hm, _⟩) | ⟨_, e⟩
    · exact le i j hm
    · exact lo i j hm
    · rw [e] at h; exact h
  refine ⟨⟨shift_zero F.zero R c, fun i j hi hj => ?_⟩, sub, ?_⟩
  · rcases shift_at R c i j with (⟨hm, e⟩ | ⟨hm, e⟩) | ⟨_, e⟩
    · rw [e]; exact (F.near i j hi hj).up hb (le i j hm) hc (h1 _ hm)
    · rw [e]; exact (F.near i j hi hj).down hb (lo i j hm) hc (h2 _ hm)
    · rw [e]; exact F.near i j hi hj
  · rcases hm with ⟨p, hp, e⟩ | ⟨p, hp, e⟩
    · obtain ⟨q1, q2, q3⟩ := R.places_loose ((evs_sub _).mem hp)
      refine cnt_lt sub q1 q2 q3 fun hl => hl ?_
      rcases shift_at R c p.1 p.2 with (⟨_, e2⟩ | ⟨hm, _⟩) | ⟨hm, _⟩
      · rw [e2, e]; exact up_whole hb
      · exact (evs_ods_apart R.places_nodup hp hm).elim
      · exact absurd ((evs_sub _).mem hp) hm
    · obtain ⟨q1, q2, q3⟩ := R.places_loose ((ods_sub _).mem hp)
      refine cnt_lt sub q1 q2 q3 fun hl => hl ?_
      rcases shift_at R c p.1 p.2 with (⟨hm, _⟩ | ⟨_, e2⟩) | ⟨hm, _⟩
      · exact (evs_ods_apart R.places_nodup hm hp).elim
      · rw [e2, e]; exact down_whole
      · exact absurd ((ods_sub _).mem hp) hm
theorem sumN_neg (f : Nat → Int) : ∀ n, sumN (fun i => - f i) n = - sumN f n
  | 0 => rfl
  | n + 1 => by
    show sumN (fun i => - f i) n + - f n = -(sumN f n + f n)
    rw [sumN_neg f n]; omega
structure Told (h w : Nat) (b : Int) (T N : Nat → Nat → Int) : Prop where
  each : ∀ i j, i < h → j < w → -b < N i j * b - T i j ∧ N i j * b - T i j < b
  row : ∀ i, i < h → -b < sumN (fun j => N i j) w * b - sumN (fun j => T i j) w ∧ sumN (fun j => N i j) w * b - sumN (fun j => T i j) w < b
  col : ∀ j, j < w → -b < sumN (fun i => N i j) h * b - sumN (fun i => T i j) h ∧ sumN (fun i => N i j) h * b - sumN (fun i => T i j) h < b
  all : -b < sumN (fun i => sumN (fun j => N i j) w) h * b - sumN (fun i => sumN (fun j => T i j) w) h ∧ sumN (fun i => sumN (fun j => N i j) w) h * b - sumN (fun i => sumN (fun j => T i j) w) h < b
structure Wide (h w : Nat) (T G0 : Nat → Nat → Int) : Prop where
  inner : ∀ i j, i < h → j < w → G0 i j = T i j
  row : ∀ i, i < h → G0 i w = - sumN (fun j => T i j) w
  col : ∀ j, j < w → G0 h j = - sumN (fun i => T i j) h
  all : G0 h w = sumN (fun i => sumN (fun j => T i j) w) h
theorem Wide.zero {h w : Nat} {T G0 : Nat → Nat → Int} (x : Wide h w T G0) : Zero (h + 1) (w + 1) G0 where
  rows := fun i hi => by
    show sumN (fun j => G0 i j) w + G0 i w = 0
    by_cases he : i < h
    · rw [x.row i he, sumN_congr (g := fun j => T i j) fun j hj => x.inner i j he hj]; omega
    · have e : i = h := by omega
      subst e
      rw [x.all, sumN_congr (g := fun j => - sumN (fun i => T i j) i) fun j hj => x.col j hj, sumN_neg, sumN_swap]; omega
  cols := fun j hj => by
    show sumN (fun i => G0 i j) h + G0 h j = 0
    by_cases he : j < w
    · rw [x.col j he, sumN_congr (g := fun i => T i j) fun i hi => x.inner i j hi he]; omega
    · have e : j = w := by omega
      subst e
      rw [x.all, sumN_congr (g := fun i => - sumN (fun k => T i k) j) fun i hi => x.row i hi, sumN_neg]; omega
end RG
namespace RG
def gAt (g : List (List Int)) (i j : Nat) : Int := (g.getD i []).getD j 0
structure Rect (g : List (List Int)) (H W : Nat) : Prop where
  tall : g.length = H
  wide : ∀ r ∈ g, r.length = W
theorem Rect.row {g : List (List Int)} {H W : Nat} (x : Rect g H W) {i : Nat} (h : i < H) : (g.getD i []).length = W ∧ g[i]? = some (g.getD i []) := by
  have hi : i < g.length := by rw [x.tall]; exact h
  have e : g[i]? = some g[i] := List.getElem?_eq_getElem hi
  have e2 : g.getD i [] = g[i] := by rw [List.getD_eq_getElem?_getD, e]; rfl
  rw [e2]
  exact ⟨x.wide _ (List.getElem_mem hi), e⟩
section
variable {g : List (List Int)} {H W : Nat} {b : Int}
end
structure Sett (H W : Nat) (b : Int) (G0 : Nat → Nat → Int) (g : List (List Int)) : Prop where
  rect : Rect g H W
  fit : Fit H W b G0 (gAt g)
  small : H + W ≤ 50
end RG
namespace PU
open PySem L2
def drawnI (x k : Int) : Int := (((x + 104729 * k + 17) * 69621 % 2147483647) * ((x + 104729 * k + 17) * 69621 % 2147483647) + 3 * ((x + 104729 * k + 17) * 69621 % 2147483647) + k) % 2147483629
def mixI (c k : Int) : Int := (((c + 7919 * k + 1) * 48271 % 2147483647) * ((c + 7919 * k + 1) * 48271 % 2147483647) + 7 * ((c + 7919 * k + 1) * 48271 % 2147483647) + k) % 2147483629
def wideN (n : Int) : Nat := (1 + n % 5).toNat
def tallN (n : Int) : Nat := (1 + n / 5 % 5).toNat
def highI (h : Int) (n : Int) : Int := [3, 20, 100, h].getD (n / 25 % 4).toNat 0
def rowI (h n : Int) (k : Nat) : List Int := (List.range (wideN n)).map fun (j : Nat) => drawnI (drawnI n k) j / 8 % highI h n
def tableI (h n : Int) : List (List Int) := (List.range (tallN n)).map fun k => rowI h n k
theorem wideN_le (n : Int) : 1 ≤ wideN n ∧ wideN n ≤ 5 := by unfold wideN; omega
theorem tallN_le (n : Int) : 1 ≤ tallN n ∧ tallN n ≤ 5 := by unfold tallN; omega
theorem highI_le {h : Int} (hh : 3 ≤ h ∧ h ≤ 100001) (n : Int) : 3 ≤ highI h n ∧ highI h n ≤ 100001 := by
  unfold highI
  have h4 : (n / 25 % 4).toNat = 0 ∨ (n / 25 % 4).toNat = 1 ∨ (n / 25 % 4).toNat = 2 ∨ (n / 25 % 4).toNat = 3 := by omega
  rcases h4 with e | e | e | e <;> rw [e] <;> simp <;> omega
structure Tab (t : List (List Int)) (w : Nat) : Prop where
  tall : 1 ≤ t.length ∧ t.length ≤ 5
  wide : 1 ≤ w ∧ w ≤ 5
  rows : ∀ r ∈ t, r.length = w
  vals : ∀ r ∈ t, ∀ v ∈ r, 0 ≤ v ∧ v ≤ 100000
theorem tab_of {h : Int} (hh : 3 ≤ h ∧ h ≤ 100001) (n : Int) : Tab (tableI h n) (wideN n) where
  tall := by unfold tableI; rw [List.length_map, List.length_range]; exact tallN_le n
  wide := wideN_le n
  rows := fun r hr => by
    unfold tableI at hr
    obtain ⟨k, _, rfl⟩ := List.mem_map.mp hr
    unfold rowI
    rw [List.length_map, List.length_range]
  vals := fun r hr v hv => by
    unfold tableI at hr
    obtain ⟨k, _, rfl⟩ := List.mem_map.mp hr
    unfold rowI at hv
    obtain ⟨j, _, rfl⟩ := List.mem_map.mp hv
    have h1 := highI_le hh n
    have h2 := Int.emod_nonneg (drawnI (drawnI n k) j / 8) (show highI h n ≠ 0 by omega)
    have h3 := Int.emod_lt_of_pos (drawnI (drawnI n k) j / 8) (show 0 < highI h n by omega)
    omega
theorem finish_rt (d : D) : finish (some (.rt d)) = some d := rfl
theorem sSeq_nx {f g : Fs} {δ δ' : Dl} (h : f δ = some (.nx δ')) : sSeq f g δ = g δ' := by unfold sSeq; rw [h]; rfl
theorem sSeq_rt {f g : Fs} {δ : Dl} {d : D} (h : f δ = some (.rt d)) : sSeq f g δ = some (.rt d) := by unfold sSeq; rw [h]; rfl
theorem sSet_of {f : Fe} {i : Nat} {δ : Dl} {d : D} (h : f δ = some d) : sSet i f δ = some (.nx (δ.set i (some d))) := by unfold sSet; rw [h]; rfl
theorem sRet_of {f : Fe} {δ : Dl} {d : D} (h : f δ = some d) : sRet f δ = some (.rt d) := by unfold sRet; rw [h]; rfl
theorem sIf_t {p : Fb} {f g : Fs} {δ : Dl} (h : p δ = some true) : sIf p f g δ = f δ := by unfold sIf; rw [h]; rfl
theorem sIf_f {p : Fb} {f g : Fs} {δ : Dl} (h : p δ = some false) : sIf p f g δ = g δ := by unfold sIf; rw [h]; rfl
theorem eOp_of {o : D → D → Option D} {f g : Fe} {δ : Dl} {x y d : D} (h1 : f δ = some x) (h2 : g δ = some y) (h3 : o x y = some d) : eOp o f g δ = some d := by
  unfold eOp
  rw [h1, h2]
  exact h3
theorem eCall_of {F : List D → Option D} {f : Fa} {δ : Dl} {xs : List D} {d : D} (h1 : f δ = some xs) (h3 : F xs = some d) : eCall F f δ = some d := by
  unfold eCall
  rw [h1]
  exact h3
theorem aCons_of {f : Fe} {g : Fa} {δ : Dl} {x : D} {xs : List D} (h1 : f δ = some x) (h2 : g δ = some xs) : aCons f g δ = some (x :: xs) := by
  unfold aCons
  rw [h1, h2]
  rfl
theorem oI_of {C : Int → Int → Bool} {r : Int → Int → D} {i j : Int} (h : C i j = true) : oI C r (.int i) (.int j) = some (r i j) := by
  show (if C i j then some (r i j) else none) = _
  rw [if_pos h]
theorem mul_of {i j : Int} (h : cMul i j = true) : oMul (.int i) (.int j) = some (.int (i * j)) := by
  show (if cMul i j then some (PyData.int (i * j)) else none) = _
  rw [if_pos h]
theorem cMul_l {i j : Int} (h1 : -(2 ^ 64) < i) (h2 : i < 2 ^ 64) : cMul i j = true := by
  unfold cMul
  rw [decide_eq_true h1, decide_eq_true h2]
  simp
theorem cMul_r {i j : Int} (h1 : -(2 ^ 64) < j) (h2 : j < 2 ^ 64) : cMul i j = true := by
  unfold cMul
  rw [decide_eq_true h1, decide_eq_true h2]
  simp
theorem div_of {i j : Int} (h : 0 < j) (h2 : j < 1073741824) : oDiv (.int i) (.int j) = some (.int (i / j)) := oI_of (by
  unfold cDiv
  rw [decide_eq_true h, decide_eq_true h2]
  rfl)
theorem mod_of {i j : Int} (h : 0 < j) : oMod (.int i) (.int j) = some (.int (i % j)) := oI_of (by
  unfold cMod
  exact decide_eq_true h)
theorem fit_of {n : Nat} (h : n ≤ 16777216) : fit n = true := decide_eq_true h
theorem lcF_map {α : Type} {gf : Fg} {ct : Fb} {fe : Fe} {δ : Dl} {e g : α → D} : ∀ {xs : List α}, (∀ x ∈ xs, ∃ δ1, gf (e x) δ = some δ1 ∧ ct δ1 = some true ∧ fe δ1 = some (g x)) → lcF gf ct fe δ (xs.map e) = some (xs.map g)
  | [], _ => rfl
  | x :: xs, h => by
    obtain ⟨δ1, h1, h2, h3⟩ := h x List.mem_cons_self
    rw [List.map_cons, List.map_cons]
    unfold lcF
    rw [h1]
    show (ct δ1).bind _ = _
    rw [h2]
    show (fe δ1).bind _ = _
    rw [h3]
    show (lcF gf ct fe δ (xs.map e)).bind _ = _
    rw [lcF_map fun y hy => h y (List.mem_cons_of_mem _ hy)]
    rfl
theorem lcF_filter {α : Type} {gf : Fg} {ct : Fb} {fe : Fe} {δ : Dl} {e g : α → D} {p : α → Bool} : ∀ {xs : List α}, (∀ x ∈ xs, ∃ δ1, gf (e x) δ = some δ1 ∧ ct δ1 = some (p x) ∧ (p x = true → fe δ1 = some (g x))) → lcF gf ct fe δ (xs.map e) = some ((xs.filter p).map g)
  | [], _ => rfl
  | x :: xs, h => by
    obtain ⟨δ1, h1, h2, h3⟩ := h x List.mem_cons_self
    rw [List.map_cons]
    unfold lcF
    rw [h1]
    show (ct δ1).bind _ = _
    rw [h2]
    cases hp : p x with
    | true =>
      show (fe δ1).bind _ = _
      rw [h3 hp]
      show (lcF gf ct fe δ (xs.map e)).bind _ = _
      rw [lcF_filter fun y hy => h y (List.mem_cons_of_mem _ hy), List.filter_cons_of_pos hp]
      rfl
    | false =>
      show lcF gf ct fe δ (xs.map e) = _
      rw [lcF_filter fun y hy => h y (List.mem_cons_of_mem _ hy), List.filter_cons_of_neg (by rw [hp]; simp)]
theorem eLc_map {α : Type} {fi : Fi} {sel : List (Option Nat)} {gf : Fg} {ct : Fb} {fe : Fe} {δ : Dl} {e g : α → D} {xs : List α} (hi : fi δ = some (xs.map e)) (hl : xs.length ≤ 16777216) (h : ∀ x ∈ xs, ∃ δ1, gf (e x) (selD sel δ) = some δ1 ∧ ct δ1 = some true ∧ fe δ1 = some (g x)) :
    eLc fi sel gf ct fe δ = some (.list (xs.map g)) := by
  unfold eLc
  rw [hi]
  show (if fit (xs.map e).length then _ else _) = _
  rw [if_pos (fit_of (by rw [List.length_map]; exact hl)), lcF_map h]
  rfl
theorem eLc_filter {α : Type} {fi : Fi} {sel : List (Option Nat)} {gf : Fg} {ct : Fb} {fe : Fe} {δ : Dl} {e g : α → D} {p : α → Bool} {xs : List α} (hi : fi δ = some (xs.map e)) (hl : xs.length ≤ 16777216)
    (h : ∀ x ∈ xs, ∃ δ1, gf (e x) (selD sel δ) = some δ1 ∧ ct δ1 = some (p x) ∧ (p x = true → fe δ1 = some (g x))) : eLc fi sel gf ct fe δ = some (.list ((xs.filter p).map g)) := by
  unfold eLc
  rw [hi]
  show (if fit (xs.map e).length then _ else _) = _
  rw [if_pos (fit_of (by rw [List.length_map]; exact hl)), lcF_filter h]
  rfl
theorem atI_of {α : Type} {l : List α} {i : Nat} {x : α} (h : l[i]? = some x) : atI l (i : Int) = some x := by
  have hi := (List.getElem?_eq_some_iff.mp h).1
  unfold atI ixN
  rw [if_pos (by omega), if_pos (by omega)]
  show l[((i : Nat) : Int).toNat]? = some x
  rw [Int.toNat_natCast]
  exact h
theorem add_of (i j : Int) : oAdd (.int i) (.int j) = some (.int (i + j)) := rfl
theorem sub_of (i j : Int) : oSub (.int i) (.int j) = some (.int (i - j)) := rfl
theorem rng_of (n : Nat) (h : n ≤ 1000) : rngOf [.int (n : Int)] = some ((List.range n).map fun (i : Nat) => PyData.int (i : Int)) := by
  have hc : cR (n : Int) = true := by
    unfold cR
    rw [decide_eq_true (show -(2 ^ 62) ≤ (n : Int) by omega), decide_eq_true (show (n : Int) < 2 ^ 62 by omega)]
    rfl
  have e : rngOf [.int (n : Int)] = some (rngD 0 ((n : Int)).toNat) := by
    simp only [rngOf, hc, if_true]
  rw [e, Int.toNat_natCast]
  unfold rngD
  refine congrArg some (List.map_congr_left fun i _ => ?_)
  rw [Int.zero_add]
theorem iRng_of {f : Fe} {δ : Dl} {n : Nat} (hf : f δ = some (.int (n : Int))) (h : n ≤ 1000) : iRng (aCons f aNil) δ = some ((List.range n).map fun (i : Nat) => PyData.int (i : Int)) := by
  unfold iRng
  rw [aCons_of hf rfl, Option.bind_some, rng_of n h]
theorem iSeq_tup {f : Fe} {δ : Dl} {l : List D} (hf : f δ = some (.tuple l)) : iSeq f δ = some l := by unfold iSeq; rw [hf]; rfl
theorem len_tup {f : Fe} {δ : Dl} {l : List D} (hf : f δ = some (.tuple l)) : eCall fLen (aCons f aNil) δ = some (.int (l.length : Int)) := by
  rw [eCall_of (aCons_of hf rfl) rfl]
theorem ix_tup {f g : Fe} {δ : Dl} {l : List D} {i : Nat} {d : D} (hf : f δ = some (.tuple l)) (hg : g δ = some (.int (i : Int))) (h : l[i]? = some d) : eOp oIx f g δ = some d := eOp_of hf hg (atI_of h)
theorem ix_lst {f g : Fe} {δ : Dl} {l : List D} {i : Nat} {d : D} (hf : f δ = some (.list l)) (hg : g δ = some (.int (i : Int))) (h : l[i]? = some d) : eOp oIx f g δ = some d := eOp_of hf hg (atI_of h)
theorem get_int {r : List Int} {j : Nat} (h : j < r.length) : (r.map PyData.int)[j]? = some (.int (r.getD j 0)) := by
  rw [List.getElem?_map, List.getElem?_eq_getElem h, List.getD_eq_getElem?_getD, List.getElem?_eq_getElem h]
  rfl
theorem cB_of {f : Fe} {δ : Dl} {t : Bool} (hf : f δ = some (.bool t)) : cB f δ = some t := by unfold cB; rw [hf]; rfl
theorem oSeq_nx {f g : Fo} {δ δ' : Dl} {ds ds' : List D} (h : f δ ds = some (.nx δ', ds')) : oSeq f g δ ds = g δ' ds' := by unfold oSeq; rw [h]; rfl
theorem oLift_nx {f : Fs} {δ δ' : Dl} {ds : List D} (h : f δ = some (.nx δ')) : oLift f δ ds = some (.nx δ', ds) := by unfold oLift; rw [h]; rfl
theorem oApp_of {o : Nat} {f : Fe} {δ : Dl} {ds : List D} {d : D} (h : f δ = some d) (hl : ds.length ≤ 16000000) : oApp o f δ ds = some (.nx δ, ds ++ [d]) := by
  unfold oApp
  rw [h, Option.bind_some, if_pos (fit_of (by omega))]
theorem forO_build {α : Type} {gf : Fg} {body : Fo} {P : Dl → Prop} {e g : α → D} : ∀ {xs : List α} {δ : Dl} {ds : List D}, ds.length + xs.length ≤ 2000 →
    (∀ x ∈ xs, ∀ δ ds, P δ → ds.length ≤ 2000 → ∃ δ1 δ2, gf (e x) δ = some δ1 ∧ body δ1 ds = some (.nx δ2, ds ++ [g x]) ∧ P δ2) → P δ → ∃ δ', forO gf body (xs.map e) δ ds = some (.nx δ', ds ++ xs.map g) ∧ P δ'
  | [], δ, ds, _, _, h => ⟨δ, by simp [forO], h⟩
  | x :: xs, δ, ds, hl, st, h => by
    rw [List.length_cons] at hl
    obtain ⟨δ1, δ2, h1, h2, h3⟩ := st x List.mem_cons_self δ ds h (by omega)
    obtain ⟨δ', h4, h5⟩ := forO_build (xs := xs) (ds := ds ++ [g x]) (by rw [List.length_append, List.length_singleton]; omega) (fun y hy => st y (List.mem_cons_of_mem _ hy)) h3
    refine ⟨δ', ?_, h5⟩
    rw [List.map_cons]
    unfold forO
    rw [h1, Option.bind_some, h2, Option.bind_some]
    show forO gf body (xs.map e) δ2 (ds ++ [g x]) = _
    rw [h4, List.append_assoc]
    rfl
theorem emod_small {x m : Int} (h : 0 < m) (h2 : m < 2 ^ 64) : -(2 ^ 64) < x % m ∧ x % m < 2 ^ 64 := by
  have h1 := Int.emod_nonneg x (show m ≠ 0 by omega)
  have h3 := Int.emod_lt_of_pos x h
  omega
structure Rows (t : List (List Int)) (w : Nat) : Prop where
  tall : 1 ≤ t.length ∧ t.length ≤ 100
  wide : w ≤ 100
  rows : ∀ r ∈ t, r.length = w
theorem cOr_f {p q : Fb} {δ : Dl} (h1 : p δ = some false) : cOr p q δ = q δ := by unfold cOr; rw [h1]; rfl
theorem cOr_t {p q : Fb} {δ : Dl} (h1 : p δ = some true) : cOr p q δ = some true := by unfold cOr; rw [h1]; rfl
theorem cAnd_t {p q : Fb} {δ : Dl} (h1 : p δ = some true) : cAnd p q δ = q δ := by unfold cAnd; rw [h1]; rfl
theorem cAnd_f {p q : Fb} {δ : Dl} (h1 : p δ = some false) : cAnd p q δ = some false := by unfold cAnd; rw [h1]; rfl
theorem cNot_of {p : Fb} {δ : Dl} {t : Bool} (h1 : p δ = some t) : cNot p δ = some (!t) := by unfold cNot; rw [h1]; rfl
theorem cT_bool {f : Fe} {δ : Dl} {t : Bool} (h : f δ = some (.bool t)) : cT f δ = some t := by unfold cT; rw [h]; rfl
theorem eAnd_t {f g : Fe} {δ : Dl} (h : f δ = some (.bool true)) : eAnd f g δ = g δ := by unfold eAnd; rw [h]; rfl
theorem eAnd_f {f g : Fe} {δ : Dl} (h : f δ = some (.bool false)) : eAnd f g δ = some (.bool false) := by unfold eAnd; rw [h]; rfl
theorem eNot_of {f : Fe} {δ : Dl} {t : Bool} (h : f δ = some (.bool t)) : eNot f δ = some (.bool (!t)) := by unfold eNot; rw [h]; rfl
theorem eIs_of {T : String} {f : Fe} {δ : Dl} {d : D} {t : Bool} (h : f δ = some d) (hd : noD d = true) (hk : isK T d = t) : eIs T f δ = some (.bool t) := by
  unfold eIs
  rw [h, Option.bind_some, if_pos hd, hk]
theorem shaped_int (i : Int) : SeqAt.shaped (.int i) = true := by
  unfold SeqAt.shaped
  rw [show PyData.canLay0 (.int i) = true by simp [PyData.canLay0], show PyData.depth (.int i) = 0 by simp [PyData.depth]]
  rfl
theorem eq_int (i j : Int) : oEq (.int i) (.int j) = some (.bool (i == j)) := by
  unfold oEq
  rw [shaped_int, shaped_int]
  simp [PyData.eqv]
mutual
theorem eqv_refl : ∀ d : D, noDict d = true → PyData.eqv d d = true
  | .none, _ => by simp [PyData.eqv]
  | .bool b, _ => by simp [PyData.eqv]
  | .int i, _ => by simp [PyData.eqv]
  | .str x, _ => by simp [PyData.eqv]
  | .list l, h => by simp only [PyData.eqv]; exact eqv_reflL l (by simpa [noDict] using h)
  | .tuple l, h => by simp only [PyData.eqv]; exact eqv_reflL l (by simpa [noDict] using h)
  | .dict _, h => by simp [noDict] at h
theorem eqv_reflL : ∀ l : List D, noDicts l = true → PyData.eqvAll l l = true
  | [], _ => by simp [PyData.eqvAll]
  | d :: ds, h => by
    have h' : noDict d = true ∧ noDicts ds = true := by simpa [noDicts] using h
    simp only [PyData.eqvAll]
    rw [eqv_refl d h'.1, eqv_reflL ds h'.2]
    rfl
end
theorem lay_ints (ns : List Int) : PyData.canLayAll0 (ns.map PyData.int) = true ∧ PyData.depthAll (ns.map PyData.int) = 0 ∧ noDicts (ns.map PyData.int) = true := by
  induction ns with
  | nil => exact ⟨by simp [PyData.canLayAll0], by simp [PyData.depthAll], by simp [noDicts]⟩
  | cons n ns ih =>
    obtain ⟨h1, h2, h3⟩ := ih
    refine ⟨?_, ?_, ?_⟩
    · simp only [List.map_cons, PyData.canLayAll0, PyData.canLay0, h1]; rfl
    · simp only [List.map_cons, PyData.depthAll, PyData.depth, h2]; rfl
    · simp only [List.map_cons, noDicts, noDict, h3]; rfl
theorem lay_row (r : List Int) : PyData.canLay0 (encR r) = true ∧ PyData.depth (encR r) = 1 ∧ noDict (encR r) = true := by
  obtain ⟨h1, h2, h3⟩ := lay_ints r
  unfold encR
  exact ⟨by simp only [PyData.canLay0, h1], by simp only [PyData.depth, h2], by simp only [noDict, h3]⟩
theorem ch_of {f g k : Fe} {δ : Dl} {x y z : Int} (h1 : f δ = some (.int x)) (h2 : g δ = some (.int y)) (h3 : k δ = some (.int z)) : eCh oLe oLe f g k δ = some (.bool (decide (x ≤ y) && decide (y ≤ z))) := by
  unfold eCh
  rw [h1, h2, Option.bind_some, Option.bind_some]
  show (if decide (x ≤ y) then (k δ).bind _ else _) = _
  cases decide (x ≤ y) with
  | true => rw [if_pos rfl, h3]; rfl
  | false => rfl
theorem dec_le (a b : Nat) : decide ((a : Int) ≤ (b : Int)) = decide (a ≤ b) := by rw [decide_eq_decide]; omega
theorem beq_nat (a b : Nat) : ((a : Int) == (b : Int)) = decide (a = b) := by
  rw [Bool.beq_eq_decide_eq, decide_eq_decide]; omega
theorem layAll_mem : ∀ {l : List D} {p : D}, PyData.canLayAll0 l = true → p ∈ l → PyData.canLay0 p = true
  | [], _, _, hp => by cases hp
  | d :: ds, p, h, hp => by
    have h' : PyData.canLay0 d = true ∧ PyData.canLayAll0 ds = true := by simpa [PyData.canLayAll0] using h
    rcases List.mem_cons.mp hp with e | e
    · rw [e]; exact h'.1
    · exact layAll_mem h'.2 e
theorem layAll_of : ∀ {l : List D}, (∀ p ∈ l, PyData.canLay0 p = true) → PyData.canLayAll0 l = true
  | [], _ => by simp [PyData.canLayAll0]
  | d :: ds, h => by
    simp only [PyData.canLayAll0]
    rw [h d List.mem_cons_self, layAll_of fun p hp => h p (List.mem_cons_of_mem _ hp)]
    rfl
theorem depth_mem : ∀ {l : List D} {p : D}, p ∈ l → PyData.depth p ≤ PyData.depthAll l
  | [], _, hp => by cases hp
  | d :: ds, p, hp => by
    simp only [PyData.depthAll]
    rcases List.mem_cons.mp hp with e | e
    · rw [e]; exact Nat.le_max_left _ _
    · exact Nat.le_trans (depth_mem e) (Nat.le_max_right _ _)
theorem depthAll_of {n : Nat} : ∀ {l : List D}, (∀ p ∈ l, PyData.depth p ≤ n) → PyData.depthAll l ≤ n
  | [], _ => by simp [PyData.depthAll]
  | d :: ds, h => by
    simp only [PyData.depthAll]
    exact Nat.max_le.mpr ⟨h d List.mem_cons_self, depthAll_of fun p hp => h p (List.mem_cons_of_mem _ hp)⟩
theorem noD_of {d : D} (h : PyData.canLay0 d = true) : noD d = true := by
  cases d with
  | dict _ => simp [PyData.canLay0] at h
  | _ => rfl
theorem allOf_bls' (ns : List Bool) : allOf isBl (ns.map PyData.bool) = some ns := by
  induction ns with
  | nil => rfl
  | cons n ns ih => show (allOf isBl (ns.map PyData.bool)).bind _ = _; rw [ih]; rfl
theorem fAll_map {α : Type} (l : List α) (p : α → Bool) : fAll [.list (l.map fun x => PyData.bool (p x))] = some (.bool (l.all p)) := by
  show (allOf isBl (l.map fun x => PyData.bool (p x))).bind _ = _
  rw [show (l.map fun x => PyData.bool (p x)) = (l.map p).map PyData.bool by rw [List.map_map]; rfl, allOf_bls']
  show some (PyData.bool ((l.map p).all id)) = _
  rw [List.all_map]
  rfl
def inB (lo hi : Int) : D → Bool
  | .int i => decide (lo ≤ i) && decide (i ≤ hi)
  | _ => false
theorem len_in (a b n : Nat) : (decide ((a : Int) ≤ (n : Int)) && decide ((n : Int) ≤ (b : Int))) = (decide (a ≤ n) && decide (n ≤ b)) := by rw [dec_le, dec_le]
theorem cutD_len {α : Type} (l : List α) (lo hi : Option Int) : (cutD l lo hi).length ≤ l.length := by
  unfold cutD
  rw [List.length_take, List.length_drop]
  omega
theorem cutD_mem {α : Type} {l : List α} {lo hi : Option Int} {x : α} (h : x ∈ cutD l lo hi) : x ∈ l := List.mem_of_mem_drop (List.mem_of_mem_take h)
theorem add_tup (l m : List D) (h : l.length + m.length ≤ 16777216) : oAdd (.tuple l) (.tuple m) = some (.tuple (l ++ m)) := by
  show (if fit (l.length + m.length) then some (PyData.tuple (l ++ m)) else none) = _
  rw [if_pos (fit_of h)]
theorem mul_tup {l : List D} {k : Int} (h1 : 2 ≤ k) (h2 : k ≤ 1000) (hl : l ≠ []) (hf : l.length * k.toNat ≤ 16777216) : oMul (.tuple l) (.int k) = some (.tuple (List.replicate k.toNat l).flatten) := by
  show (if decide (2 ≤ k) && decide (k ≤ 1000) && !l.isEmpty && fit (l.length * k.toNat) then _ else none) = _
  have he : l.isEmpty = false := by cases l with
    | nil => exact absurd rfl hl
    | cons _ _ => rfl
  rw [decide_eq_true h1, decide_eq_true h2, he, fit_of hf]
  rfl
theorem shaped_bool (b : Bool) : SeqAt.shaped (.bool b) = true := by
  unfold SeqAt.shaped
  rw [show PyData.canLay0 (.bool b) = true by simp [PyData.canLay0], show PyData.depth (.bool b) = 0 by simp [PyData.depth]]
  rfl
theorem ne_bool (a b : Bool) : oNe (.bool a) (.bool b) = some (.bool (!(a == b))) := by
  unfold oNe
  rw [shaped_bool, shaped_bool]
  simp [PyData.eqv]
theorem eq_bool (a b : Bool) : oEq (.bool a) (.bool b) = some (.bool (a == b)) := by
  unfold oEq
  rw [shaped_bool, shaped_bool]
  simp [PyData.eqv]
theorem oOpen_of {o : Nat} {fa : Fa} {fo : Fo} {δ : Dl} {d : D} {ds0 : List D} (hl : o < δ.length) (h0 : fa δ = some ds0) (hf : ds0.length ≤ 16777216) (h : ∀ p : Addr, ∃ ds, fo (δ.set o (some (opq p))) ds0 = some (.rt d, ds)) : oOpen o fa fo δ = some (.rt d) := by
  unfold oOpen
  have hc : o < δ.length ∧ ∃ d ds0, fa δ = some ds0 ∧ fit ds0.length = true ∧ ∀ p : Addr, ∃ ds, fo (δ.set o (some (opq p))) ds0 = some (.rt d, ds) := ⟨hl, d, ds0, h0, fit_of hf, h⟩
  rw [dif_pos hc]
  obtain ⟨ds1, h1, _, h3⟩ := Classical.choose_spec hc.2
  rw [h0] at h1
  cases h1
  obtain ⟨x, e1⟩ := h (0 : Nat)
  obtain ⟨y, e2⟩ := h3 (0 : Nat)
  rw [e1] at e2
  injection e2 with e3
  have e4 : Fl.rt d = Fl.rt (Classical.choose hc.2) := (Prod.mk.inj e3).1
  rw [← e4]
end PU
namespace PU
open PySem L2
def B_is_whole : Fs := (sRet (eAnd (eIs "int" (eVar 0)) (eNot (eIs "bool" (eVar 0)))))
def F_is_whole : List D → Option D := dataOf 1 B_is_whole
def isW : D → Bool
  | .int _ => true
  | _ => false
theorem v_is_whole {d : D} (h : noD d = true) : F_is_whole [d] = some (.bool (isW d)) := by
  show finish (sRet (eAnd (eIs "int" (eVar 0)) (eNot (eIs "bool" (eVar 0)))) [some d]) = _
  cases d <;> first | rfl | cases h
def B_is_count : Fs := (sRet (eAnd (eCall F_is_whole (aCons (eVar 0) aNil)) (eCh oLe oLe (eC (.int 0)) (eVar 0) (eC (.int 100000)))))
def F_is_count : List D → Option D := dataOf 1 B_is_count
def isC : D → Bool
  | .int i => decide (0 ≤ i) && decide (i ≤ 100000)
  | _ => false
theorem v_is_count {d : D} (h : noD d = true) : F_is_count [d] = some (.bool (isC d)) := by
  show finish (B_is_count [some d]) = _
  unfold B_is_count
  have e := v_is_whole h
  cases d with
  | int i =>
    rw [sRet_of (d := .bool (isC (.int i)))]
    · rfl
    · rw [eAnd_t (eCall_of (aCons_of rfl rfl) e)]
      exact ch_of rfl rfl rfl
  | dict _ => cases h
  | none => rw [sRet_of (eAnd_f (eCall_of (aCons_of rfl rfl) e))]; rfl
  | bool _ => rw [sRet_of (eAnd_f (eCall_of (aCons_of rfl rfl) e))]; rfl
  | str _ => rw [sRet_of (eAnd_f (eCall_of (aCons_of rfl rfl) e))]; rfl
  | list _ => rw [sRet_of (eAnd_f (eCall_of (aCons_of rfl rfl) e))]; rfl
  | tuple _ => rw [sRet_of (eAnd_f (eCall_of (aCons_of rfl rfl) e))]; rfl
def B_is_row : Fs := (sSeq (sIf (cNot (cT (eIs "tuple" (eVar 0)))) (sRet (eC (.bool false))) sNext)
    (sRet (eAnd (eCh oLe oLe (eC (.int 1)) (eCall fLen (aCons (eVar 0) aNil)) (eC (.int 5))) (eCall fAll (aCons (eLc (iSeq (eVar 0)) [none] (gN 0) cTrue (eCall F_is_count (aCons (eVar 0) aNil))) aNil)))))
def F_is_row : List D → Option D := dataOf 1 B_is_row
def isR : D → Bool
  | .tuple l => decide (1 ≤ l.length) && decide (l.length ≤ 5) && l.all isC
  | _ => false
theorem v_is_row {d : D} (h : PyData.canLay0 d = true) : F_is_row [d] = some (.bool (isR d)) := by
  show finish (B_is_row [some d]) = _
  unfold B_is_row
  cases d with
  | tuple l =>
    rw [sSeq_nx (δ' := [some (.tuple l)]) (by rw [sIf_f (by rw [cNot_of (cT_bool (eIs_of (t := true) rfl rfl rfl))]; rfl)]; rfl)]
    have e1 : eCh oLe oLe (eC (.int 1)) (eCall fLen (aCons (eVar 0) aNil)) (eC (.int 5)) [some (.tuple l)] = some (.bool (decide (1 ≤ l.length) && decide (l.length ≤ 5))) := by
      rw [ch_of (x := 1) (y := (l.length : Int)) (z := 5) rfl (len_tup rfl) rfl]
      exact congrArg some (congrArg PyData.bool (len_in 1 5 l.length))
    rw [sRet_of (d := .bool (isR (.tuple l)))]
    · rfl
    · by_cases hl : (decide (1 ≤ l.length) && decide (l.length ≤ 5)) = true
      · rw [hl] at e1
        rw [eAnd_t e1]
        have hh := hl
        rw [Bool.and_eq_true] at hh
        have h5 := of_decide_eq_true hh.2
        rw [eCall_of (aCons_of (eLc_map (xs := l) (e := id) (g := fun p => PyData.bool (isC p)) (by rw [List.map_id]; rfl) (by omega) fun p hp => ⟨_, rfl, rfl, eCall_of (aCons_of rfl rfl) (v_is_count (noD_of (layAll_mem (by simpa [PyData.canLay0] using h) hp)))⟩) rfl) (fAll_map l isC)]
        show some (PyData.bool (l.all isC)) = some (PyData.bool ((decide (1 ≤ l.length) && decide (l.length ≤ 5)) && l.all isC))
        rw [hl]; rfl
      · have hf := Bool.eq_false_iff.mpr hl
        rw [hf] at e1
        rw [eAnd_f e1]
        show some (PyData.bool false) = some (PyData.bool ((decide (1 ≤ l.length) && decide (l.length ≤ 5)) && l.all isC))
        rw [hf]; rfl
  | dict _ => simp [PyData.canLay0] at h
  | none => rfl
  | bool _ => rfl
  | int _ => rfl
  | str _ => rfl
  | list _ => rfl
def B_is_base : Fs := (sRet (eAnd (eCall F_is_whole (aCons (eVar 0) aNil)) (eCh oLe oLe (eC (.int 1)) (eVar 0) (eC (.int 60)))))
def F_is_base : List D → Option D := dataOf 1 B_is_base
theorem v_is_base {d : D} (h : noD d = true) : F_is_base [d] = some (.bool (inB 1 60 d)) := by
  show finish (B_is_base [some d]) = _
  unfold B_is_base
  have e := v_is_whole h
  cases d with
  | int i =>
    rw [sRet_of (d := .bool (inB 1 60 (.int i)))]
    · rfl
    · rw [eAnd_t (eCall_of (aCons_of rfl rfl) e)]
      exact ch_of rfl rfl rfl
  | dict _ => cases h
  | none => rw [sRet_of (eAnd_f (eCall_of (aCons_of rfl rfl) e))]; rfl
  | bool _ => rw [sRet_of (eAnd_f (eCall_of (aCons_of rfl rfl) e))]; rfl
  | str _ => rw [sRet_of (eAnd_f (eCall_of (aCons_of rfl rfl) e))]; rfl
  | list _ => rw [sRet_of (eAnd_f (eCall_of (aCons_of rfl rfl) e))]; rfl
  | tuple _ => rw [sRet_of (eAnd_f (eCall_of (aCons_of rfl rfl) e))]; rfl
def B_is_table : Fs := (sSeq (sIf (cNot (cT (eIs "tuple" (eVar 0)))) (sRet (eC (.bool false))) sNext)
    (sSeq (sIf (cOr (cNot (cB (eCh oLe oLe (eC (.int 1)) (eCall fLen (aCons (eVar 0) aNil)) (eC (.int 5))))) (cNot (cT (eCall fAll (aCons (eLc (iSeq (eVar 0)) [none] (gN 0) cTrue (eCall F_is_row (aCons (eVar 0) aNil))) aNil))))) (sRet (eC (.bool false))) sNext)
    (sRet (eCall fAll (aCons (eLc (iSeq (eVar 0)) [none, some 0] (gN 0) cTrue (eOp oEq (eCall fLen (aCons (eVar 0) aNil)) (eCall fLen (aCons (eOp oIx (eVar 1) (eC (.int 0))) aNil)))) aNil)))))
def F_is_table : List D → Option D := dataOf 1 B_is_table
def lenD : D → Nat
  | .tuple l => l.length
  | _ => 0
def isTab : D → Bool
  | .tuple l => decide (1 ≤ l.length) && decide (l.length ≤ 5) && l.all isR && l.all fun r => decide (lenD r = lenD (l.headD .none))
  | _ => false
theorem isR_tup {d : D} (h : isR d = true) : ∃ l, d = .tuple l := by
  cases d with
  | tuple l => exact ⟨l, rfl⟩
  | _ => cases h
theorem v_is_table {d : D} (h : PyData.canLay0 d = true) : F_is_table [d] = some (.bool (isTab d)) := by
  show finish (B_is_table [some d]) = _
  unfold B_is_table
  cases d with
  | tuple l =>
    rw [sSeq_nx (δ' := [some (.tuple l)]) (by rw [sIf_f (by rw [cNot_of (cT_bool (eIs_of (t := true) rfl rfl rfl))]; rfl)]; rfl)]
    have e1 : eCh oLe oLe (eC (.int 1)) (eCall fLen (aCons (eVar 0) aNil)) (eC (.int 5)) [some (.tuple l)] = some (.bool (decide (1 ≤ l.length) && decide (l.length ≤ 5))) := by
      rw [ch_of (x := 1) (y := (l.length : Int)) (z := 5) rfl (len_tup rfl) rfl]
      exact congrArg some (congrArg PyData.bool (len_in 1 5 l.length))
    have hla : ∀ p ∈ l, PyData.canLay0 p = true := fun p hp => layAll_mem (by simpa [PyData.canLay0] using h) hp
    by_cases hl : (decide (1 ≤ l.length) && decide (l.length ≤ 5)) = true
    · rw [hl] at e1
      have hh := hl
      rw [Bool.and_eq_true] at hh
      have h5 := of_decide_eq_true hh.2
      have h1 := of_decide_eq_true hh.1
      have e2 : eCall fAll (aCons (eLc (iSeq (eVar 0)) [none] (gN 0) cTrue (eCall F_is_row (aCons (eVar 0) aNil))) aNil) [some (.tuple l)] = some (.bool (l.all isR)) := by
        rw [eCall_of (aCons_of (eLc_map (xs := l) (e := id) (g := fun p => PyData.bool (isR p)) (by rw [List.map_id]; rfl) (by omega) fun p hp => ⟨_, rfl, rfl, eCall_of (aCons_of rfl rfl) (v_is_row (hla p hp))⟩) rfl) (fAll_map l isR)]
      cases hr : l.all isR with
      | false =>
        rw [hr] at e2
        rw [sSeq_rt (d := .bool false) (by rw [sIf_t (by rw [cOr_f (by rw [cNot_of (cB_of e1)]; rfl), cNot_of (cT_bool e2)]; rfl)]; rfl)]
        show some (PyData.bool false) = some (PyData.bool ((decide (1 ≤ l.length) && decide (l.length ≤ 5)) && l.all isR && _))
        rw [hl, hr]; rfl
      | true =>
        rw [hr] at e2
        rw [sSeq_nx (δ' := [some (.tuple l)]) (by rw [sIf_f (by rw [cOr_f (by rw [cNot_of (cB_of e1)]; rfl), cNot_of (cT_bool e2)]; rfl)]; rfl)]
        have hra := List.all_eq_true.mp hr
        have hhead : l[0]? = some (l.headD .none) := by cases l with
          | nil => simp at h1
          | cons x r => rfl
        obtain ⟨hl0, eh⟩ := isR_tup (hra (l.headD .none) (List.mem_of_getElem? hhead))
        rw [sRet_of (d := .bool (isTab (.tuple l)))]
        · rfl
        · rw [eCall_of (aCons_of (eLc_map (xs := l) (e := id) (g := fun p => PyData.bool (decide (lenD p = lenD (l.headD .none)))) (by rw [List.map_id]; rfl) (by omega) fun p hp => ⟨_, rfl, rfl, ?_⟩) rfl) (fAll_map l fun p => decide (lenD p = lenD (l.headD .none)))]
          · show some (PyData.bool _) = some (PyData.bool ((decide (1 ≤ l.length) && decide (l.length ≤ 5)) && l.all isR && _))
            rw [hl, hr]; rfl
          · obtain ⟨lp, ep⟩ := isR_tup (hra p hp)
            rw [eOp_of (x := .int (lp.length : Int)) (y := .int (hl0.length : Int)) (len_tup (by rw [← ep]; rfl)) (len_tup (ix_tup (i := 0) rfl rfl (by rw [hhead, eh]))) (eq_int _ _), eh]
            rw [ep]
            exact congrArg some (congrArg PyData.bool (by rw [beq_nat]; rfl))
    · have hf := Bool.eq_false_iff.mpr hl
      rw [hf] at e1
      rw [sSeq_rt (d := .bool false) (by rw [sIf_t (by rw [cOr_t (by rw [cNot_of (cB_of e1)]; rfl)])]; rfl)]
      show some (PyData.bool false) = some (PyData.bool ((decide (1 ≤ l.length) && decide (l.length ≤ 5)) && l.all isR && _))
      rw [hf]; rfl
  | dict _ => simp [PyData.canLay0] at h
  | none => rfl
  | bool _ => rfl
  | int _ => rfl
  | str _ => rfl
  | list _ => rfl
def B_Lcell_at : Fs := (sSeq (sIf (cB (eOp oLt (eVar 1) (eCall fLen (aCons (eVar 0) aNil)))) (sRet (eOp oIx (eVar 0) (eVar 1))) sNext)
    (sRet (eC (.int 0))))
def F_Lcell_at : List D → Option D := dataOf 2 B_Lcell_at
theorem v_Lcell (ns : List Int) (k : Nat) : F_Lcell_at [.list (ns.map PyData.int), .int (k : Int)] = some (.int (ns.getD k 0)) := by
  show finish (B_Lcell_at [some (.list (ns.map PyData.int)), some (.int (k : Int))]) = _
  unfold B_Lcell_at
  have hc : cB (eOp oLt (eVar 1) (eCall fLen (aCons (eVar 0) aNil))) [some (.list (ns.map PyData.int)), some (.int (k : Int))] = some (decide (k < ns.length)) := by
    show some (decide ((k : Int) < ((ns.map PyData.int).length : Int))) = _
    rw [List.length_map]
    congr 1
    rw [decide_eq_decide]
    omega
  by_cases h : k < ns.length
  · rw [decide_eq_true h] at hc
    rw [sSeq_rt (d := .int (ns.getD k 0))]
    · rfl
    · rw [sIf_t hc]
      refine sRet_of (eOp_of rfl rfl ?_)
      show atI (ns.map PyData.int) (k : Int) = _
      refine atI_of ?_
      rw [List.getElem?_map, List.getElem?_eq_getElem h, List.getD_eq_getElem?_getD, List.getElem?_eq_getElem h]
      rfl
  · rw [decide_eq_false h] at hc
    rw [sSeq_nx (δ' := [some (.list (ns.map PyData.int)), some (.int (k : Int))])]
    · rw [List.getD_eq_getElem?_getD, List.getElem?_eq_none (by omega)]
      rfl
    · rw [sIf_f hc]
      rfl
def B_Lmixed : Fs := (sSeq (sSet 2 (eOp oMod (eOp oMul (eOp oAdd (eOp oAdd (eCall F_Lcell_at (aCons (eVar 0) (aCons (eVar 1) aNil))) (eOp oMul (eC (.int 7919)) (eVar 1))) (eC (.int 1))) (eC (.int 48271))) (eC (.int 2147483647))))
    (sRet (eOp oMod (eOp oAdd (eOp oAdd (eOp oMul (eVar 2) (eVar 2)) (eOp oMul (eC (.int 7)) (eVar 2))) (eVar 1)) (eC (.int 2147483629)))))
def F_Lmixed : List D → Option D := dataOf 3 B_Lmixed
theorem v_Lmixed (ns : List Int) (k : Nat) (hk : k < 100) : F_Lmixed [.list (ns.map PyData.int), .int (k : Int)] = some (.int (mixI (ns.getD k 0) k)) := by
  show finish (B_Lmixed [some (.list (ns.map PyData.int)), some (.int (k : Int)), none]) = _
  unfold B_Lmixed
  rw [sSeq_nx (sSet_of (eOp_of (eOp_of (eOp_of (eOp_of (eCall_of (aCons_of rfl (aCons_of rfl rfl)) (v_Lcell ns k)) (eOp_of rfl rfl (mul_of (cMul_l (by decide) (by decide)))) rfl) rfl rfl) rfl (mul_of (cMul_r (by decide) (by decide)))) rfl (mod_of (by decide))))]
  have hd := emod_small (x := (ns.getD k 0 + 7919 * (k : Int) + 1) * 48271) (m := 2147483647) (by decide) (by decide)
  rw [sRet_of (eOp_of (eOp_of (eOp_of (eOp_of rfl rfl (mul_of (cMul_l hd.1 hd.2))) (eOp_of rfl rfl (mul_of (cMul_l (by decide) (by decide)))) rfl) rfl rfl) rfl (mod_of (by decide)))]
  rfl
def B_Ldrawn : Fs := (sSeq (sSet 2 (eOp oMod (eOp oMul (eOp oAdd (eOp oAdd (eVar 0) (eOp oMul (eC (.int 104729)) (eVar 1))) (eC (.int 17))) (eC (.int 69621))) (eC (.int 2147483647))))
    (sRet (eOp oMod (eOp oAdd (eOp oAdd (eOp oMul (eVar 2) (eVar 2)) (eOp oMul (eC (.int 3)) (eVar 2))) (eVar 1)) (eC (.int 2147483629)))))
def F_Ldrawn : List D → Option D := dataOf 3 B_Ldrawn
theorem v_Ldrawn (x k : Int) : F_Ldrawn [.int x, .int k] = some (.int (drawnI x k)) := by
  show finish (B_Ldrawn [some (.int x), some (.int k), none]) = _
  unfold B_Ldrawn
  rw [sSeq_nx (sSet_of (eOp_of (eOp_of (eOp_of (eOp_of rfl (eOp_of rfl rfl (mul_of (cMul_l (by decide) (by decide)))) rfl) rfl rfl) rfl (mul_of (cMul_r (by decide) (by decide)))) rfl (mod_of (by decide))))]
  have hd := emod_small (x := (x + 104729 * k + 17) * 69621) (m := 2147483647) (by decide) (by decide)
  rw [sRet_of (eOp_of (eOp_of (eOp_of (eOp_of rfl rfl (mul_of (cMul_l hd.1 hd.2))) (eOp_of rfl rfl (mul_of (cMul_l (by decide) (by decide)))) rfl) rfl rfl) rfl (mod_of (by decide)))]
  rfl
def B_Lnumber : Fs := (sRet (eAnd (eIs "int" (eVar 0)) (eAnd (eNot (eIs "bool" (eVar 0))) (eCh oLe oLe (eVar 1) (eVar 0) (eVar 2)))))
def F_Lnumber : List D → Option D := dataOf 3 B_Lnumber
theorem v_Lnumber {d : D} (lo hi : Int) (h : noD d = true) : F_Lnumber [d, .int lo, .int hi] = some (.bool (inB lo hi d)) := by
  show finish (B_Lnumber [some d, some (.int lo), some (.int hi)]) = _
  unfold B_Lnumber
  cases d with
  | int i =>
    rw [sRet_of (d := .bool (inB lo hi (.int i)))]
    · rfl
    · rw [eAnd_t (eIs_of rfl rfl rfl), eAnd_t (eNot_of (t := false) (eIs_of rfl rfl rfl))]
      exact ch_of rfl rfl rfl
  | dict _ => cases h
  | none => rfl
  | bool _ => rfl
  | str _ => rfl
  | list _ => rfl
  | tuple _ => rfl
def O_Ltable : Fo := (oSeq (oFor (iRng (aCons (eVar 2) aNil)) (gN 5) (oSeq (oLift (sSet 6 (eCall F_Ldrawn (aCons (eVar 0) (aCons (eVar 5) aNil)))))
    (oApp 4 (eCall fTuple (aCons (eLc (iRng (aCons (eVar 1) aNil)) [none, some 6, some 3] (gN 0) cTrue (eOp oMod (eOp oDiv (eCall F_Ldrawn (aCons (eVar 1) (aCons (eVar 0) aNil))) (eC (.int 8))) (eVar 2))) aNil)))))
    (oClose 4 (sRet (eCall fTuple (aCons (eVar 4) aNil)))))
noncomputable def B_Ltable : Fs := (sSeq (sSet 1 (eOp oAdd (eC (.int 1)) (eOp oMod (eVar 0) (eC (.int 5)))))
    (sSeq (sSet 2 (eOp oAdd (eC (.int 1)) (eOp oMod (eOp oDiv (eVar 0) (eC (.int 5))) (eC (.int 5)))))
    (sSeq (sSet 3 (eOp oIx (eTup (aCons (eC (.int 3)) (aCons (eC (.int 20)) (aCons (eC (.int 100)) (aCons (eC (.int 100001)) aNil))))) (eOp oMod (eOp oDiv (eVar 0) (eC (.int 25))) (eC (.int 4)))))
    (oOpen 4 aNil O_Ltable))))
noncomputable def F_Ltable : List D → Option D := dataOf 7 B_Ltable
def gt_body : Fo := (oSeq (oLift (sSet 6 (eCall F_Ldrawn (aCons (eVar 0) (aCons (eVar 5) aNil)))))
    (oApp 4 (eCall fTuple (aCons (eLc (iRng (aCons (eVar 1) aNil)) [none, some 6, some 3] (gN 0) cTrue (eOp oMod (eOp oDiv (eCall F_Ldrawn (aCons (eVar 1) (aCons (eVar 0) aNil))) (eC (.int 8))) (eVar 2))) aNil))))
theorem g_Ltable {n wd ta hi : Int} (hc : 0 ≤ wd ∧ wd ≤ 1000 ∧ 0 ≤ ta ∧ ta ≤ 1000 ∧ 0 < hi) : oOpen 4 aNil O_Ltable [some (.int n), some (.int wd), some (.int ta), some (.int hi), none, none, none] =
    some (.rt (encT ((List.range ta.toNat).map fun (k : Nat) => (List.range wd.toNat).map fun (j : Nat) => drawnI (drawnI n k) j / 8 % hi))) := by
  obtain ⟨h1, h2, h3, h4, h5⟩ := hc
  refine oOpen_of (by simp) rfl (by simp) fun p => ⟨[], ?_⟩
  have hwd : wd = (wd.toNat : Int) := by omega
  have hta : ta = (ta.toNat : Int) := by omega
  show O_Ltable [some (.int n), some (.int wd), some (.int ta), some (.int hi), some (opq p), none, none] [] = _
  unfold O_Ltable
  show oSeq (oFor (iRng (aCons (eVar 2) aNil)) (gN 5) gt_body) (oClose 4 (sRet (eCall fTuple (aCons (eVar 4) aNil)))) _ [] = _
  obtain ⟨δ', hf, a5, a6, hδ⟩ := forO_build (gf := gN 5) (xs := List.range ta.toNat) (e := fun (k : Nat) => PyData.int (k : Int)) (g := fun (k : Nat) => encR ((List.range wd.toNat).map fun (j : Nat) => drawnI (drawnI n k) j / 8 % hi))
    (body := gt_body) (P := fun δ => ∃ a5 a6, δ = [some (.int n), some (.int wd), some (.int ta), some (.int hi), some (opq p), a5, a6]) (δ := [some (.int n), some (.int wd), some (.int ta), some (.int hi), some (opq p), none, none]) (ds := [])
    (by rw [List.length_range]; show 0 + ta.toNat ≤ 2000; omega) (fun k hk δ ds hP hl => by
      obtain ⟨a5, a6, rfl⟩ := hP
      refine ⟨_, _, rfl, ?_, some (.int (k : Int)), some (.int (drawnI n k)), rfl⟩
      unfold gt_body
      rw [oSeq_nx (oLift_nx (sSet_of (eCall_of (aCons_of rfl (aCons_of rfl rfl)) (v_Ldrawn n k))))]
      refine oApp_of ?_ (by omega)
      rw [eCall_of (aCons_of (eLc_map (xs := List.range wd.toNat) (e := fun (j : Nat) => PyData.int (j : Int)) (g := fun (j : Nat) => PyData.int (drawnI (drawnI n k) j / 8 % hi)) (iRng_of (n := wd.toNat) (by rw [← hwd]; rfl) (by omega)) (by rw [List.length_range]; omega)
        fun j hj => ⟨_, rfl, rfl, eOp_of (eOp_of (eCall_of (aCons_of rfl (aCons_of rfl rfl)) (v_Ldrawn (drawnI n k) j)) rfl (div_of (by decide) (by decide))) rfl (mod_of h5)⟩) rfl) rfl]
      show some (PyData.tuple ((List.range wd.toNat).map fun (j : Nat) => PyData.int (drawnI (drawnI n k) j / 8 % hi))) = some (PyData.tuple (((List.range wd.toNat).map fun (j : Nat) => drawnI (drawnI n k) j / 8 % hi).map PyData.int))
      rw [List.map_map]
      rfl) ⟨none, none, rfl⟩
  rw [oSeq_nx (δ' := δ') (ds' := [] ++ (List.range ta.toNat).map fun (k : Nat) => encR ((List.range wd.toNat).map fun (j : Nat) => drawnI (drawnI n k) j / 8 % hi))]
  · rw [hδ, List.nil_append]
    unfold oClose
    show ((sRet (eCall fTuple (aCons (eVar 4) aNil)) [some (.int n), some (.int wd), some (.int ta), some (.int hi), some (.list ((List.range ta.toNat).map fun (k : Nat) => encR ((List.range wd.toNat).map fun (j : Nat) => drawnI (drawnI n k) j / 8 % hi))), a5, a6]).bind _) = _
    rw [sRet_of (eCall_of (aCons_of rfl rfl) rfl)]
    show some (Fl.rt (PyData.tuple ((List.range ta.toNat).map fun (k : Nat) => encR ((List.range wd.toNat).map fun (j : Nat) => drawnI (drawnI n k) j / 8 % hi))), ([] : List D)) = some (Fl.rt (PyData.tuple (((List.range ta.toNat).map fun (k : Nat) => (List.range wd.toNat).map fun (j : Nat) => drawnI (drawnI n k) j / 8 % hi).map encR)), [])
    rw [List.map_map]
    rfl
  · unfold oFor
    rw [iRng_of (n := ta.toNat) (by rw [← hta]; rfl) (by omega)]
    exact hf
theorem v_Ltable (n : Int) : F_Ltable [.int n] = some (encT (tableI 100001 n)) := by
  show finish (B_Ltable [some (.int n), none, none, none, none, none, none]) = _
  unfold B_Ltable
  rw [sSeq_nx (sSet_of (eOp_of rfl (eOp_of rfl rfl (mod_of (by decide))) (add_of _ _)))]
  rw [sSeq_nx (sSet_of (eOp_of rfl (eOp_of (eOp_of rfl rfl (div_of (by decide) (by decide))) rfl (mod_of (by decide))) (add_of _ _)))]
  have h4 : n / 25 % 4 = ((n / 25 % 4).toNat : Int) := by omega
  have hlt : (n / 25 % 4).toNat < [3, 20, 100, (100001 : Int)].length := by show (n / 25 % 4).toNat < 4; omega
  have e3 : eOp oIx (eTup (aCons (eC (.int 3)) (aCons (eC (.int 20)) (aCons (eC (.int 100)) (aCons (eC (.int 100001)) aNil))))) (eOp oMod (eOp oDiv (eVar 0) (eC (.int 25))) (eC (.int 4))) [some (.int n), some (.int (1 + n % 5)), some (.int (1 + n / 5 % 5)), none, none, none, none] = some (.int (highI 100001 n)) := by
    refine ix_tup (l := [3, 20, 100, 100001].map PyData.int) (i := (n / 25 % 4).toNat) (by unfold eTup; rw [aCons_of rfl (aCons_of rfl (aCons_of rfl (aCons_of rfl rfl)))]; rfl) ?_ ?_
    · rw [eOp_of (eOp_of rfl rfl (div_of (by decide) (by decide))) rfl (mod_of (by decide)), ← h4]
    · rw [get_int hlt]
      rfl
  rw [show ([some (.int n), none, none, none, none, none, none] : Dl).set 1 (some (.int (1 + n % 5))) = [some (.int n), some (.int (1 + n % 5)), none, none, none, none, none] from rfl]
  show finish (sSeq _ _ [some (.int n), some (.int (1 + n % 5)), some (.int (1 + n / 5 % 5)), none, none, none, none]) = _
  rw [sSeq_nx (sSet_of e3)]
  have hh := highI_le (h := 100001) (by decide) n
  show finish (oOpen 4 aNil O_Ltable [some (.int n), some (.int (1 + n % 5)), some (.int (1 + n / 5 % 5)), some (.int (highI 100001 n)), none, none, none]) = _
  rw [g_Ltable (by omega)]
  rfl
def B_Lbase : Fs := (sRet (eOp oIx (eTup (aCons (eC (.int 1)) (aCons (eC (.int 2)) (aCons (eC (.int 3)) (aCons (eC (.int 7)) (aCons (eC (.int 12)) (aCons (eOp oAdd (eC (.int 1)) (eOp oMod (eOp oDiv (eVar 0) (eC (.int 6))) (eC (.int 60)))) aNil))))))) (eOp oMod (eVar 0) (eC (.int 6)))))
def F_Lbase : List D → Option D := dataOf 1 B_Lbase
def F_Lis_table : List D → Option D
  | [d] => if SeqAt.shaped d then some (.bool (isTab d)) else none
  | _ => none
theorem addK_len {α : Type} [DecidableEq α] : ∀ (l ks : List α), ks.length ≤ (l.foldl addK ks).length
  | [], ks => Nat.le_refl _
  | x :: r, ks => by
    refine Nat.le_trans ?_ (addK_len r (addK ks x))
    unfold addK
    split
    · exact Nat.le_refl _
    · rw [List.length_append]; omega
theorem addK_one {α : Type} [DecidableEq α] (h : α) : ∀ l : List α, (l.foldl addK [h]).length = 1 ↔ ∀ x ∈ l, x = h
  | [] => ⟨(fun _ x hx => nomatch hx), (fun _ => rfl)⟩
  | x :: r => by
    rw [List.foldl_cons]
    by_cases e : x = h
    · rw [show addK [h] x = [h] by unfold addK; rw [if_pos (by rw [e]; exact List.mem_cons_self)], addK_one h r]
      exact ⟨fun q y hy => (List.mem_cons.mp hy).elim (fun z => z.trans e) (q y), fun q y hy => q y (List.mem_cons_of_mem _ hy)⟩
    · have e2 : addK [h] x = [h, x] := by unfold addK; rw [if_neg (by simp [e])]; rfl
      rw [e2]
      constructor
      · intro q
        have := addK_len r [h, x]
        rw [q] at this
        simp at this
      · intro q
        exact absurd (q x List.mem_cons_self) e
theorem addK_keys : ∀ (l : List D) (ks : List Nat) (js : List (Int ⊕ PySem.Str)), js = ks.map (fun (n : Nat) => (Sum.inl (n : Int) : Int ⊕ PySem.Str)) → (l.map fun r => (Sum.inl (lenD r : Int) : Int ⊕ PySem.Str)).foldl addK js = ((l.map fun r => (lenD r : Nat)).foldl addK ks).map fun (n : Nat) => (Sum.inl (n : Int) : Int ⊕ PySem.Str)
  | [], ks, js, e => e
  | x :: r, ks, js, e => by
    rw [List.map_cons, List.map_cons, List.foldl_cons, List.foldl_cons]
    refine addK_keys r _ _ ?_
    unfold addK
    have hm : (Sum.inl (lenD x : Int) : Int ⊕ PySem.Str) ∈ js ↔ lenD x ∈ ks := by
      rw [e, List.mem_map]
      constructor
      · rintro ⟨n, hn, z⟩
        injection z with z
        have : n = lenD x := by omega
        rw [← this]; exact hn
      · exact fun h => ⟨_, h, rfl⟩
    by_cases h : lenD x ∈ ks
    · rw [if_pos h, if_pos (hm.mpr h), e]
    · rw [if_neg h, if_neg (fun z => h (hm.mp z)), e, List.map_append]
      rfl
theorem addK_map (l : List D) : ((l.map fun r => (Sum.inl (lenD r : Int) : Int ⊕ PySem.Str)).foldl addK []).length = ((l.map fun r => (lenD r : Nat)).foldl addK []).length := by
  rw [addK_keys l [] [] rfl, List.length_map]
theorem addK_all {α : Type} [DecidableEq α] (d : α) (l : List α) (hl : l ≠ []) : (l.foldl addK []).length = 1 ↔ ∀ x ∈ l, x = l.headD d := by
  cases l with
  | nil => exact absurd rfl hl
  | cons x r =>
    rw [List.foldl_cons, show addK [] x = [x] from rfl, addK_one x r]
    exact ⟨fun q y hy => (List.mem_cons.mp hy).elim id (q y), fun q y hy => q y (List.mem_cons_of_mem _ hy)⟩
def shapeB (d : D) : Bool := match d with
  | .tuple l => decide (1 ≤ l.length) && decide (l.length ≤ 5)
  | _ => false
theorem shape_test {d : D} {o : Nat} {δ : Dl} (h : (eVar o) δ = some d) (hd : noD d = true) : cOr (cNot (cT (eIs "tuple" (eVar o)))) (cNot (cB (eCh oLe oLe (eC (.int 1)) (eCall fLen (aCons (eVar o) aNil)) (eC (.int 5))))) δ = some (!shapeB d) := by
  cases d with
  | tuple l =>
    rw [cOr_f (by rw [cNot_of (cT_bool (eIs_of (t := true) h rfl rfl))]; rfl), cNot_of (cB_of (ch_of (x := 1) (y := (l.length : Int)) (z := 5) rfl (len_tup h) rfl))]
    exact congrArg some (congrArg (!·) (len_in 1 5 l.length))
  | dict _ => cases hd
  | none => rw [cOr_t (by rw [cNot_of (cT_bool (eIs_of (t := false) h rfl rfl))]; rfl)]; rfl
  | bool _ => rw [cOr_t (by rw [cNot_of (cT_bool (eIs_of (t := false) h rfl rfl))]; rfl)]; rfl
  | int _ => rw [cOr_t (by rw [cNot_of (cT_bool (eIs_of (t := false) h rfl rfl))]; rfl)]; rfl
  | str _ => rw [cOr_t (by rw [cNot_of (cT_bool (eIs_of (t := false) h rfl rfl))]; rfl)]; rfl
  | list _ => rw [cOr_t (by rw [cNot_of (cT_bool (eIs_of (t := false) h rfl rfl))]; rfl)]; rfl
theorem bad_test {l : List D} {δ : Dl} (h : (eVar 2) δ = some (.tuple l)) (hl : l.length ≤ 1000) (hla : ∀ p ∈ l, PyData.canLay0 p = true ∧ PyData.depth p ≤ 62) :
    cB (eOp oNe (eLc (iSeq (eVar 2)) [none] (gN 0) (cNot (cT (eCall F_Lnumber (aCons (eVar 0) (aCons (eC (.int 0)) (aCons (eC (.int 100000)) aNil)))))) (eVar 0)) (eLst aNil)) δ = some (!l.all isC) := by
  have e1 : eLc (iSeq (eVar 2)) [none] (gN 0) (cNot (cT (eCall F_Lnumber (aCons (eVar 0) (aCons (eC (.int 0)) (aCons (eC (.int 100000)) aNil)))))) (eVar 0) δ = some (.list (l.filter fun p => !isC p)) := by
    have := eLc_filter (fi := iSeq (eVar 2)) (sel := [none]) (gf := gN 0) (ct := cNot (cT (eCall F_Lnumber (aCons (eVar 0) (aCons (eC (.int 0)) (aCons (eC (.int 100000)) aNil)))))) (fe := eVar 0) (δ := δ) (xs := l) (e := id) (g := id) (p := fun p => !isC p) (by rw [List.map_id]; exact iSeq_tup h) (by omega) fun p hp => ⟨[some p], rfl, cNot_of (cT_bool (eCall_of (aCons_of rfl (aCons_of rfl (aCons_of rfl rfl))) ?_)), fun _ => rfl⟩
    · rw [List.map_id] at this; exact this
    · rw [v_Lnumber 0 100000 (noD_of (hla p hp).1)]
      cases p <;> rfl
  have hs : SeqAt.shaped (.list (l.filter fun p => !isC p)) = true := by
    unfold SeqAt.shaped
    simp only [PyData.canLay0, PyData.depth]
    rw [layAll_of fun p hp => (hla p (List.mem_filter.mp hp).1).1, Bool.true_and]
    exact decide_eq_true (Nat.le_trans (Nat.succ_le_succ (depthAll_of (n := 62) fun p hp => (hla p (List.mem_filter.mp hp).1).2)) (by decide))
  have hs0 : SeqAt.shaped (.list []) = true := by
    unfold SeqAt.shaped
    simp [PyData.canLay0, PyData.canLayAll0, PyData.depth, PyData.depthAll]
  have e2 : oNe (.list (l.filter fun p => !isC p)) (.list []) = some (.bool (!(l.filter fun p => !isC p).isEmpty)) := by
    unfold oNe
    rw [hs, hs0]
    cases l.filter fun p => !isC p with
    | nil => simp [PyData.eqv, PyData.eqvAll]
    | cons x r => simp [PyData.eqv, PyData.eqvAll]
  rw [cB_of (eOp_of e1 rfl e2)]
  have key : ∀ l : List D, (!(l.filter fun p => !isC p).isEmpty) = !l.all isC := fun l => by
    induction l with
    | nil => rfl
    | cons x r ih =>
      rw [List.all_cons]
      cases hp : isC x with
      | true => rw [List.filter_cons_of_neg (by rw [hp]; simp), ih]; rfl
      | false => rw [List.filter_cons_of_pos (by rw [hp]; rfl)]; rfl
  rw [key]
theorem isTab_shape {l : List D} (h : shapeB (.tuple l) = true) : isTab (.tuple l) = (l.all isR && decide (((l.map fun r => (lenD r : Nat)).foldl addK []).length = 1)) := by
  have hne : l ≠ [] := fun z => by rw [z] at h; cases h
  show ((decide (1 ≤ l.length) && decide (l.length ≤ 5)) && l.all isR && l.all fun r => decide (lenD r = lenD (l.headD .none))) = _
  rw [show (decide (1 ≤ l.length) && decide (l.length ≤ 5)) = true from h, Bool.true_and]
  congr 1
  rw [Bool.eq_iff_iff, decide_eq_true_iff, addK_all 0 _ (by simpa using hne), List.all_eq_true]
  have hh : (l.map fun r => lenD r).headD 0 = lenD (l.headD .none) := by cases l with
    | nil => rfl
    | cons x r => rfl
  rw [hh]
  constructor
  · intro q x hx
    obtain ⟨r, hr, rfl⟩ := List.mem_map.mp hx
    exact of_decide_eq_true (q r hr)
  · intro q r hr
    exact decide_eq_true (q _ (List.mem_map.mpr ⟨r, hr, rfl⟩))
def B_Lodd : Fs := (sSeq (sSet 1 (eLst (aCons (eUn oNeg (eC (.int 1))) (aCons (eC (.int 0)) (aCons (eC (.int 1)) (aCons (eC (.int 59)) (aCons (eC (.int 60)) (aCons (eC (.int 61)) (aCons (eC (.int 100000)) (aCons (eC (.int 100001)) (aCons (eC (.bool true)) (aCons (eC (.bool false)) (aCons (eC .none) (aCons (eC (.str (PySem.Str.ofString ""))) (aCons (eC (.str (PySem.Str.ofString "1"))) (aCons (eTup aNil) (aCons (eLst aNil) (aCons (eTup (aCons (eC (.int 0)) aNil)) (aCons (eTup (aCons (eC (.int 1)) (aCons (eC (.int 2)) aNil))) (aCons (eTup (aCons (eTup (aCons (eC (.int 1)) aNil)) aNil)) (aCons (eLst (aCons (eC (.int 1)) aNil)) aNil)))))))))))))))))))))
    (sRet (eOp oIx (eOp oAdd (eVar 1) (eLst (aCons (eTup (aCons (eC .none) aNil)) (aCons (eTup (aCons (eC (.bool true)) aNil)) (aCons (eC (.int 30)) (aCons (eTup (aCons (eC (.int 100001)) aNil)) (aCons (eTup (aCons (eTup (aCons (eC (.int 0)) aNil)) (aCons (eTup (aCons (eC (.int 0)) (aCons (eC (.int 1)) aNil))) aNil))) (aCons (eC (.int 2)) aNil)))))))) (eOp oMod (eVar 0) (eC (.int 25))))))
def F_Lodd : List D → Option D := dataOf 2 B_Lodd
def oddL : List D := [.int (-1), .int 0, .int 1, .int 59, .int 60, .int 61, .int 100000, .int 100001, .bool true, .bool false, .none, .str (PySem.Str.ofString ""), .str (PySem.Str.ofString "1"), .tuple [], .list [], .tuple [.int 0], .tuple [.int 1, .int 2], .tuple [.tuple [.int 1]], .list [.int 1],
  .tuple [.none], .tuple [.bool true], .int 30, .tuple [.int 100001], .tuple [.tuple [.int 0], .tuple [.int 0, .int 1]], .int 2]
theorem oddL_lay : ∀ d ∈ oddL, PyData.canLay0 d = true ∧ PyData.depth d ≤ 3 := by
  intro d hd
  unfold oddL at hd
  simp only [List.mem_cons, List.not_mem_nil, or_false] at hd
  rcases hd with rfl | rfl | rfl | rfl | rfl | rfl | rfl | rfl | rfl | rfl | rfl | rfl | rfl | rfl | rfl | rfl | rfl | rfl | rfl | rfl | rfl | rfl | rfl | rfl | rfl <;>
    (constructor <;> first | (simp [PyData.canLay0, PyData.canLayAll0, PyData.depth, PyData.depthAll]; done) | (simp only [PyData.canLay0]; decide +kernel) | decide +kernel)
theorem v_Lodd (n : Int) : ∃ d, d ∈ oddL ∧ F_Lodd [.int n] = some d := by
  have h0 : n % 25 = ((n % 25).toNat : Int) := by omega
  have hlt : (n % 25).toNat < oddL.length := by show (n % 25).toNat < 25; omega
  refine ⟨oddL[(n % 25).toNat], List.getElem_mem hlt, ?_⟩
  show finish (B_Lodd [some (.int n), none]) = _
  unfold B_Lodd
  rw [sSeq_nx (sSet_of (d := .list (oddL.take 19)) rfl)]
  rw [sRet_of (eOp_of (x := .list oddL) (y := .int ((n % 25).toNat : Int)) rfl (by rw [eOp_of rfl rfl (mod_of (by decide)), ← h0]) (atI_of (List.getElem?_eq_getElem hlt)))]
  rfl
def B_Lspoilt (self : List D → Option D) : Fs := (sSeq (sIf (cAnd (cB (eOp oGt (eVar 2) (eC (.int 0)))) (cAnd (cT (eIs "tuple" (eVar 0))) (cAnd (cB (eOp oGt (eCall fLen (aCons (eVar 0) aNil)) (eC (.int 0)))) (cB (eOp oGt (eOp oMod (eVar 1) (eC (.int 6))) (eC (.int 0))))))) (sSeq (sSet 3 (eOp oMod (eOp oDiv (eVar 1) (eC (.int 6))) (eCall fLen (aCons (eVar 0) aNil))))
    (sSeq (sSet 4 (eCall self (aCons (eOp oIx (eVar 0) (eVar 3)) (aCons (eOp oDiv (eVar 1) (eC (.int 30))) (aCons (eOp oSub (eVar 2) (eC (.int 1))) aNil)))))
    (sRet (eOp oAdd (eOp oAdd (eSl (eVar 0) oNone (oSome (eVar 3))) (eTup (aCons (eVar 4) aNil))) (eSl (eVar 0) (oSome (eOp oAdd (eVar 3) (eC (.int 1)))) oNone))))) sNext)
    (sSeq (sIf (cAnd (cT (eIs "tuple" (eVar 0))) (cAnd (cB (eOp oGt (eCall fLen (aCons (eVar 0) aNil)) (eC (.int 0)))) (cB (eOp oEq (eOp oMod (eOp oDiv (eVar 1) (eC (.int 6))) (eC (.int 2))) (eC (.int 0)))))) (sRet (eOp oIx (eLst (aCons (eCall fList (aCons (eVar 0) aNil)) (aCons (eSl (eVar 0) oNone (oSome (eUn oNeg (eC (.int 1))))) (aCons (eOp oAdd (eVar 0) (eSl (eVar 0) (oSome (eUn oNeg (eC (.int 1)))) oNone)) (aCons (eSl (eVar 0) (oSome (eC (.int 1))) oNone) (aCons (eOp oMul (eVar 0) (eC (.int 2))) (aCons (eOp oMul (eVar 0) (eC (.int 6))) aNil))))))) (eOp oMod (eOp oDiv (eVar 1) (eC (.int 12))) (eC (.int 6))))) sNext)
    (sRet (eCall F_Lodd (aCons (eOp oDiv (eVar 1) (eC (.int 6))) aNil)))))
def R_Lspoilt : Nat → List D → Option D
  | 0 => fun _ => none
  | n + 1 => dataOf 5 (B_Lspoilt (R_Lspoilt n))
def F_Lspoilt : List D → Option D := R_Lspoilt 3
def Spo : Nat → D → Prop
  | 0, d => PyData.canLay0 d = true ∧ PyData.depth d ≤ 10 ∧ lenD d ≤ 100
  | k + 1, d => (PyData.canLay0 d = true ∧ PyData.depth d ≤ 10 ∧ lenD d ≤ 100) ∧ ∀ l, d = .tuple l → ∀ p ∈ l, Spo k p
theorem Spo.base {k : Nat} {d : D} (h : Spo k d) : PyData.canLay0 d = true ∧ PyData.depth d ≤ 10 ∧ lenD d ≤ 100 := by
  cases k with
  | zero => exact h
  | succ k => exact h.1
def tupNe : D → Bool
  | .tuple l => !l.isEmpty
  | _ => false
theorem tupNe_test {d : D} {q : Fb} {δ : Dl} {b : Bool} (hd : noD d = true) (h0 : (eVar 0) δ = some d) (hq : tupNe d = true → q δ = some b) :
    cAnd (cT (eIs "tuple" (eVar 0))) (cAnd (cB (eOp oGt (eCall fLen (aCons (eVar 0) aNil)) (eC (.int 0)))) q) δ = some (tupNe d && b) := by
  by_cases ht : isK "tuple" d = true
  · rw [cAnd_t (cT_bool (eIs_of h0 hd ht))]
    cases d with
    | tuple l =>
      have e : cB (eOp oGt (eCall fLen (aCons (eVar 0) aNil)) (eC (.int 0))) δ = some (tupNe (.tuple l)) := by
        rw [cB_of (eOp_of (len_tup h0) rfl rfl)]
        cases l with
        | nil => rfl
        | cons x r =>
          show some (decide ((0 : Int) < ((r.length + 1 : Nat) : Int))) = some true
          rw [decide_eq_true (by omega)]
      cases hb : tupNe (.tuple l) with
      | true => rw [hb] at e; rw [cAnd_t e, hq hb]; rfl
      | false => rw [hb] at e; rw [cAnd_f e]; rfl
    | _ => cases ht
  · have hf := Bool.eq_false_iff.mpr ht
    rw [cAnd_f (cT_bool (eIs_of h0 hd hf))]
    cases d with
    | tuple l => cases hf
    | _ => rfl
theorem spo_index {k : Nat} {l : List D} {m : Int} (hl : l ≠ []) : ∃ j : Nat, j < l.length ∧ m % (l.length : Int) = (j : Int) := by
  have h0 : 0 < l.length := List.length_pos_iff.mpr hl
  have h1 := Int.emod_nonneg m (show (l.length : Int) ≠ 0 by omega)
  have h2 := Int.emod_lt_of_pos m (show 0 < (l.length : Int) by omega)
  exact ⟨(m % (l.length : Int)).toNat, by omega, by omega⟩
theorem spo_list {l ms : List D} {n : Nat} (hl : ∀ p ∈ l, PyData.canLay0 p = true ∧ PyData.depth p ≤ n) (hs : ∀ p ∈ ms, p ∈ l) :
    (PyData.canLay0 (.tuple ms) = true ∧ PyData.depth (.tuple ms) ≤ n + 1) ∧ PyData.canLay0 (.list ms) = true ∧ PyData.depth (.list ms) ≤ n + 1 := by
  have h1 : PyData.canLayAll0 ms = true := layAll_of fun p hp => (hl p (hs p hp)).1
  have h2 : PyData.depthAll ms ≤ n := depthAll_of fun p hp => (hl p (hs p hp)).2
  refine ⟨⟨by simpa [PyData.canLay0] using h1, ?_⟩, by simpa [PyData.canLay0] using h1, ?_⟩
  · simp only [PyData.depth]; omega
  · simp only [PyData.depth]; omega
theorem spo_step {k : Nat} {d : D} {m deep : Int} (self : List D → Option D) (hb : PyData.canLay0 d = true ∧ PyData.depth d ≤ 10 ∧ lenD d ≤ 100)
    (hrec : 0 < deep → ∀ l, d = .tuple l → ∀ (j : Nat) (hj : j < l.length), ∃ r, self [l[j], .int (m / 30), .int (deep - 1)] = some r ∧ PyData.canLay0 r = true ∧ PyData.depth r ≤ 10 + k) :
    ∃ r, dataOf 5 (B_Lspoilt self) [d, .int m, .int deep] = some r ∧ PyData.canLay0 r = true ∧ PyData.depth r ≤ 11 + k := by
  obtain ⟨hl, hdp, hln⟩ := hb
  have hnd := noD_of hl
  show ∃ r, finish (B_Lspoilt self [some d, some (.int m), some (.int deep), none, none]) = some r ∧ _
  unfold B_Lspoilt
  have em : eOp oMod (eVar 1) (eC (.int 6)) [some d, some (.int m), some (.int deep), none, none] = some (.int (m % 6)) := eOp_of rfl rfl (mod_of (by decide))
  have em2 : cB (eOp oGt (eOp oMod (eVar 1) (eC (.int 6))) (eC (.int 0))) [some d, some (.int m), some (.int deep), none, none] = some (decide (0 < m % 6)) := cB_of (eOp_of em rfl rfl)
  have ed : cB (eOp oGt (eVar 2) (eC (.int 0))) [some d, some (.int m), some (.int deep), none, none] = some (decide (0 < deep)) := cB_of (eOp_of rfl rfl rfl)
  have e6 : eOp oDiv (eVar 1) (eC (.int 6)) [some d, some (.int m), some (.int deep), none, none] = some (.int (m / 6)) := eOp_of rfl rfl (div_of (by decide) (by decide))
  have e1 : cAnd (cB (eOp oGt (eVar 2) (eC (.int 0)))) (cAnd (cT (eIs "tuple" (eVar 0))) (cAnd (cB (eOp oGt (eCall fLen (aCons (eVar 0) aNil)) (eC (.int 0)))) (cB (eOp oGt (eOp oMod (eVar 1) (eC (.int 6))) (eC (.int 0)))))) [some d, some (.int m), some (.int deep), none, none] = some (decide (0 < deep) && (tupNe d && decide (0 < m % 6))) := by
    cases hdd : decide (0 < deep) with
    | true => rw [hdd] at ed; rw [cAnd_t ed, tupNe_test hnd rfl fun _ => em2]; rfl
    | false => rw [hdd] at ed; rw [cAnd_f ed]; rfl
  cases ht : (decide (0 < deep) && (tupNe d && decide (0 < m % 6))) with
  | true =>
    rw [ht] at e1
    rw [Bool.and_eq_true, Bool.and_eq_true] at ht
    obtain ⟨ht1, ht2, ht3⟩ := ht
    have hdeep := of_decide_eq_true ht1
    cases d with
    | tuple l =>
      have hne : l ≠ [] := fun z => by rw [z] at ht2; cases ht2
      have hll : l.length ≤ 100 := hln
      have hpos : 0 < l.length := List.length_pos_iff.mpr hne
      obtain ⟨j, hj, ej⟩ := spo_index (k := 0) (m := m / 6) hne
      obtain ⟨r, q1, q2, q3⟩ := hrec hdeep l rfl j hj
      have hla : ∀ p ∈ l, PyData.canLay0 p = true ∧ PyData.depth p ≤ 9 := fun p hp => ⟨layAll_mem (by simpa [PyData.canLay0] using hl) hp, by
        have h1 := depth_mem hp
        simp only [PyData.depth] at hdp
        omega⟩
      have h3 : eOp oMod (eOp oDiv (eVar 1) (eC (.int 6))) (eCall fLen (aCons (eVar 0) aNil)) [some (.tuple l), some (.int m), some (.int deep), none, none] = some (.int (j : Int)) := by
        rw [eOp_of e6 (len_tup rfl) (mod_of (by omega)), ej]
      have c1 : (cutD l none (some (j : Int))).length ≤ l.length := cutD_len l _ _
      have c2 : (cutD l (some ((j : Int) + 1)) none).length ≤ l.length := cutD_len l _ _
      refine ⟨.tuple ((cutD l none (some (j : Int)) ++ [r]) ++ cutD l (some ((j : Int) + 1)) none), ?_, ?_, ?_⟩
      · rw [sSeq_rt (d := .tuple ((cutD l none (some (j : Int)) ++ [r]) ++ cutD l (some ((j : Int) + 1)) none))]
        · rfl
        · rw [sIf_t e1, sSeq_nx (sSet_of h3)]
          show sSeq _ _ [some (.tuple l), some (.int m), some (.int deep), some (.int (j : Int)), none] = _
          rw [sSeq_nx (sSet_of (eCall_of (aCons_of (ix_tup rfl rfl (List.getElem?_eq_getElem hj)) (aCons_of (eOp_of rfl rfl (div_of (by decide) (by decide))) (aCons_of (eOp_of rfl rfl (sub_of _ _)) rfl))) q1))]
          show sRet _ [some (.tuple l), some (.int m), some (.int deep), some (.int (j : Int)), some r] = _
          refine sRet_of (eOp_of (eOp_of (x := .tuple (cutD l none (some (j : Int)))) (y := .tuple [r]) rfl rfl (add_tup _ _ ?_)) (y := .tuple (cutD l (some ((j : Int) + 1)) none)) rfl (add_tup _ _ ?_))
          · rw [List.length_singleton]; omega
          · rw [List.length_append, List.length_singleton]; omega
      · simp only [PyData.canLay0]
        refine layAll_of fun p hp => ?_
        rcases List.mem_append.mp hp with hp | hp
        · rcases List.mem_append.mp hp with hp | hp
          · exact (hla p (cutD_mem hp)).1
          · rw [List.mem_singleton.mp hp]; exact q2
        · exact (hla p (cutD_mem hp)).1
      · simp only [PyData.depth]
        have : PyData.depthAll ((cutD l none (some (j : Int)) ++ [r]) ++ cutD l (some ((j : Int) + 1)) none) ≤ 10 + k := depthAll_of fun p hp => by
          rcases List.mem_append.mp hp with hp | hp
          · rcases List.mem_append.mp hp with hp | hp
            · have := (hla p (cutD_mem hp)).2; omega
            · rw [List.mem_singleton.mp hp]; exact q3
          · have := (hla p (cutD_mem hp)).2; omega
        omega
    | _ => cases ht2
  | false =>
    rw [ht] at e1
    rw [sSeq_nx (δ' := [some d, some (.int m), some (.int deep), none, none]) (by rw [sIf_f e1]; rfl)]
    have e2 : cAnd (cT (eIs "tuple" (eVar 0))) (cAnd (cB (eOp oGt (eCall fLen (aCons (eVar 0) aNil)) (eC (.int 0)))) (cB (eOp oEq (eOp oMod (eOp oDiv (eVar 1) (eC (.int 6))) (eC (.int 2))) (eC (.int 0))))) [some d, some (.int m), some (.int deep), none, none] = some (tupNe d && (m / 6 % 2 == 0)) :=
      tupNe_test hnd rfl fun _ => cB_of (eOp_of (eOp_of e6 rfl (mod_of (by decide))) rfl (eq_int _ _))
    cases ht2 : (tupNe d && (m / 6 % 2 == 0)) with
    | true =>
      rw [ht2] at e2
      rw [Bool.and_eq_true] at ht2
      cases d with
      | tuple l =>
        have hne : l ≠ [] := fun z => by rw [z] at ht2; cases ht2.1
        have hll : l.length ≤ 100 := hln
        have hla : ∀ p ∈ l, PyData.canLay0 p = true ∧ PyData.depth p ≤ 9 := fun p hp => ⟨layAll_mem (by simpa [PyData.canLay0] using hl) hp, by
          have h1 := depth_mem hp
          simp only [PyData.depth] at hdp
          omega⟩
        have c1 : (cutD l (some (-1)) none).length ≤ l.length := cutD_len l _ _
        have hrep : ∀ n : Nat, ∀ p ∈ (List.replicate n l).flatten, p ∈ l := fun n p hp => by
          obtain ⟨z, hz, hpz⟩ := List.mem_flatten.mp hp
          rw [List.mem_replicate] at hz
          rw [← hz.2]; exact hpz
        have hall : ∀ r ∈ ([.list l, .tuple (cutD l none (some (-1))), .tuple (l ++ cutD l (some (-1)) none), .tuple (cutD l (some 1) none), .tuple (List.replicate 2 l).flatten, .tuple (List.replicate 6 l).flatten] : List D), PyData.canLay0 r = true ∧ PyData.depth r ≤ 10 := by
          intro r hr
          simp only [List.mem_cons, List.not_mem_nil, or_false] at hr
          rcases hr with rfl | rfl | rfl | rfl | rfl | rfl
          · exact (spo_list hla fun p hp => hp).2
          · exact (spo_list hla fun p hp => cutD_mem hp).1
          · exact (spo_list hla fun p hp => by rcases List.mem_append.mp hp with q | q; exact q; exact cutD_mem q).1
          · exact (spo_list hla fun p hp => cutD_mem hp).1
          · exact (spo_list hla (hrep 2)).1
          · exact (spo_list hla (hrep 6)).1
        obtain ⟨j, hj, ej⟩ := spo_index (k := 0) (l := ([.list l, .tuple (cutD l none (some (-1))), .tuple (l ++ cutD l (some (-1)) none), .tuple (cutD l (some 1) none), .tuple (List.replicate 2 l).flatten, .tuple (List.replicate 6 l).flatten] : List D)) (m := m / 12) (by simp)
        refine ⟨_, ?_, (hall _ (List.getElem_mem hj)).1, by have := (hall _ (List.getElem_mem hj)).2; omega⟩
        rw [sSeq_rt (f := sIf _ _ _) (d := _)]
        · exact finish_rt _
        · rw [sIf_t e2]
          refine sRet_of (ix_lst (l := [.list l, .tuple (cutD l none (some (-1))), .tuple (l ++ cutD l (some (-1)) none), .tuple (cutD l (some 1) none), .tuple (List.replicate 2 l).flatten, .tuple (List.replicate 6 l).flatten]) ?_ ?_ (List.getElem?_eq_getElem hj))
          · unfold eLst
            rw [aCons_of rfl (aCons_of rfl (aCons_of (eOp_of rfl (y := .tuple (cutD l (some (-1)) none)) rfl (add_tup _ _ (by omega))) (aCons_of rfl (aCons_of (eOp_of rfl rfl (mul_tup (by decide) (by decide) hne (by show l.length * 2 ≤ 16777216; omega))) (aCons_of (eOp_of rfl rfl (mul_tup (by decide) (by decide) hne (by show l.length * 6 ≤ 16777216; omega))) rfl)))))]
            rfl
          · rw [eOp_of (eOp_of rfl rfl (div_of (by decide) (by decide))) rfl (mod_of (by decide))]
            exact congrArg some (congrArg PyData.int ej)
      | _ => cases ht2.1
    | false =>
      rw [ht2] at e2
      rw [sSeq_nx (δ' := [some d, some (.int m), some (.int deep), none, none]) (by rw [sIf_f e2]; rfl)]
      obtain ⟨r, hr, er⟩ := v_Lodd (m / 6)
      refine ⟨r, ?_, (oddL_lay r hr).1, by have := (oddL_lay r hr).2; omega⟩
      rw [sRet_of (eCall_of (aCons_of e6 rfl) er)]
      rfl
theorem v_Lspoilt : ∀ (k : Nat) (d : D) (m deep : Int), Spo k d → 0 ≤ deep → deep ≤ k → ∃ r, R_Lspoilt (k + 1) [d, .int m, .int deep] = some r ∧ PyData.canLay0 r = true ∧ PyData.depth r ≤ 11 + k := by
  intro k
  induction k with
  | zero =>
    intro d m deep hs h0 hk
    exact spo_step (fun _ => none) hs.base (fun hd => by omega)
  | succ k ih =>
    intro d m deep hs h0 hk
    refine spo_step (R_Lspoilt (k + 1)) hs.base fun hd l e j hj => ?_
    obtain ⟨r, q1, q2, q3⟩ := ih l[j] (m / 30) (deep - 1) (hs.2 l e _ (List.getElem_mem hj)) (by omega) (by omega)
    exact ⟨r, q1, q2, by omega⟩
noncomputable def B_law : Fs := (sSeq (sSet 1 (eCall F_Ltable (aCons (eCall F_Lmixed (aCons (eVar 0) (aCons (eC (.int 0)) aNil))) aNil)))
    (sSeq (sSet 2 (eCall F_Lmixed (aCons (eVar 0) (aCons (eC (.int 1)) aNil))))
    (sSeq (sIf (cB (eOp oEq (eOp oMod (eVar 2) (eC (.int 2))) (eC (.int 1)))) (sSet 1 (eCall F_Lspoilt (aCons (eVar 1) (aCons (eCall F_Lmixed (aCons (eVar 0) (aCons (eC (.int 2)) aNil))) (aCons (eOp oMod (eOp oDiv (eVar 2) (eC (.int 2))) (eC (.int 3))) aNil))))) sNext)
    (sSeq (sSet 3 (eCall F_is_table (aCons (eVar 1) aNil)))
    (sSeq (sIf (cOr (cNot (cT (eIs "bool" (eVar 3)))) (cB (eOp oNe (eVar 3) (eCall F_Lis_table (aCons (eVar 1) aNil))))) (sRet (eC (.bool false))) sNext)
    (sSeq (sSet 4 (eCall F_Lodd (aCons (eOp oDiv (eVar 2) (eC (.int 6))) aNil)))
    (sSeq (sSet 3 (eCall F_is_base (aCons (eVar 4) aNil)))
    (sRet (eAnd (eIs "bool" (eVar 3)) (eOp oEq (eVar 3) (eCall F_Lnumber (aCons (eVar 4) (aCons (eC (.int 1)) (aCons (eC (.int 60)) aNil))))))))))))))
noncomputable def F_law : List D → Option D := dataOf 5 B_law
theorem spo_table (n : Int) : Spo 2 (encT (tableI 100001 n)) := by
  have x := tab_of (h := 100001) (by decide) n
  generalize tableI 100001 n = t at x
  generalize wideN n = w at x
  have hrow : ∀ r ∈ t, (PyData.canLay0 (encR r) = true ∧ PyData.depth (encR r) ≤ 10 ∧ lenD (encR r) ≤ 100) ∧ ∀ l, encR r = .tuple l → ∀ p ∈ l, Spo 0 p := fun r hr => by
    obtain ⟨h1, h2, _⟩ := lay_row r
    refine ⟨⟨h1, by omega, ?_⟩, fun l e p hp => ?_⟩
    · show (r.map PyData.int).length ≤ 100
      rw [List.length_map, x.rows r hr]
      have := x.wide.2
      omega
    · cases e
      obtain ⟨v, _, rfl⟩ := List.mem_map.mp hp
      exact ⟨by simp [PyData.canLay0], by simp [PyData.depth], by show (0 : Nat) ≤ 100; omega⟩
  have hl : ∀ p ∈ t.map encR, PyData.canLay0 p = true ∧ PyData.depth p ≤ 1 := fun p hp => by
    obtain ⟨r, _, rfl⟩ := List.mem_map.mp hp
    obtain ⟨h1, h2, _⟩ := lay_row r
    exact ⟨h1, by omega⟩
  refine ⟨⟨(spo_list hl fun p hp => hp).1.1, by have := (spo_list hl fun p hp => hp).1.2; show PyData.depth (PyData.tuple (t.map encR)) ≤ 10; omega, ?_⟩, fun l e p hp => ?_⟩
  · show (t.map encR).length ≤ 100
    rw [List.length_map]
    have := x.tall.2
    omega
  · cases e
    obtain ⟨r, hr, rfl⟩ := List.mem_map.mp hp
    exact hrow r hr
theorem v_Lis_table {d : D} (h : SeqAt.shaped d = true) : F_Lis_table [d] = some (.bool (isTab d)) := by
  show (if SeqAt.shaped d then some (PyData.bool (isTab d)) else none) = _
  rw [if_pos h]
theorem shaped_of {d : D} (h1 : PyData.canLay0 d = true) (h2 : PyData.depth d ≤ 64) : SeqAt.shaped d = true := by
  unfold SeqAt.shaped
  rw [h1, decide_eq_true h2]
  rfl
theorem k01_tail (sc d : D) (m1 : Int) (hl : PyData.canLay0 d = true) (hd : PyData.depth d ≤ 64) :
    finish ((sSeq (sSet 3 (eCall F_is_table (aCons (eVar 1) aNil)))
    (sSeq (sIf (cOr (cNot (cT (eIs "bool" (eVar 3)))) (cB (eOp oNe (eVar 3) (eCall F_Lis_table (aCons (eVar 1) aNil))))) (sRet (eC (.bool false))) sNext)
    (sSeq (sSet 4 (eCall F_Lodd (aCons (eOp oDiv (eVar 2) (eC (.int 6))) aNil)))
    (sSeq (sSet 3 (eCall F_is_base (aCons (eVar 4) aNil)))
    (sRet (eAnd (eIs "bool" (eVar 3)) (eOp oEq (eVar 3) (eCall F_Lnumber (aCons (eVar 4) (aCons (eC (.int 1)) (aCons (eC (.int 60)) aNil))))))))))) [some sc, some d, some (.int m1), none, none]) = some (.bool true) := by
  rw [sSeq_nx (sSet_of (eCall_of (aCons_of rfl rfl) (v_is_table hl)))]
  show finish (sSeq _ _ [some sc, some d, some (.int m1), some (.bool (isTab d)), none]) = _
  rw [sSeq_nx (δ' := [some sc, some d, some (.int m1), some (.bool (isTab d)), none])]
  · obtain ⟨r, hr, er⟩ := v_Lodd (m1 / 6)
    rw [sSeq_nx (sSet_of (eCall_of (aCons_of (eOp_of rfl rfl (div_of (by decide) (by decide))) rfl) er))]
    show finish (sSeq _ _ [some sc, some d, some (.int m1), some (.bool (isTab d)), some r]) = _
    have hnr := noD_of (oddL_lay r hr).1
    rw [sSeq_nx (sSet_of (eCall_of (aCons_of rfl rfl) (v_is_base hnr)))]
    show finish (sRet _ [some sc, some d, some (.int m1), some (.bool (inB 1 60 r)), some r]) = _
    rw [sRet_of (d := .bool true)]
    · rfl
    · rw [eAnd_t (eIs_of rfl rfl rfl), eOp_of rfl (eCall_of (aCons_of rfl (aCons_of rfl (aCons_of rfl rfl))) (v_Lnumber 1 60 hnr)) (eq_bool _ _)]
      rw [beq_self_eq_true]
  · rw [sIf_f]
    · rfl
    · rw [cOr_f (by rw [cNot_of (cT_bool (eIs_of (t := true) rfl rfl rfl))]; rfl), cB_of (eOp_of rfl (eCall_of (aCons_of rfl rfl) (v_Lis_table (shaped_of hl hd))) (ne_bool _ _)), beq_self_eq_true]
      rfl
theorem law_k01 (ns : List Int) : F_law [.list (ns.map PyData.int)] = some (.bool true) := by
  show finish (B_law [some (.list (ns.map PyData.int)), none, none, none, none]) = _
  unfold B_law
  rw [sSeq_nx (sSet_of (eCall_of (aCons_of (eCall_of (aCons_of rfl (aCons_of rfl rfl)) (v_Lmixed ns 0 (by decide))) rfl) (v_Ltable _)))]
  generalize hm0 : mixI (ns.getD 0 0) ((0 : Nat) : Int) = m0
  show finish (sSeq _ _ [some (.list (ns.map PyData.int)), some (encT (tableI 100001 m0)), none, none, none]) = _
  rw [sSeq_nx (sSet_of (eCall_of (aCons_of rfl (aCons_of rfl rfl)) (v_Lmixed ns 1 (by decide))))]
  generalize hm1 : mixI (ns.getD 1 0) ((1 : Nat) : Int) = m1
  show finish (sSeq _ _ [some (.list (ns.map PyData.int)), some (encT (tableI 100001 m0)), some (.int m1), none, none]) = _
  have hs := spo_table m0
  generalize encT (tableI 100001 m0) = th at hs
  have et : cB (eOp oEq (eOp oMod (eVar 2) (eC (.int 2))) (eC (.int 1))) [some (.list (ns.map PyData.int)), some th, some (.int m1), none, none] = some (m1 % 2 == 1) := cB_of (eOp_of (eOp_of rfl rfl (mod_of (by decide))) rfl (eq_int _ _))
  cases hc : (m1 % 2 == 1) with
  | true =>
    rw [hc] at et
    obtain ⟨r, q1, q2, q3⟩ := v_Lspoilt 2 th (mixI (ns.getD 2 0) ((2 : Nat) : Int)) (m1 / 2 % 3) hs (by omega) (by omega)
    have q1' : F_Lspoilt [th, .int (mixI (ns.getD 2 0) ((2 : Nat) : Int)), .int (m1 / 2 % 3)] = some r := q1
    rw [sSeq_nx (δ' := [some (.list (ns.map PyData.int)), some r, some (.int m1), none, none])]
    · exact k01_tail _ _ _ q2 (by omega)
    · rw [sIf_t et, sSet_of (eCall_of (aCons_of rfl (aCons_of (eCall_of (aCons_of rfl (aCons_of rfl rfl)) (v_Lmixed ns 2 (by decide))) (aCons_of (eOp_of (eOp_of rfl rfl (div_of (by decide) (by decide))) rfl (mod_of (by decide))) rfl))) q1')]
      rfl
  | false =>
    rw [hc] at et
    rw [sSeq_nx (δ' := [some (.list (ns.map PyData.int)), some th, some (.int m1), none, none]) (by rw [sIf_f et]; rfl)]
    exact k01_tail _ _ _ hs.base.1 (by have := hs.base.2.1; omega)
end PU
set_option maxHeartbeats 4000000
namespace PU
open PySem PySem.Spec L2
open PyProof.Rows hiding St
variable {P : Program} {w : World} {K : PySem.W.Frag} {mg : Str → Option Value} {base : Heap}
def top (i : Nat) : Stmt := PySem.Challenge.pw_fairround_k01_tables.main.body.getD i (.Pass ⟨0, 0, 0, 0⟩)
abbrev s_is_whole : Stmt := top 5
theorem sc_is_whole : FnScope ["thing"] ["thing"] (defScope s_is_whole) := ⟨rfl, rfl, rfl, by decide +kernel, rfl, by decide +kernel, by decide +kernel⟩
theorem fn_is_whole {f : Addr} {fd : FuncData} (F : Fun K "is_whole" "is_whole" s_is_whole f fd) (m_bool : mg "bool" = none) (m_int : mg "int" = none) (m_isinstance : mg "isinstance" = none) (kt_bool : KitT K "bool") (kt_int : KitT K "int") : FnOk P w K mg base CX0 1 f fd ["thing"] (spP K 1 F_is_whole) := by
  refine fn_plain (k := 0) F sc_is_whole (fun cdv A outer s H E hr => ?_)
  exact (puss_one (pus_ret (pu_and (pu_isinst (T := "int") kt_int (pu_var 0) rfl m_isinstance bb_isinstance rfl m_int bb_int) (pu_one (pu_not (pu_isinst (T := "bool") kt_bool (pu_var 0) rfl m_isinstance bb_isinstance rfl m_bool bb_bool))))))
theorem ok_is_whole {f : Addr} {fd : FuncData} (F : Fun K "is_whole" "is_whole" s_is_whole f fd) (hb : Binds K fd ["thing"] []) (hm : mg "is_whole" = some (.ref f)) (m_bool : mg "bool" = none) (m_int : mg "int" = none) (m_isinstance : mg "isinstance" = none) (kt_bool : KitT K "bool") (kt_int : KitT K "int") : Df P w K mg base 1 "is_whole" ["thing"] F_is_whole :=
  ⟨f, fd, fn_is_whole F m_bool m_int m_isinstance kt_bool kt_int, hb, F.kp, hm⟩
abbrev s_is_count : Stmt := top 6
theorem sc_is_count : FnScope ["thing"] ["thing"] (defScope s_is_count) := ⟨rfl, rfl, rfl, by decide +kernel, rfl, by decide +kernel, by decide +kernel⟩
theorem fn_is_count {f : Addr} {fd : FuncData} (F : Fun K "is_count" "is_count" s_is_count f fd) {t_GREATEST_COUNT : Tok} (m_GREATEST_COUNT : mg "GREATEST_COUNT" = some (.int 100000 t_GREATEST_COUNT)) (d_is_whole : Df P w K mg base 1 "is_whole" ["thing"] F_is_whole) : FnOk P w K mg base CX0 2 f fd ["thing"] (spP K 1 F_is_count) := by
  refine fn_plain (k := 1) F sc_is_count (fun cdv A outer s H E hr => ?_)
  exact (puss_one (pus_ret (pu_and (pu_callD d_is_whole (hr.mono (by decide)) rfl (pua_cons (pu_var 0) pua_nil) (fun _ _ h => aLen (es := [(eVar 0)]) h)) (pu_one (pu_chain cd_le cd_le pu_int (pu_var 0) (pu_gint rfl m_GREATEST_COUNT))))))
theorem ok_is_count {f : Addr} {fd : FuncData} (F : Fun K "is_count" "is_count" s_is_count f fd) (hb : Binds K fd ["thing"] []) (hm : mg "is_count" = some (.ref f)) {t_GREATEST_COUNT : Tok} (m_GREATEST_COUNT : mg "GREATEST_COUNT" = some (.int 100000 t_GREATEST_COUNT)) (d_is_whole : Df P w K mg base 1 "is_whole" ["thing"] F_is_whole) : Df P w K mg base 2 "is_count" ["thing"] F_is_count :=
  ⟨f, fd, fn_is_count F m_GREATEST_COUNT d_is_whole, hb, F.kp, hm⟩
abbrev s_is_row : Stmt := top 7
theorem sc_is_row : FnScope ["thing"] ["thing"] (defScope s_is_row) := ⟨rfl, rfl, rfl, by decide +kernel, rfl, by decide +kernel, by decide +kernel⟩
theorem fn_is_row {f : Addr} {fd : FuncData} (F : Fun K "is_row" "is_row" s_is_row f fd) (m_all : mg "all" = none) (m_isinstance : mg "isinstance" = none) (m_len : mg "len" = none) (m_tuple : mg "tuple" = none) {t_MOST_PILLARS : Tok} (m_MOST_PILLARS : mg "MOST_PILLARS" = some (.int 5 t_MOST_PILLARS)) (d_is_count : Df P w K mg base 2 "is_count" ["thing"] F_is_count) (kt_tuple : KitT K "tuple") : FnOk P w K mg base CX0 3 f fd ["thing"] (spP K 1 F_is_row) := by
  refine fn_plain (k := 2) F sc_is_row (fun cdv A outer s H E hr => ?_)
  exact (puss_cons (pus_if (put_not (put_val (pu_isinst (T := "tuple") kt_tuple (pu_var 0) rfl m_isinstance bb_isinstance rfl m_tuple bb_tuple))) (puss_one (pus_ret pu_bl)) puss_nil)
    (puss_one (pus_ret (pu_and (pu_chain cd_le cd_le pu_int (pu_callB cd_len rfl m_len bb_len (pua_cons (pu_var 0) pua_nil)) (pu_gint rfl m_MOST_PILLARS)) (pu_one (pu_callB (cd_all rfl) rfl m_all bb_all (pua_cons (pu_lc (N := ["part"]) (sel := [none]) (XS := ((defScope s_is_row).names)) ⟨rfl, by decide +kernel, by decide +kernel, by decide +kernel, by decide +kernel, rfl, by dsimp only [lcCx, cxOf, Cx.nox]; decide +kernel⟩ rfl rfl (pui_seq (pu_var 0)) (td_name 0) (by decide) (fun _ _ _ _ => (pg_name (i := 0) (by dsimp only [lcCx, cxOf, Cx.nox]; decide +kernel) rfl (by first | exact Or.inl rfl | exact Or.inr rfl))) (fun _ _ _ _ => puif_nil) (fun _ _ _ _ => (pu_callD d_is_count (hr.mono (by decide)) rfl (pua_cons (pu_var 0) pua_nil) (fun _ _ h => aLen (es := [(eVar 0)]) h)))) pua_nil)))))))
theorem ok_is_row {f : Addr} {fd : FuncData} (F : Fun K "is_row" "is_row" s_is_row f fd) (hb : Binds K fd ["thing"] []) (hm : mg "is_row" = some (.ref f)) (m_all : mg "all" = none) (m_isinstance : mg "isinstance" = none) (m_len : mg "len" = none) (m_tuple : mg "tuple" = none) {t_MOST_PILLARS : Tok} (m_MOST_PILLARS : mg "MOST_PILLARS" = some (.int 5 t_MOST_PILLARS)) (d_is_count : Df P w K mg base 2 "is_count" ["thing"] F_is_count) (kt_tuple : KitT K "tuple") : Df P w K mg base 3 "is_row" ["thing"] F_is_row :=
  ⟨f, fd, fn_is_row F m_all m_isinstance m_len m_tuple m_MOST_PILLARS d_is_count kt_tuple, hb, F.kp, hm⟩
abbrev s_is_base : Stmt := top 8
theorem sc_is_base : FnScope ["thing"] ["thing"] (defScope s_is_base) := ⟨rfl, rfl, rfl, by decide +kernel, rfl, by decide +kernel, by decide +kernel⟩
theorem fn_is_base {f : Addr} {fd : FuncData} (F : Fun K "is_base" "is_base" s_is_base f fd) {t_GREATEST_BASE : Tok} (m_GREATEST_BASE : mg "GREATEST_BASE" = some (.int 60 t_GREATEST_BASE)) (d_is_whole : Df P w K mg base 1 "is_whole" ["thing"] F_is_whole) : FnOk P w K mg base CX0 2 f fd ["thing"] (spP K 1 F_is_base) := by
  refine fn_plain (k := 1) F sc_is_base (fun cdv A outer s H E hr => ?_)
  exact (puss_one (pus_ret (pu_and (pu_callD d_is_whole (hr.mono (by decide)) rfl (pua_cons (pu_var 0) pua_nil) (fun _ _ h => aLen (es := [(eVar 0)]) h)) (pu_one (pu_chain cd_le cd_le pu_int (pu_var 0) (pu_gint rfl m_GREATEST_BASE))))))
theorem ok_is_base {f : Addr} {fd : FuncData} (F : Fun K "is_base" "is_base" s_is_base f fd) (hb : Binds K fd ["thing"] []) (hm : mg "is_base" = some (.ref f)) {t_GREATEST_BASE : Tok} (m_GREATEST_BASE : mg "GREATEST_BASE" = some (.int 60 t_GREATEST_BASE)) (d_is_whole : Df P w K mg base 1 "is_whole" ["thing"] F_is_whole) : Df P w K mg base 2 "is_base" ["thing"] F_is_base :=
  ⟨f, fd, fn_is_base F m_GREATEST_BASE d_is_whole, hb, F.kp, hm⟩
abbrev s_is_table : Stmt := top 9
theorem sc_is_table : FnScope ["thing"] ["thing"] (defScope s_is_table) := ⟨rfl, rfl, rfl, by decide +kernel, rfl, by decide +kernel, by decide +kernel⟩
theorem fn_is_table {f : Addr} {fd : FuncData} (F : Fun K "is_table" "is_table" s_is_table f fd) (m_all : mg "all" = none) (m_isinstance : mg "isinstance" = none) (m_len : mg "len" = none) (m_tuple : mg "tuple" = none) {t_MOST_ROWS : Tok} (m_MOST_ROWS : mg "MOST_ROWS" = some (.int 5 t_MOST_ROWS)) (d_is_row : Df P w K mg base 3 "is_row" ["thing"] F_is_row) (kt_tuple : KitT K "tuple") : FnOk P w K mg base CX0 4 f fd ["thing"] (spP K 1 F_is_table) := by
  refine fn_plain (k := 3) F sc_is_table (fun cdv A outer s H E hr => ?_)
  exact (puss_cons (pus_if (put_not (put_val (pu_isinst (T := "tuple") kt_tuple (pu_var 0) rfl m_isinstance bb_isinstance rfl m_tuple bb_tuple))) (puss_one (pus_ret pu_bl)) puss_nil)
    (puss_cons (pus_if (put_w (puw_or (put_not (put_chain cd_le cd_le pu_int (pu_callB cd_len rfl m_len bb_len (pua_cons (pu_var 0) pua_nil)) (pu_gint rfl m_MOST_ROWS))) (puw_or1 (put_not (put_val (pu_callB (cd_all rfl) rfl m_all bb_all (pua_cons (pu_lc (N := ["part"]) (sel := [none]) (XS := ((defScope s_is_table).names)) ⟨rfl, by decide +kernel, by decide +kernel, by decide +kernel, by decide +kernel, rfl, by dsimp only [lcCx, cxOf, Cx.nox]; decide +kernel⟩ rfl rfl (pui_seq (pu_var 0)) (td_name 0) (by decide) (fun _ _ _ _ => (pg_name (i := 0) (by dsimp only [lcCx, cxOf, Cx.nox]; decide +kernel) rfl (by first | exact Or.inl rfl | exact Or.inr rfl))) (fun _ _ _ _ => puif_nil) (fun _ _ _ _ => (pu_callD d_is_row (hr.mono (by decide)) rfl (pua_cons (pu_var 0) pua_nil) (fun _ _ h => aLen (es := [(eVar 0)]) h)))) pua_nil))))))) (puss_one (pus_ret pu_bl)) puss_nil)
    (puss_one (pus_ret (pu_callB (cd_all rfl) rfl m_all bb_all (pua_cons (pu_lc (N := ["row", "thing"]) (sel := [none, some 0]) (XS := ((defScope s_is_table).names)) ⟨rfl, by decide +kernel, by decide +kernel, by decide +kernel, by decide +kernel, rfl, by dsimp only [lcCx, cxOf, Cx.nox]; decide +kernel⟩ rfl rfl (pui_seq (pu_var 0)) (td_name 0) (by decide) (fun _ _ _ _ => (pg_name (i := 0) (by dsimp only [lcCx, cxOf, Cx.nox]; decide +kernel) rfl (by first | exact Or.inl rfl | exact Or.inr rfl))) (fun _ _ _ _ => puif_nil) (fun _ _ _ _ => (pu_cmp (cd_eq hr.units) (pu_callB cd_len rfl m_len bb_len (pua_cons (pu_var 0) pua_nil)) (pu_callB cd_len rfl m_len bb_len (pua_cons (pu_ix (pu_var 1) pu_int) pua_nil)) (nomark _)))) pua_nil))))))
theorem ok_is_table {f : Addr} {fd : FuncData} (F : Fun K "is_table" "is_table" s_is_table f fd) (hb : Binds K fd ["thing"] []) (hm : mg "is_table" = some (.ref f)) (m_all : mg "all" = none) (m_isinstance : mg "isinstance" = none) (m_len : mg "len" = none) (m_tuple : mg "tuple" = none) {t_MOST_ROWS : Tok} (m_MOST_ROWS : mg "MOST_ROWS" = some (.int 5 t_MOST_ROWS)) (d_is_row : Df P w K mg base 3 "is_row" ["thing"] F_is_row) (kt_tuple : KitT K "tuple") : Df P w K mg base 4 "is_table" ["thing"] F_is_table :=
  ⟨f, fd, fn_is_table F m_all m_isinstance m_len m_tuple m_MOST_ROWS d_is_row kt_tuple, hb, F.kp, hm⟩
abbrev s_Lcell_at : Stmt := top 11
theorem sc_Lcell_at : FnScope ["_law_script", "_law_k"] ["_law_script", "_law_k"] (defScope s_Lcell_at) := ⟨rfl, rfl, rfl, by decide +kernel, rfl, by decide +kernel, by decide +kernel⟩
theorem fn_Lcell_at {f : Addr} {fd : FuncData} (F : Fun K "_law_cell_at" "_law_cell_at" s_Lcell_at f fd) (m_len : mg "len" = none) : FnOk P w K mg base CX0 1 f fd ["_law_script", "_law_k"] (spP K 2 F_Lcell_at) := by
  refine fn_plain (k := 0) F sc_Lcell_at (fun cdv A outer s H E hr => ?_)
  exact (puss_cons (pus_if (put_cmp cd_lt (pu_var 1) (pu_callB cd_len rfl m_len bb_len (pua_cons (pu_var 0) pua_nil)) (nomark _)) (puss_one (pus_ret (pu_ix (pu_var 0) (pu_var 1)))) puss_nil)
    (puss_one (pus_ret pu_int)))
theorem ok_Lcell_at {f : Addr} {fd : FuncData} (F : Fun K "_law_cell_at" "_law_cell_at" s_Lcell_at f fd) (hb : Binds K fd ["_law_script", "_law_k"] []) (hm : mg "_law_cell_at" = some (.ref f)) (m_len : mg "len" = none) : Df P w K mg base 1 "_law_cell_at" ["_law_script", "_law_k"] F_Lcell_at :=
  ⟨f, fd, fn_Lcell_at F m_len, hb, F.kp, hm⟩
abbrev s_Lmixed : Stmt := top 12
theorem sc_Lmixed : FnScope ["_law_script", "_law_k", "_law_drawn_here"] ["_law_script", "_law_k"] (defScope s_Lmixed) := ⟨rfl, rfl, rfl, by decide +kernel, rfl, by decide +kernel, by decide +kernel⟩
theorem fn_Lmixed {f : Addr} {fd : FuncData} (F : Fun K "_law_mixed" "_law_mixed" s_Lmixed f fd) (d_Lcell_at : Df P w K mg base 1 "_law_cell_at" ["_law_script", "_law_k"] F_Lcell_at) : FnOk P w K mg base CX0 2 f fd ["_law_script", "_law_k"] (spP K 2 F_Lmixed) := by
  refine fn_plain (k := 1) F sc_Lmixed (fun cdv A outer s H E hr => ?_)
  exact (puss_cons (pus_set (i := 2) sc_Lmixed.nd (pu_mod (pu_mul (pu_add (pu_add (pu_callD d_Lcell_at (hr.mono (by decide)) rfl (pua_cons (pu_var 0) (pua_cons (pu_var 1) pua_nil)) (fun _ _ h => aLen (es := [(eVar 0), (eVar 1)]) h)) (pu_mul pu_int (pu_var 1))) pu_int) pu_int) pu_int))
    (puss_one (pus_ret (pu_mod (pu_add (pu_add (pu_mul (pu_var 2) (pu_var 2)) (pu_mul pu_int (pu_var 2))) (pu_var 1)) pu_int))))
theorem ok_Lmixed {f : Addr} {fd : FuncData} (F : Fun K "_law_mixed" "_law_mixed" s_Lmixed f fd) (hb : Binds K fd ["_law_script", "_law_k"] []) (hm : mg "_law_mixed" = some (.ref f)) (d_Lcell_at : Df P w K mg base 1 "_law_cell_at" ["_law_script", "_law_k"] F_Lcell_at) : Df P w K mg base 2 "_law_mixed" ["_law_script", "_law_k"] F_Lmixed :=
  ⟨f, fd, fn_Lmixed F d_Lcell_at, hb, F.kp, hm⟩
abbrev s_Ldrawn : Stmt := top 13
theorem sc_Ldrawn : FnScope ["_law_number_here", "_law_k", "_law_drawn_here"] ["_law_number_here", "_law_k"] (defScope s_Ldrawn) := ⟨rfl, rfl, rfl, by decide +kernel, rfl, by decide +kernel, by decide +kernel⟩
theorem fn_Ldrawn {f : Addr} {fd : FuncData} (F : Fun K "_law_drawn" "_law_drawn" s_Ldrawn f fd)  : FnOk P w K mg base CX0 1 f fd ["_law_number_here", "_law_k"] (spP K 2 F_Ldrawn) := by
  refine fn_plain (k := 0) F sc_Ldrawn (fun cdv A outer s H E hr => ?_)
  exact (puss_cons (pus_set (i := 2) sc_Ldrawn.nd (pu_mod (pu_mul (pu_add (pu_add (pu_var 0) (pu_mul pu_int (pu_var 1))) pu_int) pu_int) pu_int))
    (puss_one (pus_ret (pu_mod (pu_add (pu_add (pu_mul (pu_var 2) (pu_var 2)) (pu_mul pu_int (pu_var 2))) (pu_var 1)) pu_int))))
theorem ok_Ldrawn {f : Addr} {fd : FuncData} (F : Fun K "_law_drawn" "_law_drawn" s_Ldrawn f fd) (hb : Binds K fd ["_law_number_here", "_law_k"] []) (hm : mg "_law_drawn" = some (.ref f))  : Df P w K mg base 1 "_law_drawn" ["_law_number_here", "_law_k"] F_Ldrawn :=
  ⟨f, fd, fn_Ldrawn F , hb, F.kp, hm⟩
abbrev s_Lnumber : Stmt := top 14
theorem sc_Lnumber : FnScope ["_law_thing", "_law_low", "_law_high"] ["_law_thing", "_law_low", "_law_high"] (defScope s_Lnumber) := ⟨rfl, rfl, rfl, by decide +kernel, rfl, by decide +kernel, by decide +kernel⟩
theorem fn_Lnumber {f : Addr} {fd : FuncData} (F : Fun K "_law_number" "_law_number" s_Lnumber f fd) (m_bool : mg "bool" = none) (m_int : mg "int" = none) (m_isinstance : mg "isinstance" = none) (kt_bool : KitT K "bool") (kt_int : KitT K "int") : FnOk P w K mg base CX0 1 f fd ["_law_thing", "_law_low", "_law_high"] (spP K 3 F_Lnumber) := by
  refine fn_plain (k := 0) F sc_Lnumber (fun cdv A outer s H E hr => ?_)
  exact (puss_one (pus_ret (pu_and (pu_isinst (T := "int") kt_int (pu_var 0) rfl m_isinstance bb_isinstance rfl m_int bb_int) (pu_and (pu_not (pu_isinst (T := "bool") kt_bool (pu_var 0) rfl m_isinstance bb_isinstance rfl m_bool bb_bool)) (pu_one (pu_chain cd_le cd_le (pu_var 1) (pu_var 0) (pu_var 2)))))))
theorem ok_Lnumber {f : Addr} {fd : FuncData} (F : Fun K "_law_number" "_law_number" s_Lnumber f fd) (hb : Binds K fd ["_law_thing", "_law_low", "_law_high"] []) (hm : mg "_law_number" = some (.ref f)) (m_bool : mg "bool" = none) (m_int : mg "int" = none) (m_isinstance : mg "isinstance" = none) (kt_bool : KitT K "bool") (kt_int : KitT K "int") : Df P w K mg base 1 "_law_number" ["_law_thing", "_law_low", "_law_high"] F_Lnumber :=
  ⟨f, fd, fn_Lnumber F m_bool m_int m_isinstance kt_bool kt_int, hb, F.kp, hm⟩
abbrev s_Ltable : Stmt := top 15
theorem sc_Ltable : FnScope ["_law_number_here", "_law_wide", "_law_tall", "_law_high", "_law_rows", "_law_at", "_law_drawn_here"] ["_law_number_here"] (defScope s_Ltable) := ⟨rfl, rfl, rfl, by decide +kernel, rfl, by decide +kernel, by decide +kernel⟩
theorem fn_Ltable {f : Addr} {fd : FuncData} (F : Fun K "_law_table" "_law_table" s_Ltable f fd) (m_range : mg "range" = none) (m_tuple : mg "tuple" = none) (d_Ldrawn : Df P w K mg base 1 "_law_drawn" ["_law_number_here", "_law_k"] F_Ldrawn) : FnOk P w K mg base CX0 2 f fd ["_law_number_here"] (spP K 1 F_Ltable) := by
  refine fn_plain (k := 1) F sc_Ltable (fun cdv A outer s H E hr => ?_)
  exact (puss_cons (pus_set (i := 1) sc_Ltable.nd (pu_add pu_int (pu_mod (pu_var 0) pu_int)))
    (puss_cons (pus_set (i := 2) sc_Ltable.nd (pu_add pu_int (pu_mod (pu_div (pu_var 0) pu_int) pu_int)))
    (puss_cons (pus_set (i := 3) sc_Ltable.nd (pu_ix (pu_tup (pua_cons pu_int (pua_cons pu_int (pua_cons pu_int (pua_cons pu_int pua_nil))))) (pu_mod (pu_div (pu_var 0) pu_int) pu_int)))
    (puss_openC (o := 4) sc_Ltable.nd pua_nil (oss_cons (os_for PassesOwn.never rfl (pui_rng1 rfl m_range (pua_cons (pu_var 2) pua_nil)) (td_name 5) (by decide) (pg_name (i := 5) sc_Ltable.nd rfl (by first | exact Or.inl rfl | exact Or.inr rfl)) (oss_cons (os_lift (pus_set (i := 6) sc_Ltable.nd (pu_callD d_Ldrawn (hr.mono (by decide)) rfl (pua_cons (pu_var 0) (pua_cons (pu_var 5) pua_nil)) (fun _ _ h => aLen (es := [(eVar 0), (eVar 5)]) h))) (leaves_set (by decide)))
    (oss_one (os_app (o := 4) (pu_callTy cd_tuple rfl m_tuple bb_tuple (pua_cons (pu_lc (N := ["_law_place", "_law_drawn_here", "_law_high"]) (sel := [none, some 6, some 3]) (XS := ((defScope s_Ltable).names)) ⟨rfl, by decide +kernel, by decide +kernel, by decide +kernel, by decide +kernel, rfl, by dsimp only [lcCx, cxOf, Cx.nox]; decide +kernel⟩ rfl rfl (pui_rng1 rfl m_range (pua_cons (pu_var 1) pua_nil)) (td_name 0) (by decide) (fun _ _ _ _ => (pg_name (i := 0) (by dsimp only [lcCx, cxOf, Cx.nox]; decide +kernel) rfl (by first | exact Or.inl rfl | exact Or.inr rfl))) (fun _ _ _ _ => puif_nil) (fun _ _ _ _ => (pu_mod (pu_div (pu_callD d_Ldrawn (hr.mono (by decide)) rfl (pua_cons (pu_var 1) (pua_cons (pu_var 0) pua_nil)) (fun _ _ h => aLen (es := [(eVar 1), (eVar 0)]) h)) pu_int) (pu_var 2)))) pua_nil))))) (gN_leaves (by decide)))
    (oss_close (puss_one (pus_ret (pu_callTy cd_tuple rfl m_tuple bb_tuple (pua_cons (pu_var 4) pua_nil))))))))))
theorem ok_Ltable {f : Addr} {fd : FuncData} (F : Fun K "_law_table" "_law_table" s_Ltable f fd) (hb : Binds K fd ["_law_number_here"] []) (hm : mg "_law_table" = some (.ref f)) (m_range : mg "range" = none) (m_tuple : mg "tuple" = none) (d_Ldrawn : Df P w K mg base 1 "_law_drawn" ["_law_number_here", "_law_k"] F_Ldrawn) : Df P w K mg base 2 "_law_table" ["_law_number_here"] F_Ltable :=
  ⟨f, fd, fn_Ltable F m_range m_tuple d_Ldrawn, hb, F.kp, hm⟩
abbrev s_Lbase : Stmt := top 16
theorem sc_Lbase : FnScope ["_law_number_here"] ["_law_number_here"] (defScope s_Lbase) := ⟨rfl, rfl, rfl, by decide +kernel, rfl, by decide +kernel, by decide +kernel⟩
theorem fn_Lbase {f : Addr} {fd : FuncData} (F : Fun K "_law_base" "_law_base" s_Lbase f fd)  : FnOk P w K mg base CX0 1 f fd ["_law_number_here"] (spP K 1 F_Lbase) := by
  refine fn_plain (k := 0) F sc_Lbase (fun cdv A outer s H E hr => ?_)
  exact (puss_one (pus_ret (pu_ix (pu_tup (pua_cons pu_int (pua_cons pu_int (pua_cons pu_int (pua_cons pu_int (pua_cons pu_int (pua_cons (pu_add pu_int (pu_mod (pu_div (pu_var 0) pu_int) pu_int)) pua_nil))))))) (pu_mod (pu_var 0) pu_int))))
theorem ok_Lbase {f : Addr} {fd : FuncData} (F : Fun K "_law_base" "_law_base" s_Lbase f fd) (hb : Binds K fd ["_law_number_here"] []) (hm : mg "_law_base" = some (.ref f))  : Df P w K mg base 1 "_law_base" ["_law_number_here"] F_Lbase :=
  ⟨f, fd, fn_Lbase F , hb, F.kp, hm⟩
abbrev s_Lis_table : Stmt := top 17
theorem sc_Lis_table : FnScope ["_law_thing", "_law_sizes", "_law_row"] ["_law_thing"] (defScope s_Lis_table) := ⟨rfl, rfl, rfl, by decide +kernel, rfl, by decide +kernel, by decide +kernel⟩
theorem fn_Lis_table {f : Addr} {fd : FuncData} (F : Fun K "_law_is_table" "_law_is_table" s_Lis_table f fd) (m_isinstance : mg "isinstance" = none) (m_len : mg "len" = none) (m_tuple : mg "tuple" = none) (d_Lnumber : Df P w K mg base 1 "_law_number" ["_law_thing", "_law_low", "_law_high"] F_Lnumber) (kt_tuple : KitT K "tuple") : FnOk P w K mg base CX0 2 f fd ["_law_thing"] (spP K 1 F_Lis_table) := by
  refine F.ok (k := 1) sc_Lis_table (spP_len rfl) (fun cdv A outer s H vs Q E hr h => ?_)
  obtain ⟨ds, d, h1, h2, h3, h4⟩ := h
  obtain ⟨th, rfl, hsh, rfl⟩ : ∃ th, ds = [th] ∧ SeqAt.shaped th = true ∧ d = .bool (isTab th) := by
    unfold F_Lis_table at h3
    split at h3
    · rename_i th
      by_cases hc : SeqAt.shaped th = true
      · rw [if_pos hc] at h3; cases h3; exact ⟨th, rfl, hc, rfl⟩
      · rw [if_neg hc] at h3; cases h3
    · cases h3
  have hlay : PyData.canLay0 th = true := shaped_lay hsh
  have hdep : PyData.depth th ≤ 64 := by
    unfold SeqAt.shaped at hsh
    rw [Bool.and_eq_true] at hsh
    exact of_decide_eq_true hsh.2
  have hnd := noD_of hlay
  obtain ⟨v, rfl, rv⟩ := reps1 h2
  refine ⟨_, pss_cons (Ps.un (pus_if (put_w (puw_or (put_not (put_val (pu_isinst (T := "tuple") kt_tuple (pu_var 0) rfl m_isinstance bb_isinstance rfl m_tuple bb_tuple))) (puw_or1 (put_not (put_chain cd_le cd_le pu_int (pu_callB cd_len rfl m_len bb_len (pua_cons (pu_var 0) pua_nil)) pu_int))))) (puss_one (pus_ret pu_bl)) puss_nil))
    (pss_cons (ps_set (i := 1) sc_Lis_table.nd rfl (Or.inl rfl) pe_dnewK)
    (pss_cons (ps_for PassesOwn.never rfl (pi_tup (pv 0)) (pg_name (i := 2) sc_Lis_table.nd rfl (Or.inl rfl)) (pss_cons
      (Ps.un (pus_if (put_w (puw_or (put_not (put_val (pu_isinst (T := "tuple") kt_tuple (pu_var 2) rfl m_isinstance bb_isinstance rfl m_tuple bb_tuple))) (puw_or1 (put_not (put_chain cd_le cd_le pu_int (pu_callB cd_len rfl m_len bb_len (pua_cons (pu_var 2) pua_nil)) pu_int))))) (puss_one (pus_ret pu_bl)) puss_nil))
      (pss_cons
      (Ps.un (pus_if (put_cmp (cd_ne hr.units) (pu_lc (N := ["_law_part"]) (sel := [none]) (XS := ((defScope s_Lis_table).names)) ⟨rfl, by decide +kernel, by decide +kernel, by decide +kernel, by decide +kernel, rfl, by dsimp only [lcCx, cxOf, Cx.nox]; decide +kernel⟩ rfl rfl (pui_seq (pu_var 2)) (td_name 0) (by decide) (fun _ _ _ _ => (pg_name (i := 0) (by dsimp only [lcCx, cxOf, Cx.nox]; decide +kernel) rfl (by first | exact Or.inl rfl | exact Or.inr rfl))) (fun _ _ _ _ => (puif_one (put_not (put_val (pu_callD d_Lnumber (hr.mono (by decide)) rfl (pua_cons (pu_var 0) (pua_cons pu_int (pua_cons pu_int pua_nil))) (fun _ _ h => aLen (es := [(eVar 0), (eC (.int 0)), (eC (.int 100000))]) h)))))) (fun _ _ _ _ => (pu_var 0))) (pu_lst pua_nil) (nomark _)) (puss_one (pus_ret pu_bl)) puss_nil))
      (pss_one (ps_dput (hu_of hr) (pv 1) (Pu.un (pu_callB cd_len rfl m_len bb_len (pua_cons (pu_var 2) pua_nil))) pe_bl rfl)))))
    (pss_one (ps_ret (pe_cmpR op_eq (pe_callB call_lenD rfl m_len bb_len (pa_cons (pv 1) pa_nil)) pe_int (nomark _)))))), ?_⟩
  have rs0 : RepSt K H [some th, none, none] (L2.start ["_law_thing", "_law_sizes", "_law_row"] [v]) := rep_start (N := ["_law_thing", "_law_sizes", "_law_row"]) h2
  have ed := shape_test (δ := [some th, none, none]) (o := 0) rfl hnd
  cases hsb : shapeB th with
  | false =>
    rw [hsb] at ed
    have hT : isTab th = false := by
      cases th with
      | tuple l =>
        show ((decide (1 ≤ l.length) && decide (l.length ≤ 5)) && _ && _) = false
        rw [show (decide (1 ≤ l.length) && decide (l.length ≤ 5)) = false from hsb]; rfl
      | _ => rfl
    rw [hT] at h4
    exact ⟨_, .rt (.bool false), rs0, sIf_t ed, fun u H' s' r' => h4 u H' s' r'⟩
  | true =>
    rw [hsb] at ed
    refine ⟨_, .nx [some th, none, none], rs0, sIf_f ed, fun σ1 H1 s1 r1 => ?_⟩
    cases th with
    | tuple l =>
      have hl5 : l.length ≤ 5 := by
        have h9 : (decide (1 ≤ l.length) && decide (l.length ≤ 5)) = true := hsb
        rw [Bool.and_eq_true] at h9
        exact of_decide_eq_true h9.2
      have hla : ∀ q ∈ l, PyData.canLay0 q = true ∧ PyData.depth q ≤ 63 := fun q hq => ⟨layAll_mem (by simpa [PyData.canLay0] using hlay) hq, by
        have h9 := depth_mem hq
        simp only [PyData.depth] at hdep
        omega⟩
      rw [isTab_shape hsb] at h4
      refine fun p hp => ?_
      obtain ⟨v0, g0, rp0⟩ := r1.get 0 _ rfl
      obtain ⟨a, xs, rfl, sq, rps⟩ := rep_tup rp0
      have hxl : xs.length = l.length := rps.length
      have r1' : RepSt K H1 [some (.tuple l), some (opq p), none] (σ1.set 1 (some (.ref p))) := r1.set (Rep.ofOpq p) 1
      refine ⟨.ref a, (r1'.get 0 _ rfl).elim fun v1 h9 => ?_, a, rfl, ⟨xs, sqT_mono (same_upd hp _) sq⟩, for_tup (xs := xs) (fun i σ2 H2 => ∃ kvs a2, H2 p = some (.dK kvs) ∧ keysK kvs = ((l.take i).map fun r => (Sum.inl (lenD r : Int) : Key)).foldl addK [] ∧ kvs.length ≤ i ∧ (l.take i).all isR = true ∧ Same H1 (rm H2 p) ∧ RepSt K (rm H2 p) [some (.tuple l), some (opq p), a2] σ2)
        ⟨[], none, upd_same, rfl, Nat.le_refl _, rfl, by rw [rm_upd hp]; exact Same.refl _, by rw [rm_upd hp]; exact r1'⟩ (fun i σ2 H2 _ ⟨kvs, a2, _, _, _, _, s2, _⟩ => sqT_mono (same_rm H2 p) (sqT_mono s2 sq)) ?_ ?_⟩
      · have h8 := h9.1
        rw [List.getElem?_set_ne (by decide)] at h8 ⊢
        exact g0
      · rintro i x σ2 H2 hx ⟨kvs, a2, hp2, hk, hkl, hall, s2, r2⟩
        have hi : i < l.length := by rw [← hxl]; exact (List.getElem?_eq_some_iff.mp hx).1
        obtain ⟨d, e1, rd⟩ := (rps.mono s2).get hx
        have ed1 : l[i] = d := by rw [List.getElem?_eq_getElem hi] at e1; exact Option.some.inj e1
        have hdm : d ∈ l := List.mem_of_getElem? e1
        have hdl := hla d hdm
        have r3 : RepSt K (rm H2 p) [some (.tuple l), some (opq p), some d] (σ2.set 2 (some x)) := r2.set rd 2
        have htk : l.take (i + 1) = l.take i ++ [d] := by rw [List.take_succ, e1]; rfl
        have hbad : isR d = false → (l.all isR && decide (((l.map fun r => (lenD r : Nat)).foldl addK []).length = 1)) = false := fun hz => by
          rw [Bool.eq_false_iff]
          intro q
          rw [Bool.and_eq_true] at q
          have := List.all_eq_true.mp q.1 d hdm
          rw [hz] at this; cases this
        have up : ∀ {H3 : Hp}, Same H2 H3 → Same H H3 := fun s3 => (((s1.trans s2).trans (same_rm H2 p)).trans s3)
        have et := shape_test (δ := [some (.tuple l), some (opq p), some d]) (o := 2) rfl (noD_of hdl.1)
        cases hsd : shapeB d with
        | false =>
          rw [hsd] at et
          have hR : isR d = false := by
            cases d with
            | tuple ld =>
              show ((decide (1 ≤ ld.length) && decide (ld.length ≤ 5)) && _) = false
              rw [show (decide (1 ≤ ld.length) && decide (ld.length ≤ 5)) = false from hsd]; rfl
            | _ => rfl
          rw [hbad hR] at h4
          exact ⟨_, .rt (.bool false), r3.mono (same_rm H2 p), sIf_t et, fun u H' s' r' => h4 u H' (up s') r'⟩
        | true =>
          rw [hsd] at et
          refine ⟨_, .nx [some (.tuple l), some (opq p), some d], r3.mono (same_rm H2 p), sIf_f et, fun σ4 H4 s4 r4 => ?_⟩
          cases d with
          | tuple ld =>
            have hld5 : ld.length ≤ 5 := by
              have h9 : (decide (1 ≤ ld.length) && decide (ld.length ≤ 5)) = true := hsd
              rw [Bool.and_eq_true] at h9
              exact of_decide_eq_true h9.2
            have ev := bad_test (l := ld) (δ := [some (.tuple l), some (opq p), some (.tuple ld)]) rfl (by omega) fun q hq => ⟨layAll_mem (by simpa [PyData.canLay0] using hdl.1) hq, by
              have h9 := depth_mem hq
              have h8 := hdl.2
              simp only [PyData.depth] at h8
              omega⟩
            have hRe : isR (.tuple ld) = ld.all isC := by
              show ((decide (1 ≤ ld.length) && decide (ld.length ≤ 5)) && ld.all isC) = _
              rw [show (decide (1 ≤ ld.length) && decide (ld.length ≤ 5)) = true from hsd, Bool.true_and]
            cases hcc : ld.all isC with
            | false =>
              rw [hcc] at ev
              rw [hbad (hRe.trans hcc)] at h4
              exact ⟨_, .rt (.bool false), r4, sIf_t ev, fun u H' s' r' => h4 u H' (up (s4.trans s')) r'⟩
            | true =>
              rw [hcc] at ev
              refine ⟨_, .nx [some (.tuple l), some (opq p), some (.tuple ld)], r4, sIf_f ev, fun σ5 H5 s5 r5 => ?_⟩
              obtain ⟨v1, g1, rp1⟩ := r5.get 1 _ rfl
              have := rep_opq rp1
              subst this
              refine ⟨.ref p, g1, [some (.tuple l), some (opq p), some (.tuple ld)], .int (ld.length : Int), r5, rfl, fun u H6 s6 r6 => ?_⟩
              have h5l : (5 : Nat) < sizeLine := by decide
              have hp6 : H6 p = some (.dK kvs) := s6 _ _ (s5 _ _ (s4 _ _ hp2))
              rw [rep_int r6]
              refine ⟨p, _, rfl, DPut.k (k := Sum.inl (ld.length : Int)) hp6 (by omega), _, some (.tuple ld), upd_same, ?_, ?_, ?_, ?_, ?_⟩
              · rw [putK_keys, hk, htk, List.map_append, List.foldl_append]
                rfl
              · unfold putK
                split
                · rw [List.length_map]; omega
                · rw [List.length_append, List.length_singleton]; omega
              · rw [htk, List.all_append, hall]
                show (true && (isR (.tuple ld) && true)) = true
                rw [hRe, hcc]; rfl
              · rw [rm_upd2]
                exact s2.trans (same_rm_rm ((s4.trans s5).trans s6) p)
              · rw [rm_upd2]
                exact RepSt.rmD hp6 (r5.mono s6)
          | _ => cases hsd
      · rintro σ2 H2 ⟨kvs, a2, hp2, hk, hkl, hall, s2, r2⟩
        rw [hxl, List.take_length] at hk hall
        obtain ⟨v1, g1, rp1⟩ := r2.get 1 _ rfl
        have := rep_opq rp1
        subst this
        refine ⟨.ref p, g1, p, kvs, rfl, hp2, rfl, ?_⟩
        have hkn : kvs.length = ((l.map fun r => (lenD r : Nat)).foldl addK []).length := by
          rw [show kvs.length = (keysK kvs).length by unfold keysK; rw [List.length_map], hk]
          exact addK_map l
        rw [hall, Bool.true_and, ← hkn] at h4
        have e9 : decide (V.int (kvs.length : Int) = V.int 1) = decide (kvs.length = 1) := by
          rw [decide_eq_decide]
          constructor
          · intro z; injection z with z; omega
          · intro z; rw [z]; rfl
        rw [e9]
        exact h4 _ H2 ((s1.trans s2).trans (same_rm H2 p)) (Rep.ofBool _)
    | _ => cases hsb
theorem ok_Lis_table {f : Addr} {fd : FuncData} (F : Fun K "_law_is_table" "_law_is_table" s_Lis_table f fd) (hb : Binds K fd ["_law_thing"] []) (hm : mg "_law_is_table" = some (.ref f)) (m_isinstance : mg "isinstance" = none) (m_len : mg "len" = none) (m_tuple : mg "tuple" = none) (d_Lnumber : Df P w K mg base 1 "_law_number" ["_law_thing", "_law_low", "_law_high"] F_Lnumber) (kt_tuple : KitT K "tuple") : Df P w K mg base 2 "_law_is_table" ["_law_thing"] F_Lis_table :=
  ⟨f, fd, fn_Lis_table F m_isinstance m_len m_tuple d_Lnumber kt_tuple, hb, F.kp, hm⟩
abbrev s_Lodd : Stmt := top 18
theorem sc_Lodd : FnScope ["_law_number_here", "_law_some"] ["_law_number_here"] (defScope s_Lodd) := ⟨rfl, rfl, rfl, by decide +kernel, rfl, by decide +kernel, by decide +kernel⟩
theorem fn_Lodd {f : Addr} {fd : FuncData} (F : Fun K "_law_odd" "_law_odd" s_Lodd f fd)  : FnOk P w K mg base CX0 1 f fd ["_law_number_here"] (spP K 1 F_Lodd) := by
  refine fn_plain (k := 0) F sc_Lodd (fun cdv A outer s H E hr => ?_)
  exact (puss_cons (pus_set (i := 1) sc_Lodd.nd (pu_lst (pua_cons (pu_neg pu_int) (pua_cons pu_int (pua_cons pu_int (pua_cons pu_int (pua_cons pu_int (pua_cons pu_int (pua_cons pu_int (pua_cons pu_int (pua_cons pu_bl (pua_cons pu_bl (pua_cons pu_non (pua_cons pu_str (pua_cons pu_str (pua_cons (pu_tup pua_nil) (pua_cons (pu_lst pua_nil) (pua_cons (pu_tup (pua_cons pu_int pua_nil)) (pua_cons (pu_tup (pua_cons pu_int (pua_cons pu_int pua_nil))) (pua_cons (pu_tup (pua_cons (pu_tup (pua_cons pu_int pua_nil)) pua_nil)) (pua_cons (pu_lst (pua_cons pu_int pua_nil)) pua_nil)))))))))))))))))))))
    (puss_one (pus_ret (pu_ix (pu_add (pu_var 1) (pu_lst (pua_cons (pu_tup (pua_cons pu_non pua_nil)) (pua_cons (pu_tup (pua_cons pu_bl pua_nil)) (pua_cons pu_int (pua_cons (pu_tup (pua_cons pu_int pua_nil)) (pua_cons (pu_tup (pua_cons (pu_tup (pua_cons pu_int pua_nil)) (pua_cons (pu_tup (pua_cons pu_int (pua_cons pu_int pua_nil))) pua_nil))) (pua_cons pu_int pua_nil)))))))) (pu_mod (pu_var 0) pu_int)))))
theorem ok_Lodd {f : Addr} {fd : FuncData} (F : Fun K "_law_odd" "_law_odd" s_Lodd f fd) (hb : Binds K fd ["_law_number_here"] []) (hm : mg "_law_odd" = some (.ref f))  : Df P w K mg base 1 "_law_odd" ["_law_number_here"] F_Lodd :=
  ⟨f, fd, fn_Lodd F , hb, F.kp, hm⟩
abbrev s_Lspoilt : Stmt := top 19
theorem sc_Lspoilt : FnScope ["_law_thing", "_law_number_here", "_law_deep", "_law_at", "_law_part"] ["_law_thing", "_law_number_here", "_law_deep"] (defScope s_Lspoilt) := ⟨rfl, rfl, rfl, by decide +kernel, rfl, by decide +kernel, by decide +kernel⟩
theorem fn_Lspoilt {f : Addr} {fd : FuncData} (F : Fun K "_law_spoilt" "_law_spoilt" s_Lspoilt f fd) (hb : Binds K fd ["_law_thing", "_law_number_here", "_law_deep"] []) (hm : mg "_law_spoilt" = some (.ref f)) (m_isinstance : mg "isinstance" = none) (m_len : mg "len" = none) (m_list : mg "list" = none) (m_tuple : mg "tuple" = none) (d_Lodd : Df P w K mg base 1 "_law_odd" ["_law_number_here"] F_Lodd) (kt_tuple : KitT K "tuple") : ∀ n : Nat, FnOk P w K mg base CX0 (2 + n) f fd ["_law_thing", "_law_number_here", "_law_deep"] (spP K 3 (R_Lspoilt n))
  | 0 => fn_none F sc_Lspoilt
  | n + 1 => by
    have d_self : Df P w K mg base (2 + n) "_law_spoilt" ["_law_thing", "_law_number_here", "_law_deep"] (R_Lspoilt n) := ⟨f, fd, fn_Lspoilt F hb hm m_isinstance m_len m_list m_tuple d_Lodd kt_tuple n, hb, F.kp, hm⟩
    refine fn_plain (k := 2 + n) F sc_Lspoilt (fun cdv A outer s H E hr => ?_)
    have hk0 : 2 + n ≤ 2 + n := Nat.le_refl _
    exact (puss_cons (pus_if (put_w (puw_and (put_cmp cd_gt (pu_var 2) pu_int (nomark _)) (puw_and (put_val (pu_isinst (T := "tuple") kt_tuple (pu_var 0) rfl m_isinstance bb_isinstance rfl m_tuple bb_tuple)) (puw_and (put_cmp cd_gt (pu_callB cd_len rfl m_len bb_len (pua_cons (pu_var 0) pua_nil)) pu_int (nomark _)) (puw_and1 (put_cmp cd_gt (pu_mod (pu_var 1) pu_int) pu_int (nomark _))))))) (puss_cons (pus_set (i := 3) sc_Lspoilt.nd (pu_mod (pu_div (pu_var 1) pu_int) (pu_callB cd_len rfl m_len bb_len (pua_cons (pu_var 0) pua_nil))))
    (puss_cons (pus_set (i := 4) sc_Lspoilt.nd (pu_callD d_self (hr.mono hk0) rfl (pua_cons (pu_ix (pu_var 0) (pu_var 3)) (pua_cons (pu_div (pu_var 1) pu_int) (pua_cons (pu_sub (pu_var 2) pu_int) pua_nil))) (fun _ _ h => aLen (es := [(eOp oIx (eVar 0) (eVar 3)), (eOp oDiv (eVar 1) (eC (.int 30))), (eOp oSub (eVar 2) (eC (.int 1)))]) h)))
    (puss_one (pus_ret (pu_add (pu_add (pu_slice (pu_var 0) puo_none (puo_some (pu_var 3))) (pu_tup (pua_cons (pu_var 4) pua_nil))) (pu_slice (pu_var 0) (puo_some (pu_add (pu_var 3) pu_int)) puo_none)))))) puss_nil)
    (puss_cons (pus_if (put_w (puw_and (put_val (pu_isinst (T := "tuple") kt_tuple (pu_var 0) rfl m_isinstance bb_isinstance rfl m_tuple bb_tuple)) (puw_and (put_cmp cd_gt (pu_callB cd_len rfl m_len bb_len (pua_cons (pu_var 0) pua_nil)) pu_int (nomark _)) (puw_and1 (put_cmp (cd_eq hr.units) (pu_mod (pu_div (pu_var 1) pu_int) pu_int) pu_int (nomark _)))))) (puss_one (pus_ret (pu_ix (pu_lst (pua_cons (pu_callTy cd_list rfl m_list bb_list (pua_cons (pu_var 0) pua_nil)) (pua_cons (pu_slice (pu_var 0) puo_none (puo_some (pu_neg pu_int))) (pua_cons (pu_add (pu_var 0) (pu_slice (pu_var 0) (puo_some (pu_neg pu_int)) puo_none)) (pua_cons (pu_slice (pu_var 0) (puo_some pu_int) puo_none) (pua_cons (pu_mul (pu_var 0) pu_int) (pua_cons (pu_mul (pu_var 0) pu_int) pua_nil))))))) (pu_mod (pu_div (pu_var 1) pu_int) pu_int)))) puss_nil)
    (puss_one (pus_ret (pu_callD d_Lodd (hr.mono (by omega)) rfl (pua_cons (pu_div (pu_var 1) pu_int) pua_nil) (fun _ _ h => aLen (es := [(eOp oDiv (eVar 1) (eC (.int 6)))]) h))))))
theorem ok_Lspoilt {f : Addr} {fd : FuncData} (F : Fun K "_law_spoilt" "_law_spoilt" s_Lspoilt f fd) (hb : Binds K fd ["_law_thing", "_law_number_here", "_law_deep"] []) (hm : mg "_law_spoilt" = some (.ref f)) (m_isinstance : mg "isinstance" = none) (m_len : mg "len" = none) (m_list : mg "list" = none) (m_tuple : mg "tuple" = none) (d_Lodd : Df P w K mg base 1 "_law_odd" ["_law_number_here"] F_Lodd) (kt_tuple : KitT K "tuple") : Df P w K mg base 5 "_law_spoilt" ["_law_thing", "_law_number_here", "_law_deep"] F_Lspoilt :=
  ⟨f, fd, fn_Lspoilt F hb hm m_isinstance m_len m_list m_tuple d_Lodd kt_tuple 3, hb, F.kp, hm⟩
abbrev s_law : Stmt := top 20
theorem sc_law : FnScope ["_law_script", "_law_thing", "_law_number_here", "_law_found", "_law_some"] ["_law_script"] (defScope s_law) := ⟨rfl, rfl, rfl, by decide +kernel, rfl, by decide +kernel, by decide +kernel⟩
theorem fn_law {f : Addr} {fd : FuncData} (F : Fun K "law" "law" s_law f fd) (m_bool : mg "bool" = none) (m_isinstance : mg "isinstance" = none) (d_Lis_table : Df P w K mg base 2 "_law_is_table" ["_law_thing"] F_Lis_table) (d_Lmixed : Df P w K mg base 2 "_law_mixed" ["_law_script", "_law_k"] F_Lmixed) (d_Lnumber : Df P w K mg base 1 "_law_number" ["_law_thing", "_law_low", "_law_high"] F_Lnumber) (d_Lodd : Df P w K mg base 1 "_law_odd" ["_law_number_here"] F_Lodd) (d_Lspoilt : Df P w K mg base 5 "_law_spoilt" ["_law_thing", "_law_number_here", "_law_deep"] F_Lspoilt) (d_Ltable : Df P w K mg base 2 "_law_table" ["_law_number_here"] F_Ltable) (d_is_base : Df P w K mg base 2 "is_base" ["thing"] F_is_base) (d_is_table : Df P w K mg base 4 "is_table" ["thing"] F_is_table) (kt_bool : KitT K "bool") : FnOk P w K mg base CX0 6 f fd ["_law_script"] (spP K 1 F_law) := by
  refine fn_plain (k := 5) F sc_law (fun cdv A outer s H E hr => ?_)
  exact (puss_cons (pus_set (i := 1) sc_law.nd (pu_callD d_Ltable (hr.mono (by decide)) rfl (pua_cons (pu_callD d_Lmixed (hr.mono (by decide)) rfl (pua_cons (pu_var 0) (pua_cons pu_int pua_nil)) (fun _ _ h => aLen (es := [(eVar 0), (eC (.int 0))]) h)) pua_nil) (fun _ _ h => aLen (es := [(eCall F_Lmixed (aCons (eVar 0) (aCons (eC (.int 0)) aNil)))]) h)))
    (puss_cons (pus_set (i := 2) sc_law.nd (pu_callD d_Lmixed (hr.mono (by decide)) rfl (pua_cons (pu_var 0) (pua_cons pu_int pua_nil)) (fun _ _ h => aLen (es := [(eVar 0), (eC (.int 1))]) h)))
    (puss_cons (pus_if (put_cmp (cd_eq hr.units) (pu_mod (pu_var 2) pu_int) pu_int (nomark _)) (puss_one (pus_set (i := 1) sc_law.nd (pu_callD d_Lspoilt (hr.mono (by decide)) rfl (pua_cons (pu_var 1) (pua_cons (pu_callD d_Lmixed (hr.mono (by decide)) rfl (pua_cons (pu_var 0) (pua_cons pu_int pua_nil)) (fun _ _ h => aLen (es := [(eVar 0), (eC (.int 2))]) h)) (pua_cons (pu_mod (pu_div (pu_var 2) pu_int) pu_int) pua_nil))) (fun _ _ h => aLen (es := [(eVar 1), (eCall F_Lmixed (aCons (eVar 0) (aCons (eC (.int 2)) aNil))), (eOp oMod (eOp oDiv (eVar 2) (eC (.int 2))) (eC (.int 3)))]) h)))) puss_nil)
    (puss_cons (pus_set (i := 3) sc_law.nd (pu_callD d_is_table (hr.mono (by decide)) rfl (pua_cons (pu_var 1) pua_nil) (fun _ _ h => aLen (es := [(eVar 1)]) h)))
    (puss_cons (pus_if (put_w (puw_or (put_not (put_val (pu_isinst (T := "bool") kt_bool (pu_var 3) rfl m_isinstance bb_isinstance rfl m_bool bb_bool))) (puw_or1 (put_cmp (cd_ne hr.units) (pu_var 3) (pu_callD d_Lis_table (hr.mono (by decide)) rfl (pua_cons (pu_var 1) pua_nil) (fun _ _ h => aLen (es := [(eVar 1)]) h)) (nomark _))))) (puss_one (pus_ret pu_bl)) puss_nil)
    (puss_cons (pus_set (i := 4) sc_law.nd (pu_callD d_Lodd (hr.mono (by decide)) rfl (pua_cons (pu_div (pu_var 2) pu_int) pua_nil) (fun _ _ h => aLen (es := [(eOp oDiv (eVar 2) (eC (.int 6)))]) h)))
    (puss_cons (pus_set (i := 3) sc_law.nd (pu_callD d_is_base (hr.mono (by decide)) rfl (pua_cons (pu_var 4) pua_nil) (fun _ _ h => aLen (es := [(eVar 4)]) h)))
    (puss_one (pus_ret (pu_and (pu_isinst (T := "bool") kt_bool (pu_var 3) rfl m_isinstance bb_isinstance rfl m_bool bb_bool) (pu_one (pu_cmp (cd_eq hr.units) (pu_var 3) (pu_callD d_Lnumber (hr.mono (by decide)) rfl (pua_cons (pu_var 4) (pua_cons pu_int (pua_cons pu_int pua_nil))) (fun _ _ h => aLen (es := [(eVar 4), (eC (.int 1)), (eC (.int 60))]) h)) (nomark _)))))))))))))
theorem all_mk {l : PySem.W.OpenLaw} {w : World} {K : PySem.W.Frag} {h : Heap} {mg : Str → Option Value} {fa : Addr} (X : K.In h) (G : h.Ns mainGlobals mg) (hfa : mg "law" = some (.ref fa))
    {f0 : Addr} {od0 an0 : Option Addr} {sl0 : Array (Option Value)} {oc0 kV0 dc0 pm0 cd0 ct0 : Value}
    {f1 : Addr} {od1 an1 : Option Addr} {sl1 : Array (Option Value)} {oc1 kV1 dc1 pm1 cd1 ct1 : Value}
    {f2 : Addr} {od2 an2 : Option Addr} {sl2 : Array (Option Value)} {oc2 kV2 dc2 pm2 cd2 ct2 : Value}
    {f3 : Addr} {od3 an3 : Option Addr} {sl3 : Array (Option Value)} {oc3 kV3 dc3 pm3 cd3 ct3 : Value}
    {f4 : Addr} {od4 an4 : Option Addr} {sl4 : Array (Option Value)} {oc4 kV4 dc4 pm4 cd4 ct4 : Value}
    {f5 : Addr} {od5 an5 : Option Addr} {sl5 : Array (Option Value)} {oc5 kV5 dc5 pm5 cd5 ct5 : Value}
    {f6 : Addr} {od6 an6 : Option Addr} {sl6 : Array (Option Value)} {oc6 kV6 dc6 pm6 cd6 ct6 : Value}
    {f7 : Addr} {od7 an7 : Option Addr} {sl7 : Array (Option Value)} {oc7 kV7 dc7 pm7 cd7 ct7 : Value}
    {f8 : Addr} {od8 an8 : Option Addr} {sl8 : Array (Option Value)} {oc8 kV8 dc8 pm8 cd8 ct8 : Value}
    {f9 : Addr} {od9 an9 : Option Addr} {sl9 : Array (Option Value)} {oc9 kV9 dc9 pm9 cd9 ct9 : Value}
    {f10 : Addr} {od10 an10 : Option Addr} {sl10 : Array (Option Value)} {oc10 kV10 dc10 pm10 cd10 ct10 : Value}
    {f11 : Addr} {od11 an11 : Option Addr} {sl11 : Array (Option Value)} {oc11 kV11 dc11 pm11 cd11 ct11 : Value}
    {f12 : Addr} {od12 an12 : Option Addr} {sl12 : Array (Option Value)} {oc12 kV12 dc12 pm12 cd12 ct12 : Value}
    {f13 : Addr} {od13 an13 : Option Addr} {sl13 : Array (Option Value)} {oc13 kV13 dc13 pm13 cd13 ct13 : Value}
    {f14 : Addr} {od14 an14 : Option Addr} {sl14 : Array (Option Value)} {oc14 kV14 dc14 pm14 cd14 ct14 : Value}
    {t_GREATEST_BASE : Tok}
    {t_GREATEST_COUNT : Tok}
    {t_MOST_PILLARS : Tok}
    {t_MOST_ROWS : Tok}
    (a0 : PySem.W.nsIn K mainGlobals "is_whole" = some (some (.ref f0))) (l0 : K.lookup f0 = some ⟨oc0, od0, .func (PySem.W.fnOf "is_whole" "is_whole" (defArgs s_is_whole) (defBody s_is_whole) (defScope s_is_whole) .none kV0 dc0 pm0 an0 cd0 ct0), sl0⟩) (c0 : PySem.W.codeIn K cd0 "is_whole" = true) (k0 : PySem.W.keepIn K (.ref f0) = true)
    (a1 : PySem.W.nsIn K mainGlobals "is_count" = some (some (.ref f1))) (l1 : K.lookup f1 = some ⟨oc1, od1, .func (PySem.W.fnOf "is_count" "is_count" (defArgs s_is_count) (defBody s_is_count) (defScope s_is_count) .none kV1 dc1 pm1 an1 cd1 ct1), sl1⟩) (c1 : PySem.W.codeIn K cd1 "is_count" = true) (k1 : PySem.W.keepIn K (.ref f1) = true)
    (a2 : PySem.W.nsIn K mainGlobals "is_row" = some (some (.ref f2))) (l2 : K.lookup f2 = some ⟨oc2, od2, .func (PySem.W.fnOf "is_row" "is_row" (defArgs s_is_row) (defBody s_is_row) (defScope s_is_row) .none kV2 dc2 pm2 an2 cd2 ct2), sl2⟩) (c2 : PySem.W.codeIn K cd2 "is_row" = true) (k2 : PySem.W.keepIn K (.ref f2) = true)
    (a3 : PySem.W.nsIn K mainGlobals "is_base" = some (some (.ref f3))) (l3 : K.lookup f3 = some ⟨oc3, od3, .func (PySem.W.fnOf "is_base" "is_base" (defArgs s_is_base) (defBody s_is_base) (defScope s_is_base) .none kV3 dc3 pm3 an3 cd3 ct3), sl3⟩) (c3 : PySem.W.codeIn K cd3 "is_base" = true) (k3 : PySem.W.keepIn K (.ref f3) = true)
    (a4 : PySem.W.nsIn K mainGlobals "is_table" = some (some (.ref f4))) (l4 : K.lookup f4 = some ⟨oc4, od4, .func (PySem.W.fnOf "is_table" "is_table" (defArgs s_is_table) (defBody s_is_table) (defScope s_is_table) .none kV4 dc4 pm4 an4 cd4 ct4), sl4⟩) (c4 : PySem.W.codeIn K cd4 "is_table" = true) (k4 : PySem.W.keepIn K (.ref f4) = true)
    (a5 : PySem.W.nsIn K mainGlobals "_law_cell_at" = some (some (.ref f5))) (l5 : K.lookup f5 = some ⟨oc5, od5, .func (PySem.W.fnOf "_law_cell_at" "_law_cell_at" (defArgs s_Lcell_at) (defBody s_Lcell_at) (defScope s_Lcell_at) .none kV5 dc5 pm5 an5 cd5 ct5), sl5⟩) (c5 : PySem.W.codeIn K cd5 "_law_cell_at" = true) (k5 : PySem.W.keepIn K (.ref f5) = true)
    (a6 : PySem.W.nsIn K mainGlobals "_law_mixed" = some (some (.ref f6))) (l6 : K.lookup f6 = some ⟨oc6, od6, .func (PySem.W.fnOf "_law_mixed" "_law_mixed" (defArgs s_Lmixed) (defBody s_Lmixed) (defScope s_Lmixed) .none kV6 dc6 pm6 an6 cd6 ct6), sl6⟩) (c6 : PySem.W.codeIn K cd6 "_law_mixed" = true) (k6 : PySem.W.keepIn K (.ref f6) = true)
    (a7 : PySem.W.nsIn K mainGlobals "_law_drawn" = some (some (.ref f7))) (l7 : K.lookup f7 = some ⟨oc7, od7, .func (PySem.W.fnOf "_law_drawn" "_law_drawn" (defArgs s_Ldrawn) (defBody s_Ldrawn) (defScope s_Ldrawn) .none kV7 dc7 pm7 an7 cd7 ct7), sl7⟩) (c7 : PySem.W.codeIn K cd7 "_law_drawn" = true) (k7 : PySem.W.keepIn K (.ref f7) = true)
    (a8 : PySem.W.nsIn K mainGlobals "_law_number" = some (some (.ref f8))) (l8 : K.lookup f8 = some ⟨oc8, od8, .func (PySem.W.fnOf "_law_number" "_law_number" (defArgs s_Lnumber) (defBody s_Lnumber) (defScope s_Lnumber) .none kV8 dc8 pm8 an8 cd8 ct8), sl8⟩) (c8 : PySem.W.codeIn K cd8 "_law_number" = true) (k8 : PySem.W.keepIn K (.ref f8) = true)
    (a9 : PySem.W.nsIn K mainGlobals "_law_table" = some (some (.ref f9))) (l9 : K.lookup f9 = some ⟨oc9, od9, .func (PySem.W.fnOf "_law_table" "_law_table" (defArgs s_Ltable) (defBody s_Ltable) (defScope s_Ltable) .none kV9 dc9 pm9 an9 cd9 ct9), sl9⟩) (c9 : PySem.W.codeIn K cd9 "_law_table" = true) (k9 : PySem.W.keepIn K (.ref f9) = true)
    (a10 : PySem.W.nsIn K mainGlobals "_law_base" = some (some (.ref f10))) (l10 : K.lookup f10 = some ⟨oc10, od10, .func (PySem.W.fnOf "_law_base" "_law_base" (defArgs s_Lbase) (defBody s_Lbase) (defScope s_Lbase) .none kV10 dc10 pm10 an10 cd10 ct10), sl10⟩) (c10 : PySem.W.codeIn K cd10 "_law_base" = true) (k10 : PySem.W.keepIn K (.ref f10) = true)
    (a11 : PySem.W.nsIn K mainGlobals "_law_is_table" = some (some (.ref f11))) (l11 : K.lookup f11 = some ⟨oc11, od11, .func (PySem.W.fnOf "_law_is_table" "_law_is_table" (defArgs s_Lis_table) (defBody s_Lis_table) (defScope s_Lis_table) .none kV11 dc11 pm11 an11 cd11 ct11), sl11⟩) (c11 : PySem.W.codeIn K cd11 "_law_is_table" = true) (k11 : PySem.W.keepIn K (.ref f11) = true)
    (a12 : PySem.W.nsIn K mainGlobals "_law_odd" = some (some (.ref f12))) (l12 : K.lookup f12 = some ⟨oc12, od12, .func (PySem.W.fnOf "_law_odd" "_law_odd" (defArgs s_Lodd) (defBody s_Lodd) (defScope s_Lodd) .none kV12 dc12 pm12 an12 cd12 ct12), sl12⟩) (c12 : PySem.W.codeIn K cd12 "_law_odd" = true) (k12 : PySem.W.keepIn K (.ref f12) = true)
    (a13 : PySem.W.nsIn K mainGlobals "_law_spoilt" = some (some (.ref f13))) (l13 : K.lookup f13 = some ⟨oc13, od13, .func (PySem.W.fnOf "_law_spoilt" "_law_spoilt" (defArgs s_Lspoilt) (defBody s_Lspoilt) (defScope s_Lspoilt) .none kV13 dc13 pm13 an13 cd13 ct13), sl13⟩) (c13 : PySem.W.codeIn K cd13 "_law_spoilt" = true) (k13 : PySem.W.keepIn K (.ref f13) = true)
    (a14 : PySem.W.nsIn K mainGlobals "law" = some (some (.ref f14))) (l14 : K.lookup f14 = some ⟨oc14, od14, .func (PySem.W.fnOf "law" "law" (defArgs s_law) (defBody s_law) (defScope s_law) .none kV14 dc14 pm14 an14 cd14 ct14), sl14⟩) (c14 : PySem.W.codeIn K cd14 "law" = true) (k14 : PySem.W.keepIn K (.ref f14) = true)
    (z_all : PySem.W.nsIn K mainGlobals "all" = some none)
    (z_bool : PySem.W.nsIn K mainGlobals "bool" = some none)
    (z_int : PySem.W.nsIn K mainGlobals "int" = some none)
    (z_isinstance : PySem.W.nsIn K mainGlobals "isinstance" = some none)
    (z_len : PySem.W.nsIn K mainGlobals "len" = some none)
    (z_list : PySem.W.nsIn K mainGlobals "list" = some none)
    (z_range : PySem.W.nsIn K mainGlobals "range" = some none)
    (z_tuple : PySem.W.nsIn K mainGlobals "tuple" = some none)
    (g_GREATEST_BASE : PySem.W.nsIn K mainGlobals "GREATEST_BASE" = some (some (.int 60 t_GREATEST_BASE)))
    (g_GREATEST_COUNT : PySem.W.nsIn K mainGlobals "GREATEST_COUNT" = some (some (.int 100000 t_GREATEST_COUNT)))
    (g_MOST_PILLARS : PySem.W.nsIn K mainGlobals "MOST_PILLARS" = some (some (.int 5 t_MOST_PILLARS)))
    (g_MOST_ROWS : PySem.W.nsIn K mainGlobals "MOST_ROWS" = some (some (.int 5 t_MOST_ROWS))) :
    ∃ fd : FuncData, (∀ (s : Shared) (v : Value), BindsTo s fd ⟨[v], []⟩ [("_law_script", v)]) ∧ ∀ base : Heap, K.In base → base.Ns mainGlobals mg → FnOk l.prog w K mg base CX0 6 fa fd ["_law_script"] (spP K 1 F_law) := by
  have e := hfa.symm.trans (PySem.W.mg_of X G a14)
  cases e
  have m_all := PySem.W.mg_none_of X G z_all
  have m_bool := PySem.W.mg_none_of X G z_bool
  have m_int := PySem.W.mg_none_of X G z_int
  have m_isinstance := PySem.W.mg_none_of X G z_isinstance
  have m_len := PySem.W.mg_none_of X G z_len
  have m_list := PySem.W.mg_none_of X G z_list
  have m_range := PySem.W.mg_none_of X G z_range
  have m_tuple := PySem.W.mg_none_of X G z_tuple
  have m_GREATEST_BASE := PySem.W.mg_of X G g_GREATEST_BASE
  have m_GREATEST_COUNT := PySem.W.mg_of X G g_GREATEST_COUNT
  have m_MOST_PILLARS := PySem.W.mg_of X G g_MOST_PILLARS
  have m_MOST_ROWS := PySem.W.mg_of X G g_MOST_ROWS
  have kt_bool := kit_bool K
  have kt_int := kit_int K
  have kt_tuple := kit_tuple K
  have F0 := fun_mk (st := s_is_whole) l0 c0 k0
  have b0 := F0.binds (ps := ["thing"]) fun _ _ _ _ _ _ us hl => match us, hl with | [_], _ => rfl
  have F1 := fun_mk (st := s_is_count) l1 c1 k1
  have b1 := F1.binds (ps := ["thing"]) fun _ _ _ _ _ _ us hl => match us, hl with | [_], _ => rfl
  have F2 := fun_mk (st := s_is_row) l2 c2 k2
  have b2 := F2.binds (ps := ["thing"]) fun _ _ _ _ _ _ us hl => match us, hl with | [_], _ => rfl
  have F3 := fun_mk (st := s_is_base) l3 c3 k3
  have b3 := F3.binds (ps := ["thing"]) fun _ _ _ _ _ _ us hl => match us, hl with | [_], _ => rfl
  have F4 := fun_mk (st := s_is_table) l4 c4 k4
  have b4 := F4.binds (ps := ["thing"]) fun _ _ _ _ _ _ us hl => match us, hl with | [_], _ => rfl
  have F5 := fun_mk (st := s_Lcell_at) l5 c5 k5
  have b5 := F5.binds (ps := ["_law_script", "_law_k"]) fun _ _ _ _ _ _ us hl => match us, hl with | [_, _], _ => rfl
  have F6 := fun_mk (st := s_Lmixed) l6 c6 k6
  have b6 := F6.binds (ps := ["_law_script", "_law_k"]) fun _ _ _ _ _ _ us hl => match us, hl with | [_, _], _ => rfl
  have F7 := fun_mk (st := s_Ldrawn) l7 c7 k7
  have b7 := F7.binds (ps := ["_law_number_here", "_law_k"]) fun _ _ _ _ _ _ us hl => match us, hl with | [_, _], _ => rfl
  have F8 := fun_mk (st := s_Lnumber) l8 c8 k8
  have b8 := F8.binds (ps := ["_law_thing", "_law_low", "_law_high"]) fun _ _ _ _ _ _ us hl => match us, hl with | [_, _, _], _ => rfl
  have F9 := fun_mk (st := s_Ltable) l9 c9 k9
  have b9 := F9.binds (ps := ["_law_number_here"]) fun _ _ _ _ _ _ us hl => match us, hl with | [_], _ => rfl
  have F10 := fun_mk (st := s_Lbase) l10 c10 k10
  have b10 := F10.binds (ps := ["_law_number_here"]) fun _ _ _ _ _ _ us hl => match us, hl with | [_], _ => rfl
  have F11 := fun_mk (st := s_Lis_table) l11 c11 k11
  have b11 := F11.binds (ps := ["_law_thing"]) fun _ _ _ _ _ _ us hl => match us, hl with | [_], _ => rfl
  have F12 := fun_mk (st := s_Lodd) l12 c12 k12
  have b12 := F12.binds (ps := ["_law_number_here"]) fun _ _ _ _ _ _ us hl => match us, hl with | [_], _ => rfl
  have F13 := fun_mk (st := s_Lspoilt) l13 c13 k13
  have b13 := F13.binds (ps := ["_law_thing", "_law_number_here", "_law_deep"]) fun _ _ _ _ _ _ us hl => match us, hl with | [_, _, _], _ => rfl
  have F14 := fun_mk (st := s_law) l14 c14 k14
  refine ⟨PySem.W.fnOf "law" "law" (defArgs s_law) (defBody s_law) (defScope s_law) .none kV14 dc14 pm14 an14 cd14 ct14, fun s v => .of_eq rfl, fun base _ _ => ?_⟩
  have d_is_whole := ok_is_whole (P := l.prog) (w := w) (mg := mg) (base := base) F0 b0 (PySem.W.mg_of X G a0) m_bool m_int m_isinstance kt_bool kt_int
  have d_is_count := ok_is_count (P := l.prog) (w := w) (mg := mg) (base := base) F1 b1 (PySem.W.mg_of X G a1) m_GREATEST_COUNT d_is_whole
  have d_is_row := ok_is_row (P := l.prog) (w := w) (mg := mg) (base := base) F2 b2 (PySem.W.mg_of X G a2) m_all m_isinstance m_len m_tuple m_MOST_PILLARS d_is_count kt_tuple
  have d_is_base := ok_is_base (P := l.prog) (w := w) (mg := mg) (base := base) F3 b3 (PySem.W.mg_of X G a3) m_GREATEST_BASE d_is_whole
  have d_is_table := ok_is_table (P := l.prog) (w := w) (mg := mg) (base := base) F4 b4 (PySem.W.mg_of X G a4) m_all m_isinstance m_len m_tuple m_MOST_ROWS d_is_row kt_tuple
  have d_Lcell_at := ok_Lcell_at (P := l.prog) (w := w) (mg := mg) (base := base) F5 b5 (PySem.W.mg_of X G a5) m_len
  have d_Lmixed := ok_Lmixed (P := l.prog) (w := w) (mg := mg) (base := base) F6 b6 (PySem.W.mg_of X G a6) d_Lcell_at
  have d_Ldrawn := ok_Ldrawn (P := l.prog) (w := w) (mg := mg) (base := base) F7 b7 (PySem.W.mg_of X G a7) 
  have d_Lnumber := ok_Lnumber (P := l.prog) (w := w) (mg := mg) (base := base) F8 b8 (PySem.W.mg_of X G a8) m_bool m_int m_isinstance kt_bool kt_int
  have d_Ltable := ok_Ltable (P := l.prog) (w := w) (mg := mg) (base := base) F9 b9 (PySem.W.mg_of X G a9) m_range m_tuple d_Ldrawn
  have d_Lbase := ok_Lbase (P := l.prog) (w := w) (mg := mg) (base := base) F10 b10 (PySem.W.mg_of X G a10) 
  have d_Lis_table := ok_Lis_table (P := l.prog) (w := w) (mg := mg) (base := base) F11 b11 (PySem.W.mg_of X G a11) m_isinstance m_len m_tuple d_Lnumber kt_tuple
  have d_Lodd := ok_Lodd (P := l.prog) (w := w) (mg := mg) (base := base) F12 b12 (PySem.W.mg_of X G a12) 
  have d_Lspoilt := ok_Lspoilt (P := l.prog) (w := w) (mg := mg) (base := base) F13 b13 (PySem.W.mg_of X G a13) m_isinstance m_len m_list m_tuple d_Lodd kt_tuple
  exact fn_law F14 m_bool m_isinstance d_Lis_table d_Lmixed d_Lnumber d_Lodd d_Lspoilt d_Ltable d_is_base d_is_table kt_bool
theorem walk {l : PySem.W.OpenLaw} {q : Program} {loose : List Str} {XP : (Str → Option Value) → Heap → Prop} {YP : World → Heap → Prop} {d : DefRec} {K : Params → PySem.W.Frag} (hn : l.most = some 63) (hdf : d.params.defaults = [])
    (hY : ∀ (w : World) (h : Heap), YP w h → (K w.params).In h)
    (F : ∀ (w : World) (mg : Str → Option Value) (fa : Addr) (h : Heap), (K w.params).In h → h.Ns mainGlobals mg → mg d.name = some (.ref fa) →
      ∃ fd : FuncData, (∀ (s : Shared) (u : Value), BindsTo s fd ⟨[u], []⟩ [("_law_script", u)]) ∧ ∀ base : Heap, (K w.params).In base → base.Ns mainGlobals mg → FnOk l.prog w (K w.params) mg base CX0 6 fa fd ["_law_script"] (spP (K w.params) 1 F_law)) :
    PySem.W.WalkO q loose XP YP l.row.toRowW d [] (fun f vs => PySem.call f vs) :=
  L2.walk_of (n := 63) (k := 6) (x := "_law_script") (CX := fun _ => CX0) (sp := fun w => spP (K w.params) 1 F_law) hn (by decide) hdf ⟨rfl, by decide, by decide⟩ hY F
    (fun _ _ a ns _ _ hS => ⟨[.list (ns.map PyData.int)], .bool true, rfl, Reps.cons (Rep.ofLst hS (reps_of_ints ns)) Reps.nil, law_k01 ns, fun _ _ _ h => rep_bool h⟩) fun _ _ _ _ _ z => z
end PU
open PySem PySem.W PyProof.Rows
set_option maxRecDepth 100000 in
set_option maxHeartbeats 0 in
theorem PySem.Challenge.cw_fairround_k01_tables_holds : PySem.Challenge.rw_fairround_k01_tables.Holds := by
  w_on; o_law; k_head; (case hw => w_witness2)
  k_fill
  refine PU.walk (l := PySem.Challenge.rw_fairround_k01_tables) rfl rfl (fun w h Y => PySem.W.kIn_of Y) ?F
  case F =>
    intro w mg fa h KX G hmg
    refine' PU.all_mk KX G hmg ?a0 ?l0 ?c0 ?k0 ?a1 ?l1 ?c1 ?k1 ?a2 ?l2 ?c2 ?k2 ?a3 ?l3 ?c3 ?k3 ?a4 ?l4 ?c4 ?k4 ?a5 ?l5 ?c5 ?k5 ?a6 ?l6 ?c6 ?k6 ?a7 ?l7 ?c7 ?k7 ?a8 ?l8 ?c8 ?k8 ?a9 ?l9 ?c9 ?k9 ?a10 ?l10 ?c10 ?k10 ?a11 ?l11 ?c11 ?k11 ?a12 ?l12 ?c12 ?k12 ?a13 ?l13 ?c13 ?k13 ?a14 ?l14 ?c14 ?k14 ?z_all ?z_bool ?z_int ?z_isinstance ?z_len ?z_list ?z_range ?z_tuple ?g_GREATEST_BASE ?g_GREATEST_COUNT ?g_MOST_PILLARS ?g_MOST_ROWS
    (case a0 => k_is)
    (case l0 => k_is)
    (case c0 => k_is)
    (case k0 => k_is)
    (case a1 => k_is)
    (case l1 => k_is)
    (case c1 => k_is)
    (case k1 => k_is)
    (case a2 => k_is)
    (case l2 => k_is)
    (case c2 => k_is)
    (case k2 => k_is)
    (case a3 => k_is)
    (case l3 => k_is)
    (case c3 => k_is)
    (case k3 => k_is)
    (case a4 => k_is)
    (case l4 => k_is)
    (case c4 => k_is)
    (case k4 => k_is)
    (case a5 => k_is)
    (case l5 => k_is)
    (case c5 => k_is)
    (case k5 => k_is)
    (case a6 => k_is)
    (case l6 => k_is)
    (case c6 => k_is)
    (case k6 => k_is)
    (case a7 => k_is)
    (case l7 => k_is)
    (case c7 => k_is)
    (case k7 => k_is)
    (case a8 => k_is)
    (case l8 => k_is)
    (case c8 => k_is)
    (case k8 => k_is)
    (case a9 => k_is)
    (case l9 => k_is)
    (case c9 => k_is)
    (case k9 => k_is)
    (case a10 => k_is)
    (case l10 => k_is)
    (case c10 => k_is)
    (case k10 => k_is)
    (case a11 => k_is)
    (case l11 => k_is)
    (case c11 => k_is)
    (case k11 => k_is)
    (case a12 => k_is)
    (case l12 => k_is)
    (case c12 => k_is)
    (case k12 => k_is)
    (case a13 => k_is)
    (case l13 => k_is)
    (case c13 => k_is)
    (case k13 => k_is)
    (case a14 => k_is)
    (case l14 => k_is)
    (case c14 => k_is)
    (case k14 => k_is)
    (case z_all => k_is)
    (case z_bool => k_is)
    (case z_int => k_is)
    (case z_isinstance => k_is)
    (case z_len => k_is)
    (case z_list => k_is)
    (case z_range => k_is)
    (case z_tuple => k_is)
    (case g_GREATEST_BASE => k_is)
    (case g_GREATEST_COUNT => k_is)
    (case g_MOST_PILLARS => k_is)
    (case g_MOST_ROWS => k_is)
