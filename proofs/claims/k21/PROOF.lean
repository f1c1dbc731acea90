import PyProof.Rows.All
import Wide.All
import OpenK.AllK
import Wide.FinOn
import Lean
import PyProof.EqAt
import PyProof.EqKinds
import PyProof.TupleCall
import PySem.Challenge.RW_fairround_k21_whole_either_way
set_option Elab.async false
set_option linter.all false
set_option maxRecDepth 100000
namespace L2
open PySem PySem.Spec PyProof.Rows
abbrev Key := Sum Int Str
def keyIs : Key → Value → Bool
  | .inl k, v => Value.isInt k v
  | .inr x, v => Value.isStrOf x v
def keyH (w : World) : Key → Int
  | .inl k => hashInt k
  | .inr x => hashStr w x
theorem keyIs_shape : ∀ {k : Key} {v : Value}, keyIs k v = true → (∃ i t, k = Sum.inl i ∧ v = Value.int i t) ∨ (∃ x t, k = Sum.inr x ∧ v = Value.str x t)
  | .inl i, v, h => by
    obtain ⟨t, e⟩ := Value.isInt_shape (k := i) (v := v) h
    exact .inl ⟨i, t, rfl, e⟩
  | .inr x, v, h => by
    obtain ⟨t, e⟩ := Value.isStrOf_shape (x := x) (v := v) h
    exact .inr ⟨x, t, rfl, e⟩
theorem keyIs_int (i : Int) (t : Tok) : keyIs (.inl i) (.int i t) = true := by simp [keyIs, Value.isInt]
theorem keyIs_str (x : Str) (t : Tok) : keyIs (.inr x) (.str x t) = true := by simp [keyIs, Value.isStrOf]
theorem key_ll (a b : Int) : decide ((Sum.inl a : Key) = Sum.inl b) = (a == b) := by
  by_cases e : a = b
  · subst e; simp
  · have h : ¬ (Sum.inl a : Key) = Sum.inl b := fun q => e (Sum.inl.inj q)
    rw [decide_eq_false h]
    exact (beq_eq_false_iff_ne.mpr e).symm
theorem key_rr (a b : Str) : decide ((Sum.inr a : Key) = Sum.inr b) = decide (a = b) := by
  by_cases e : a = b
  · subst e; simp
  · have h : ¬ (Sum.inr a : Key) = Sum.inr b := fun q => e (Sum.inr.inj q)
    rw [decide_eq_false h, decide_eq_false e]
theorem key_lr (a : Int) (b : Str) : decide ((Sum.inl a : Key) = Sum.inr b) = false := decide_eq_false (fun q => nomatch q)
theorem key_rl (a : Str) (b : Int) : decide ((Sum.inr a : Key) = Sum.inl b) = false := decide_eq_false (fun q => nomatch q)
def mixKind (prog : Program) (w : World) : PySem.KeyKind prog w Key where
  is := keyIs
  hash := keyH w
  inj := fun v a b ha hb => by
    rcases keyIs_shape ha with ⟨i, t, rfl, rfl⟩ | ⟨x, t, rfl, rfl⟩
    · rcases keyIs_shape hb with ⟨j, u, rfl, e⟩ | ⟨y, u, rfl, e⟩
      · injection e with e1 _; rw [e1]
      · exact nomatch e
    · rcases keyIs_shape hb with ⟨j, u, rfl, e⟩ | ⟨y, u, rfl, e⟩
      · exact nomatch e
      · injection e with e1 _; rw [e1]
  byValue := fun k v h => by
    rcases keyIs_shape h with ⟨i, t, rfl, rfl⟩ | ⟨x, t, rfl, rfl⟩ <;> rfl
  pyHash := fun hv h => by
    rcases keyIs_shape hv with ⟨i, t, rfl, rfl⟩ | ⟨x, t, rfl, rfl⟩
    · exact wpAny_pyHash_int h
    · exact wpAny_pyHash_str h
  eqBool := fun hu hv h => by
    rcases keyIs_shape hu with ⟨i, t, rfl, rfl⟩ | ⟨x, t, rfl, rfl⟩
    · rcases keyIs_shape hv with ⟨j, u, rfl, rfl⟩ | ⟨y, u, rfl, rfl⟩
      · rw [key_ll] at h; exact wpAny_eqBool_int h
      · rw [key_lr] at h; exact SeqAt.EqAt.int_str i t y u _ _ _ _ h
    · rcases keyIs_shape hv with ⟨j, u, rfl, rfl⟩ | ⟨y, u, rfl, rfl⟩
      · rw [key_rl] at h; exact SeqAt.EqAt.str_int x t j u _ _ _ _ h
      · rw [key_rr] at h; exact wpAny_eqBool_str h
  «strs» := fun k x t v h => by
    rcases keyIs_shape h with ⟨i, u, rfl, e⟩ | ⟨y, u, rfl, e⟩
    · exact nomatch e
    · injection e with e1 _
      subst e1
      cases v <;> rfl
theorem mixKind_int (prog : Program) (w : World) (i : Int) (t : Tok) : (mixKind prog w).is (.inl i) (.int i t) = true := keyIs_int i t
theorem mixKind_str (prog : Program) (w : World) (x : Str) (t : Tok) : (mixKind prog w).is (.inr x) (.str x t) = true := keyIs_str x t
end L2
namespace L2
open PySem PySem.Spec PyProof.Rows
inductive V where
  | non | bl (b : Bool) | int (i : Int) | str (x : Str) | byt (b : Array UInt8) | flt (b : UInt64) | ref (a : Addr) | ty (n : String)
  deriving DecidableEq
def RelV : V → Value → Prop
  | .non, u => u = Value.none
  | .bl b, u => u = Value.bool b
  | .int i, u => ∃ t, u = Value.int i t
  | .str x, u => ∃ t, u = Value.str x t
  | .byt b, u => ∃ t, u = Value.bytes b t
  | .flt b, u => ∃ t, u = Value.float b t
  | .ref a, u => u = Value.ref a
  | .ty n, u => u = Value.type n
abbrev Vals : List V → List Value → Prop := Paired RelV
theorem Vals.length {xs : List V} {us : List Value} (r : Vals xs us) : xs.length = us.length := Paired.length r
theorem Vals.get : ∀ {xs : List V} {us : List Value} {i : Nat} {x : V}, Vals xs us → xs[i]? = some x → ∃ u, us[i]? = some u ∧ RelV x u
  | _, _, _, _, .nil, e => by simp at e
  | _, _, 0, _, .cons r _, e => by simp at e; subst e; exact ⟨_, rfl, r⟩
  | _, _, i + 1, x, .cons _ t, e => by
    obtain ⟨u, h1, h2⟩ := Vals.get (i := i) (x := x) t (by simpa using e)
    exact ⟨u, by simpa using h1, h2⟩
theorem Vals.set {x : V} {u : Value} (r : RelV x u) : ∀ {xs : List V} {us : List Value} (i : Nat), Vals xs us → Vals (xs.set i x) (us.set i u)
  | _, _, _, .nil => .nil
  | _, _, 0, .cons _ t => .cons r t
  | _, _, i + 1, .cons q t => .cons q (Vals.set r i t)
theorem Vals.append : ∀ {xs ys : List V} {us ws : List Value}, Vals xs us → Vals ys ws → Vals (xs ++ ys) (us ++ ws)
  | _, _, _, _, .nil, s => s
  | _, _, _, _, .cons r t, s => .cons r (Vals.append t s)
theorem Vals.take : ∀ {xs : List V} {us : List Value} (n : Nat), Vals xs us → Vals (xs.take n) (us.take n)
  | _, _, 0, _ => .nil
  | _, _, _ + 1, .nil => .nil
  | _, _, n + 1, .cons r t => .cons r (Vals.take n t)
theorem Vals.drop : ∀ {xs : List V} {us : List Value} (n : Nat), Vals xs us → Vals (xs.drop n) (us.drop n)
  | _, _, 0, r => r
  | _, _, _ + 1, .nil => .nil
  | _, _, n + 1, .cons _ t => Vals.drop n t
theorem Vals.none_of : ∀ {xs : List V} {us : List Value} {i : Nat}, Vals xs us → xs[i]? = none → us[i]? = none := fun {xs us i} r e => by
  have h1 := r.length
  have h2 : xs.length ≤ i := List.getElem?_eq_none_iff.mp e
  exact List.getElem?_eq_none_iff.mpr (by omega)
def RelO : Option V → Option Value → Prop
  | some v, some u => RelV v u
  | none, none => True
  | _, _ => False
def KV {κ : Type} : List (κ × V) → List (κ × Value) → Prop := Paired fun (p : κ × V) (q : κ × Value) => p.1 = q.1 ∧ RelV p.2 q.2
def kV : Key → V
  | .inl i => .int i
  | .inr x => .str x
inductive HO where
  | lst (xs : List V)
  | tup (xs : List V)
  | dK (kvs : List (Key × V)) | dT (kvs : List (List Key × V))
  | set (S : Int → Bool) (n : Nat)
  | ins (C dx : Addr) (fs : List (Str × V))
  | own (x : Addr)
  | xd (fs : List (Str × V))
  | met (f x : Addr)
  | rng (lo hi : Int)
  | frz (o : Obj) (u : HO)
  | tbl (ps : Array Value)
  | ext (φ : Heap → Prop)
abbrev Hp := Addr → Option HO
def upd (H : Hp) (a : Addr) (o : HO) : Hp := fun b => if b = a then some o else H b
theorem upd_same {H : Hp} {a : Addr} {o : HO} : upd H a o a = some o := by unfold upd; rw [if_pos rfl]
theorem upd_ne {H : Hp} {a b : Addr} {o : HO} (h : b ≠ a) : upd H a o b = H b := by unfold upd; rw [if_neg h]
theorem upd_upd {H : Hp} {a : Addr} {o u : HO} : upd (upd H a o) a u = upd H a u := by
  funext b; unfold upd; split <;> rfl
theorem ne_of {H : Hp} {a b : Addr} {o u : HO} (h : H a = some o) (h' : H b = some u) (d : o ≠ u) : a ≠ b := by
  intro e; subst e; rw [h] at h'; exact d (Option.some.inj h')
theorem ne_of_none {H : Hp} {a b : Addr} {o : HO} (h : H a = some o) (h' : H b = none) : a ≠ b := by
  intro e; subst e; rw [h] at h'; cases h'
def IsTupD (h : Heap) (a : Addr) (items : Array Value) : Prop := ∃ o, h.get? a = some o ∧ o.dict = none ∧ o.cls = .type "tuple" ∧ ∃ n, o.data = .seq items n
theorem IsTupD.up {h : Heap} {a : Addr} {items : Array Value} (x : IsTupD h a items) : IsTup h a items := let ⟨o, e, _, c, d⟩ := x; ⟨o, e, c, d⟩
theorem IsTupD.lt {h : Heap} {a : Addr} {items : Array Value} (x : IsTupD h a items) : a < h.objs.size := x.up.lt
theorem IsTupD.new (h : Heap) (items : Array Value) : IsTupD (h.push { cls := .type "tuple", data := .seq items }) h.objs.size items := ⟨_, Heap.get?_push_size _ rfl, rfl, rfl, _, rfl⟩
section
variable (P : Program) (w : World)
def ObjOk (H : Hp) (h : Heap) (a : Addr) : HO → Prop
  | .lst xs => xs.length ≤ sizeLine ∧ ∃ (its : List Value) (n : Nat), Vals xs its ∧ h.get? a = some { cls := .type "list", data := .seq its.toArray n }
  | .tup xs => xs.length ≤ sizeLine ∧ ∃ its : List Value, Vals xs its ∧ IsTupD h a its.toArray
  | .dK kvs => kvs.length ≤ sizeLine ∧ (a == sysModules) = false ∧ ∃ vs, KV kvs vs ∧ h.DictOf (mixKind P w) a vs
  | .dT kvs => kvs.length ≤ sizeLine ∧ (a == sysModules) = false ∧ ∃ xs : List (List Key × Addr × Value),
      Paired (fun (p : List Key × V) (q : List Key × Addr × Value) => p.1 = q.1 ∧ H q.2.1 = some (.tup (p.1.map kV)) ∧ RelV p.2 q.2.2) kvs xs ∧
      ∃ o es ep, h.get? a = some o ∧ o.ExactDict ∧ o.data = .dict es ep ∧ es.toList = xs.map (entryOfKey (tupleKind (mixKind P w))) ∧ (xs.map (·.1)).Nodup
  | .set S n => h.SetOf (intKind P w) a S n
  | .ins C dx fs => H dx = some (.own a) ∧ fs.length ≤ 1000 ∧ dx ≠ a ∧ h.get? a = some (PySem.W.instObj C dx) ∧
      ∃ mA, h.Ns1 dx mA ∧ (∀ f, RelO (fs.lookup f) (mA f)) ∧ PySem.Within mA (fs.map (·.1))
  | .own _ => ∃ o, h.get? a = some o
  | .xd fs => ∃ mA, h.Ns1 a mA ∧ ∀ f, RelO (fs.lookup f) (mA f)
  | .rng lo hi => ∃ t u v, h.get? a = some { cls := .type "range", data := .fields #[.int lo t, .int hi u, .int 1 v] }
  | .frz o u => h.get? a = some o ∧ ObjOk H h a u
  | .tbl ps => h.get? a = some { cls := .none, data := .fields ps }
  | .met f x => h.get? a = some (PySem.W.methodObj (.ref f) (.ref x))
  | .ext φ => φ h ∧ (∃ o, h.get? a = some o) ∧ ∀ h1 h2 : Heap, φ h1 → (∀ o, h1.get? a = some o → h2.get? a = some o) → φ h2
def HOk (H : Hp) (h : Heap) : Prop := ∀ a o, H a = some o → ObjOk P w H h a o
end
section
variable {P : Program} {w : World} {H H' : Hp} {h h' : Heap} {a : Addr} {o : HO}
theorem ObjOk.lt (x : ObjOk P w H h a o) : a < h.objs.size := by
  cases o with
  | lst xs => obtain ⟨_, _, _, _, e⟩ := x; exact Heap.lt_size e
  | tup xs => obtain ⟨_, _, _, p⟩ := x; exact p.lt
  | dK kvs => obtain ⟨_, _, _, _, o, _, _, e, _⟩ := x; exact Heap.lt_size e
  | dT kvs => obtain ⟨_, _, _, _, o, _, _, e, _⟩ := x; exact Heap.lt_size e
  | set S n => obtain ⟨o, _, _, _, e, _⟩ := x; exact Heap.lt_size e
  | ins C dx fs => obtain ⟨_, _, _, e, _⟩ := x; exact Heap.lt_size e
  | own y => obtain ⟨_, e⟩ := x; exact Heap.lt_size e
  | xd fs => obtain ⟨_, ⟨_, _, _, e, _⟩, _⟩ := x; exact Heap.lt_size e
  | rng lo hi => obtain ⟨_, _, _, e⟩ := x; exact Heap.lt_size e
  | frz ob u => obtain ⟨e, _⟩ := x; exact Heap.lt_size e
  | tbl ps => exact Heap.lt_size (show h.get? a = some _ from x)
  | met f y => exact Heap.lt_size (show h.get? a = some _ from x)
  | ext φ => obtain ⟨_, ⟨_, e⟩, _⟩ := x; exact Heap.lt_size e
theorem Paired.mapP {α β : Type} {F G : α → β → Prop} : ∀ {l₁ : List α} {l₂ : List β}, Paired F l₁ l₂ → (∀ a b, F a b → G a b) → Paired G l₁ l₂
  | _, _, .nil, _ => .nil
  | _, _, .cons r t, f => .cons (f _ _ r) (Paired.mapP t f)
theorem ObjOk.stay (x : ObjOk P w H h a o) (k : ∀ b u, (b = a ∨ H b = some (.own a)) → h.get? b = some u → h'.get? b = some u)
    (ho : ∀ b, H b = some (.own a) → H' b = some (.own a)) (ht : ∀ b xs, H b = some (.tup xs) → H' b = some (.tup xs)) : ObjOk P w H' h' a o := by
  induction o with
  | lst xs => obtain ⟨z, its, n, r, e⟩ := x; exact ⟨z, its, n, r, k _ _ (.inl rfl) e⟩
  | tup xs => obtain ⟨z, its, r, ob, e, c⟩ := x; exact ⟨z, its, r, ob, k _ _ (.inl rfl) e, c⟩
  | dK kvs => obtain ⟨z, y, vs, r, ob, es, ep, e, c⟩ := x; exact ⟨z, y, vs, r, ob, es, ep, k _ _ (.inl rfl) e, c⟩
  | dT kvs =>
    obtain ⟨z, y, xs, r, ob, es, ep, e, c⟩ := x
    exact ⟨z, y, xs, Paired.mapP r fun p q z => ⟨z.1, ht _ _ z.2.1, z.2.2⟩, ob, es, ep, k _ _ (.inl rfl) e, c⟩
  | set S n => obtain ⟨ob, es, ep, t, e, c⟩ := x; exact ⟨ob, es, ep, t, k _ _ (.inl rfl) e, c⟩
  | ins C dx fs =>
    obtain ⟨d, z, ne, e, mA, ⟨od, es, ep, e2, c⟩, r⟩ := x
    exact ⟨ho _ d, z, ne, k _ _ (.inl rfl) e, mA, ⟨od, es, ep, k _ _ (.inr d) e2, c⟩, r⟩
  | own y => obtain ⟨ob, e⟩ := x; exact ⟨ob, k _ _ (.inl rfl) e⟩
  | xd fs => obtain ⟨mA, ⟨od, es, ep, e, c⟩, r⟩ := x; exact ⟨mA, ⟨od, es, ep, k _ _ (.inl rfl) e, c⟩, r⟩
  | rng lo hi => obtain ⟨t, u, v, e⟩ := x; exact ⟨t, u, v, k _ _ (.inl rfl) e⟩
  | frz ob u ih => obtain ⟨e, q⟩ := x; exact ⟨k _ _ (.inl rfl) e, ih q⟩
  | tbl ps =>
    have e : h.get? a = some { cls := .none, data := .fields ps } := x
    show h'.get? a = some { cls := .none, data := .fields ps }
    exact k a _ (.inl rfl) e
  | met f y =>
    have e : h.get? a = some (PySem.W.methodObj (.ref f) (.ref y)) := x
    show h'.get? a = some (PySem.W.methodObj (.ref f) (.ref y))
    exact k a _ (.inl rfl) e
  | ext φ => obtain ⟨p, ⟨o, e⟩, st⟩ := x; exact ⟨st _ _ p fun o q => k _ _ (.inl rfl) q, ⟨o, k _ _ (.inl rfl) e⟩, st⟩
theorem HOk.lt (x : HOk P w H h) (e : H a = some o) : a < h.objs.size := (x a o e).lt
theorem HOk.fresh (x : HOk P w H h) (e : h.objs.size ≤ a) : H a = none := by
  cases q : H a with
  | none => rfl
  | some u => exact absurd (Nat.lt_of_lt_of_le (x.lt q) e) (Nat.lt_irrefl _)
theorem HOk.kept (x : HOk P w H h) (k : ∀ b u, h.get? b = some u → h'.get? b = some u) : HOk P w H h' := fun a o e =>
  (x a o e).stay (fun b u _ q => k b u q) (fun _ q => q) fun _ _ q => q
theorem HOk.laid (x : HOk P w H h) (k : ∀ b u, h.get? b = some u → h'.get? b = some u) (hp : h.objs.size ≤ a) (new : ObjOk P w (upd H a o) h' a o) : HOk P w (upd H a o) h' := fun b u e => by
  have hn := x.fresh hp
  by_cases hb : b = a
  · subst hb; rw [upd_same] at e; cases e; exact new
  · rw [upd_ne hb] at e
    exact (x b u e).stay (fun c v _ q => k c v q) (fun c q => by rw [upd_ne (ne_of_none q hn)]; exact q) fun c xs q => by rw [upd_ne (ne_of_none q hn)]; exact q
end
def Rd (H : Hp) (a : Addr) (u : HO) : Prop := H a = some u ∨ ∃ o, H a = some (.frz o u)
theorem Rd.of {H : Hp} {a : Addr} {u : HO} (h : H a = some u) : Rd H a u := .inl h
theorem Rd.ok {P : Program} {w : World} {H : Hp} {h : Heap} {a : Addr} {u : HO} (r : Rd H a u) (x : HOk P w H h) : ObjOk P w H h a u := by
  rcases r with r | ⟨o, r⟩
  · exact x a u r
  · obtain ⟨_, q⟩ := x a _ r
    exact q
def Mut : Option HO → Prop
  | some (.lst _) => True
  | some (.dK _) => True
  | some (.dT _) => True
  | some (.set _ _) => True
  | some (.ins _ _ _) => True
  | some (.ext _) => True
  | _ => False
section
variable {P : Program} {w : World} {H : Hp} {h h' : Heap} {x e : Addr} {o' : HO}
theorem HOk.write (ok : HOk P w H h) (mu : Mut (H x)) (he : e = x ∨ H e = some (.own x)) (k : ∀ b u, b ≠ e → h.get? b = some u → h'.get? b = some u) (heo : ∃ u, h'.get? e = some u)
    (new : ObjOk P w (upd H x o') h' x o') : HOk P w (upd H x o') h' := fun b u q => by
  have nown : ∀ c y, H c = some (.own y) → c ≠ x := fun c y r z => by subst z; rw [r] at mu; exact mu
  have ntup : ∀ c xs, H c = some (.tup xs) → c ≠ x := fun c xs r z => by subst z; rw [r] at mu; exact mu
  by_cases hb : b = x
  · subst hb; rw [upd_same] at q; cases q; exact new
  · rw [upd_ne hb] at q
    by_cases hbe : b = e
    · have q' : H b = some (.own x) := by
        rcases he with z | z
        · exact absurd (hbe.trans z) hb
        · rw [hbe]; exact z
      rw [q] at q'; cases q'
      obtain ⟨v, hv⟩ := heo
      exact ⟨v, by rw [hbe]; exact hv⟩
    · refine (ok b u q).stay (fun c v hc r => k c v ?_ r) (fun c r => by rw [upd_ne (nown c b r)]; exact r) fun c xs r => by rw [upd_ne (ntup c xs r)]; exact r
      rcases hc with rfl | hc
      · exact hbe
      · rintro rfl
        rcases he with z | z
        · exact nown c b hc z
        · rw [hc] at z; cases z; exact hb rfl
end
structure Un (fs ex : List Addr) (H H' : Hp) (h h' : Heap) : Prop where
  keep : ∀ b o, h.get? b = some o → H b = none → b ∉ fs → b ∉ ex → h'.get? b = some o
  slot : ∀ b o, h.get? b = some o → H b = none → b ∈ fs → b ∉ ex → ∃ sl, h'.get? b = some { o with slots := sl }
  free : ∀ b o, h.get? b = some o → H b = none → b ∉ ex → H' b = none
  there : ∀ b o, h.get? b = some o → b ∉ ex → ∃ o', h'.get? b = some o'
  tups : ∀ b xs, H b = some (.tup xs) → H' b = some (.tup xs)
  frzs : ∀ b o u, H b = some (.frz o u) → H' b = some (.frz o u)
  tbls : ∀ b ps, H b = some (.tbl ps) → ∃ more, H' b = some (.tbl (ps ++ more))
section
variable {fs fs' ex ex' : List Addr} {H H1 H2 : Hp} {h h1 h2 h' : Heap} {a x e : Addr} {o : HO}
theorem Un.any (u : Un fs ex H H1 h h1) {b : Addr} {ob : Obj} (q : h.get? b = some ob) (n : H b = none) (hx : b ∉ ex) : ∃ sl, h1.get? b = some { ob with slots := sl } := by
  by_cases hb : b ∈ fs
  · exact u.slot b ob q n hb hx
  · exact ⟨ob.slots, u.keep b ob q n hb hx⟩
theorem Un.trans (a : Un fs ex H H1 h h1) (b : Un fs ex H1 H2 h1 h2) : Un fs ex H H2 h h2 where
  keep := fun c ob q n hc hx => b.keep c ob (a.keep c ob q n hc hx) (a.free c ob q n hx) hc hx
  slot := fun c ob q n hc hx => by
    obtain ⟨sl, e1⟩ := a.slot c ob q n hc hx
    obtain ⟨sl', e2⟩ := b.slot c _ e1 (a.free c ob q n hx) hc hx
    exact ⟨sl', e2⟩
  free := fun c ob q n hx => by
    obtain ⟨o', e1⟩ := a.there c ob q hx
    exact b.free c o' e1 (a.free c ob q n hx) hx
  there := fun c ob q hx => by
    obtain ⟨o', e1⟩ := a.there c ob q hx
    exact b.there c o' e1 hx
  tups := fun c xs q => b.tups c xs (a.tups c xs q)
  frzs := fun c ob xs q => b.frzs c ob xs (a.frzs c ob xs q)
  tbls := fun c ps q => by
    obtain ⟨m1, e1⟩ := a.tbls c ps q
    obtain ⟨m2, e2⟩ := b.tbls c _ e1
    exact ⟨m1 ++ m2, by rw [e2, Array.append_assoc]⟩
theorem Un.kept (k : ∀ b u, h.get? b = some u → h'.get? b = some u) : Un fs ex H H h h' :=
  ⟨fun b ob q _ _ _ => k b ob q, fun b ob q _ _ _ => ⟨ob.slots, k b ob q⟩, fun _ _ _ n _ => n, fun b ob q _ => ⟨ob, k b ob q⟩, fun _ _ q => q, fun _ _ _ q => q, fun _ ps q => ⟨#[], by rw [q]; simp⟩⟩
theorem Un.refl : Un fs ex H H h h := Un.kept fun _ _ q => q
theorem Un.laid (k : ∀ b u, h.get? b = some u → h'.get? b = some u) (hp : h.objs.size ≤ a) (hn : H a = none) : Un fs ex H (upd H a o) h h' where
  keep := fun b u q _ _ _ => k b u q
  slot := fun b u q _ _ _ => ⟨u.slots, k b u q⟩
  free := fun b u q n _ => by rw [upd_ne (Nat.ne_of_lt (Nat.lt_of_lt_of_le (Heap.lt_size q) hp))]; exact n
  there := fun b u q _ => ⟨u, k b u q⟩
  tups := fun b xs q => by rw [upd_ne (ne_of_none q hn)]; exact q
  frzs := fun b u xs q => by rw [upd_ne (ne_of_none q hn)]; exact q
  tbls := fun b ps q => ⟨#[], by rw [upd_ne (ne_of_none q hn), q]; simp⟩
theorem Un.write (mu : Mut (H x)) (he : e = x ∨ H e = some (.own x)) (k : ∀ b u, b ≠ e → h.get? b = some u → h'.get? b = some u) (heo : ∃ u, h'.get? e = some u) : Un fs ex H (upd H x o) h h' := by
  have hx : ∀ b, H b = none → b ≠ x := fun b n z => by subst z; rw [n] at mu; exact mu
  have hb : ∀ b, H b = none → b ≠ e := fun b n z => by
    subst z
    rcases he with r | r
    · exact hx b n r
    · rw [n] at r; cases r
  have hm : ∀ b u, H b = some u → ¬ Mut (some u) → b ≠ x := fun b u q nm z => by subst z; rw [q] at mu; exact nm mu
  refine ⟨fun b u q n _ _ => k b u (hb b n) q, fun b u q n _ _ => ⟨u.slots, k b u (hb b n) q⟩, fun b u q n _ => by rw [upd_ne (hx b n)]; exact n, fun b u q _ => ?_,
    fun b xs q => by rw [upd_ne (hm b _ q fun z => z)]; exact q, fun b u xs q => by rw [upd_ne (hm b _ q fun z => z)]; exact q, fun b ps q => ⟨#[], by rw [upd_ne (hm b _ q fun z => z), q]; simp⟩⟩
  by_cases hbe : b = e
  · subst hbe; exact heo
  · exact ⟨u, k b u hbe q⟩
theorem Un.mono (u : Un fs ex H H1 h h1) (hs : ∀ b ∈ fs, b ∈ fs') (hx : ∀ b ∈ ex, b ∈ ex') : Un fs' ex' H H1 h h1 :=
  ⟨fun b ob q n hb he => u.keep b ob q n (fun z => hb (hs b z)) fun z => he (hx b z), fun _ _ q n _ he => u.any q n fun z => he (hx _ z), fun b ob q n he => u.free b ob q n fun z => he (hx b z), fun b ob q he => u.there b ob q fun z => he (hx b z), u.tups, u.frzs, u.tbls⟩
end
def trk (h : Heap) (H : Hp) : List Addr := (List.range h.objs.size).filter fun a => (H a).isSome
def hidT (h : Heap) (H : Hp) : Heap := PySem.W.hideAll h (trk h H)
theorem hidT_size (h : Heap) (H : Hp) : (hidT h H).objs.size = h.objs.size := PySem.W.hideAll_size _ _
theorem hidT_get {h : Heap} {H : Hp} {b : Addr} {o : Obj} (e : h.get? b = some o) (n : H b = none) : (hidT h H).get? b = some o :=
  PySem.W.hideAll_get _ e fun hm => by
    have q : (H b).isSome = true := (List.mem_filter.mp hm).2
    rw [n] at q; simp at q
theorem of_hidT {h : Heap} {H : Hp} {b : Addr} {o : Obj} (e : (hidT h H).get? b = some o) : h.get? b = some o ∧ H b = none := by
  have e' : h.get? b = some o := PySem.W.of_hideAll (trk h H) e
  refine ⟨e', ?_⟩
  cases q : H b with
  | none => rfl
  | some x =>
    have hm : b ∈ trk h H := List.mem_filter.mpr ⟨List.mem_range.mpr (Heap.lt_size e'), by simp [q]⟩
    have z : (hidT h H).get? b = none := PySem.W.hideAll_none (trk h H) hm
    rw [z] at e; cases e
def allNews (g h : Heap) (L : Addr) : List (Addr × Obj) := (List.range h.objs.size).filterMap fun a => if a = L ∨ (g.get? a).isSome = true then none else (h.get? a).map fun o => (a, o)
def rest (g h : Heap) (L d : Addr) : List (Addr × Obj) := (allNews g h L).filter fun p => decide (p.1 ≠ d)
end L2
namespace L2
open PySem PySem.Spec PyProof.Rows
structure Mod (K : PySem.W.Frag) (mg : Str → Option Value) (base : Heap) : Prop where
  kin : K.In base
  glob : base.Ns mainGlobals mg
  blt : ∃ mb, base.Ns builtinsNs mb ∧ ∀ x : Str, x ≠ "__name__" → mb x = bootBuiltins x
  nolimit : base.NoLimit
structure Cx where
  prog : Program
  w : World
  K : PySem.W.Frag
  mg : Str → Option Value
  base : Heap
  A : Around
  N : List Str
  s₀ : Shared
  H₀ : Hp
  env : Env
  outer : List Env
  stack : List Env
  ex : List Addr
  fn : Str → Bool
  calm : Bool
  pn : List (Addr × Obj)
  xe : Value → Shared → Prop
def frs (l : List Env) : List Addr := l.filterMap (·.frame)
abbrev Cx.fs (X : Cx) : List Addr := frs X.outer
def Vis (sc : Scope) (x : Str) : Prop := sc.names.lookup x = some .local ∨ sc.names.lookup x = some .cell ∨ sc.names.lookup x = some .free
def Loc (sc : Scope) (x : Str) : Prop := sc.names.lookup x = some .local ∨ sc.names.lookup x = some .cell
def Look (env : Env) (h : Heap) (m : Str → Option Value) (x : Str) (u : Value) : Prop :=
  (env.kindOf x = some .local ∧ m x = some u) ∨ ((env.kindOf x = some .cell ∨ env.kindOf x = some .free) ∧ ∃ c, env.cells.lookup x = some c ∧ h.IsCell c (some u))
structure Cx.Ok (X : Cx) : Prop where
  mod : Mod X.K X.mg X.base
  kind : X.env.scope.kind = .function
  glob : X.env.globals = mainGlobals
  blt : X.env.builtins = builtinsNs
  above : X.s₀.heap.objs.size ≤ X.env.locals
  inj : ∀ x y c, X.env.cells.lookup x = some c → X.env.cells.lookup y = some c → x = y
  has : ∀ x, (X.env.kindOf x = some .cell ∨ X.env.kindOf x = some .free) → ∃ c, X.env.cells.lookup x = some c
  cab : ∀ x c, X.fn x = true → X.env.cells.lookup x = some c → X.s₀.heap.objs.size ≤ c
  hd : X.calm = true → X.A.handled = none
  frames : X.A.frames = some X.stack
  stk : X.stack = X.outer ∨ (X.stack = X.env :: X.outer ∧ X.env.frame = some X.env.locals)
  exf : ∀ b ∈ X.ex, b ≠ X.env.locals ∧ ∀ x c, X.env.cells.lookup x = some c → c ≠ b
  bs : ∀ b o, X.base.get? b = some o → X.s₀.heap.get? b = some o ∧ X.H₀ b = none
  bsz : X.base.objs.size ≤ X.s₀.heap.objs.size
  noex : ∀ b o, X.base.get? b = some o → b ∉ X.ex
  exfs : ∀ b ∈ X.ex, b ∉ X.fs
  funs : X.s₀.heap.FunFrames X.base X.outer
  frf : ∀ b ∈ X.fs, X.H₀ b = none
structure Inv (X : Cx) (pins : List (Addr × Obj)) (σ : List (Option V)) (H : Hp) (s : Shared) : Prop where
  ok : X.Ok
  os : s.os = X.s₀.os
  bare : AllBare s.gens
  base : Un X.fs X.ex X.H₀ H X.s₀.heap s.heap
  loc : ∃ m, s.heap.Ns X.env.locals m ∧ ∀ (i : Nat) (x : Str) (v : V), X.N[i]? = some x → σ[i]? = some (some v) → Vis X.env.scope x → ∃ u, RelV v u ∧ Look X.env s.heap m x u
  cell : ∀ x c, X.env.cells.lookup x = some c → ∃ v, s.heap.IsCell c v
  free : H X.env.locals = none
  freeC : ∀ x c, X.env.cells.lookup x = some c → H c = none
  pin : ∀ p ∈ X.pn ++ pins, s.heap.get? p.1 = some p.2 ∧ H p.1 = none ∧ p.1 ≠ X.env.locals ∧ p.1 ∉ X.fs ∧ ∀ v, p.2.data ≠ .cell v
  hok : HOk X.prog X.w H s.heap
  len : σ.length = X.N.length
section
variable {X : Cx} {pins : List (Addr × Obj)} {σ : List (Option V)} {H H' : Hp} {s : Shared} {h' : Heap}
theorem Cx.Ok.nofr (ok : X.Ok) {b : Addr} {o : Obj} (e : X.base.get? b = some o) : b ∉ X.fs := fun hb => by
  have := (ok.funs.mem hb).1
  rw [e] at this; cases this
theorem Inv.bs (I : Inv X pins σ H s) : ∀ b o, X.base.get? b = some o → s.heap.get? b = some o ∧ H b = none := fun b o e =>
  ⟨I.base.keep b o (I.ok.bs b o e).1 (I.ok.bs b o e).2 (I.ok.nofr e) (I.ok.noex b o e), I.base.free b o (I.ok.bs b o e).1 (I.ok.bs b o e).2 (I.ok.noex b o e)⟩
theorem Inv.bk (I : Inv X pins σ H s) : ∀ b o, X.base.get? b = some o → s.heap.get? b = some o := fun b o e => (I.bs b o e).1
theorem Inv.mod (I : Inv X pins σ H s) : Mod X.K X.mg X.base := I.ok.mod
theorem Inv.kIn (I : Inv X pins σ H s) : X.K.In s.heap := I.ok.mod.kin.keeps I.bk
theorem Inv.nolimit (I : Inv X pins σ H s) : s.heap.NoLimit := I.ok.mod.nolimit.keeps I.bk
theorem Inv.lt (I : Inv X pins σ H s) : X.env.locals < s.heap.objs.size := let ⟨_, hn, _⟩ := I.loc; hn.lt
theorem Inv.sz (I : Inv X pins σ H s) : X.s₀.heap.objs.size ≤ s.heap.objs.size := Nat.le_trans I.ok.above (Nat.le_of_lt I.lt)
theorem Inv.nofs (I : Inv X pins σ H s) {a : Addr} (h : s.heap.objs.size ≤ a) : a ∉ X.fs := fun hb => by
  obtain ⟨_, o, ho, _⟩ := I.ok.funs.mem hb
  exact absurd (Nat.lt_of_lt_of_le (Heap.lt_size ho) (Nat.le_trans I.sz h)) (Nat.lt_irrefl _)
theorem Inv.cne (I : Inv X pins σ H s) : ∀ x c, X.env.cells.lookup x = some c → c ≠ X.env.locals := fun x c e z => by
  obtain ⟨v, o, ho, hd⟩ := I.cell x c e
  obtain ⟨m, ⟨o', es, ep, ho', hd', _⟩, _⟩ := I.loc
  rw [z, ho'] at ho; cases ho; rw [hd'] at hd; cases hd
theorem Inv.funs (I : Inv X pins σ H s) : s.heap.FunFrames X.base X.outer := by
  have all : ∀ (l : List Env), (∀ b ∈ frs l, b ∈ X.fs) → X.s₀.heap.FunFrames X.base l → s.heap.FunFrames X.base l := by
    intro l
    induction l with
    | nil => intro _ _; trivial
    | cons env r ih =>
      intro hs hl
      obtain ⟨hk, ⟨L, o, hf, hn, ho, hd⟩, hr⟩ := hl
      have hL : L ∈ X.fs := hs L (by unfold frs; rw [List.filterMap_cons, hf]; exact List.mem_cons_self)
      obtain ⟨sl, e⟩ := I.base.slot L o ho (I.ok.frf L hL) hL fun z => I.ok.exfs L z hL
      exact ⟨hk, ⟨L, _, hf, hn, e, hd⟩, ih (fun b hb => hs b (by unfold frs; rw [List.filterMap_cons, hf]; exact List.mem_cons_of_mem _ hb)) hr⟩
  exact all X.outer (fun _ hb => hb) I.ok.funs
theorem Inv.stack (I : Inv X pins σ H s) : s.heap.FunFrames X.base X.stack := by
  rcases I.ok.stk with e | ⟨e, hf⟩
  · rw [e]; exact I.funs
  · rw [e]
    obtain ⟨m, hn, _⟩ := I.loc
    refine .cons (by rw [I.ok.kind]; decide) hf hn ?_ I.funs
    exact Heap.get?_none_of_le (Nat.le_trans I.ok.bsz I.ok.above)
theorem Inv.stkSub (I : Inv X pins σ H s) : ∀ b ∈ frs X.stack, b ∈ X.env.locals :: X.fs := fun b hb => by
  rcases I.ok.stk with e | ⟨e, hf⟩
  · rw [e] at hb; exact List.mem_cons_of_mem _ hb
  · rw [e] at hb
    unfold frs at hb
    rw [List.filterMap_cons, hf] at hb
    exact hb
theorem Inv.stkFree (I : Inv X pins σ H s) : ∀ b ∈ frs X.stack, H b = none := fun b hb => by
  rcases List.mem_cons.mp (I.stkSub b hb) with e | hb
  · rw [e]; exact I.free
  · obtain ⟨_, o, ho, _⟩ := I.ok.funs.mem hb
    exact I.base.free b o ho (I.ok.frf b hb) fun z => I.ok.exfs b z hb
theorem Inv.step {g' : Array GenState} {t' : Nat} {d' : Drawn} {ch : List Addr} (I : Inv X pins σ H s)
    (hch : ∀ b ∈ ch, (b ∈ X.ex ∨ X.s₀.heap.objs.size ≤ b) ∧ b ≠ X.env.locals ∧ (∀ x c, X.env.cells.lookup x = some c → c ≠ b) ∧ ∀ p ∈ X.pn ++ pins, p.1 ≠ b)
    (keep : ∀ b o, b ≠ X.env.locals → b ∉ X.fs → b ∉ ch → s.heap.get? b = some o → H b = none → h'.get? b = some o)
    (slot : ∀ b o, b ≠ X.env.locals → b ∈ X.fs → b ∉ ch → s.heap.get? b = some o → H b = none → ∃ sl, h'.get? b = some { o with slots := sl }) (free : ∀ b o, b ∉ ch → s.heap.get? b = some o → H b = none → H' b = none)
    (there : ∀ b o, b ∉ ch → s.heap.get? b = some o → ∃ o', h'.get? b = some o')
    (tups : ∀ b xs, H b = some (.tup xs) → H' b = some (.tup xs)) (frzs : ∀ b o u, H b = some (.frz o u) → H' b = some (.frz o u)) (tbls : ∀ b ps, H b = some (.tbl ps) → ∃ more, H' b = some (.tbl (ps ++ more)))
    (ns : ∀ m, s.heap.Ns X.env.locals m → h'.Ns X.env.locals m) (hok : HOk X.prog X.w H' h') (hg : AllBare g') :
    Inv X pins σ H' { s with heap := h', gens := g', drawn := d', toks := t' } := by
  have neL : ∀ b o, X.s₀.heap.get? b = some o → b ≠ X.env.locals := fun b o e => Nat.ne_of_lt (Nat.lt_of_lt_of_le (Heap.lt_size e) I.ok.above)
  have neC : ∀ b o, X.s₀.heap.get? b = some o → b ∉ X.ex → b ∉ ch := fun b o e hx hb => by
    rcases (hch b hb).1 with z | z
    · exact hx z
    · exact absurd (Nat.lt_of_lt_of_le (Heap.lt_size e) z) (Nat.lt_irrefl _)
  have cellK : ∀ x c, X.env.cells.lookup x = some c → ∀ v, s.heap.IsCell c v → h'.IsCell c v := fun x c e v ⟨o, ho, hd⟩ => by
    have nch : c ∉ ch := fun z => (hch c z).2.2.1 x c e rfl
    by_cases hc : c ∈ X.fs
    · obtain ⟨sl, q⟩ := slot c o (I.cne x c e) hc nch ho (I.freeC x c e)
      exact ⟨_, q, hd⟩
    · exact ⟨o, keep c o (I.cne x c e) hc nch ho (I.freeC x c e), hd⟩
  refine ⟨I.ok, I.os, hg, ⟨fun b o e n hb hx => ?_, fun b o e n hb hx => ?_, fun b o e n hx => ?_, fun b o e hx => ?_, fun b xs e => tups b xs (I.base.tups b xs e), fun b o xs e => frzs b o xs (I.base.frzs b o xs e), fun b ps e => ?_⟩, ?_, fun x c e => ?_, ?_, fun x c e => ?_, fun p hp => ?_, hok, I.len⟩
  · exact keep b o (neL b o e) hb (neC b o e hx) (I.base.keep b o e n hb hx) (I.base.free b o e n hx)
  · obtain ⟨sl, e1⟩ := I.base.slot b o e n hb hx
    obtain ⟨sl', e2⟩ := slot b _ (neL b o e) hb (neC b o e hx) e1 (I.base.free b o e n hx)
    exact ⟨sl', e2⟩
  · obtain ⟨o', e1⟩ := I.base.there b o e hx
    exact free b o' (neC b o e hx) e1 (I.base.free b o e n hx)
  · obtain ⟨o', e1⟩ := I.base.there b o e hx
    exact there b o' (neC b o e hx) e1
  · obtain ⟨m1, e1⟩ := I.base.tbls b ps e
    obtain ⟨m2, e2⟩ := tbls b _ e1
    exact ⟨m1 ++ m2, by rw [e2, Array.append_assoc]⟩
  · obtain ⟨m, hn, hl⟩ := I.loc
    refine ⟨m, ns m hn, fun i x v e1 e2 e3 => ?_⟩
    obtain ⟨u, r, l⟩ := hl i x v e1 e2 e3
    refine ⟨u, r, ?_⟩
    rcases l with l | ⟨k, c, e, z⟩
    · exact .inl l
    · exact .inr ⟨k, c, e, cellK x c e _ z⟩
  · obtain ⟨v, z⟩ := I.cell x c e
    exact ⟨v, cellK x c e v z⟩
  · obtain ⟨m, ⟨o, _, _, ho, _⟩, _⟩ := I.loc
    exact free _ o (fun z => (hch _ z).2.1 rfl) ho I.free
  · obtain ⟨v, o, ho, hd⟩ := I.cell x c e
    exact free c o (fun z => (hch c z).2.2.1 x c e rfl) ho (I.freeC x c e)
  · obtain ⟨e, n, ne, nf, d⟩ := I.pin p hp
    have nch : p.1 ∉ ch := fun z => (hch p.1 z).2.2.2 p hp rfl
    exact ⟨keep p.1 p.2 ne nf nch e n, free p.1 p.2 nch e n, ne, nf, d⟩
theorem Inv.un {t' : Nat} (I : Inv X pins σ H s) (u : Un X.fs [] H H' s.heap h') (hok : HOk X.prog X.w H' h') : Inv X pins σ H' { s with heap := h', toks := t' } := by
  obtain ⟨m, ⟨o, es, ep, ho, r⟩, _⟩ := id I.loc
  obtain ⟨sl, hL⟩ := u.any ho I.free (by simp)
  exact I.step (g' := s.gens) (d' := s.drawn) (ch := []) (fun _ z => nomatch z) (fun b o _ hb _ e n => u.keep b o e n hb (by simp)) (fun b o _ hb _ e n => u.slot b o e n hb (by simp)) (fun b o _ e n => u.free b o e n (by simp)) (fun b o _ e => u.there b o e (by simp)) u.tups u.frzs u.tbls (fun m' hm => by
    obtain ⟨o', es', ep', ho', r'⟩ := hm
    rw [ho] at ho'; cases ho'
    exact ⟨_, es', ep', hL, r'⟩) hok I.bare
theorem Inv.call {g' : Array GenState} {t' : Nat} {d' : Drawn} {ch : List Addr} (I : Inv X pins σ H s) (u : Un (frs X.stack) ch H H' s.heap h') (hok : HOk X.prog X.w H' h') (hg : AllBare g')
    (hch : ∀ b ∈ ch, (b ∈ X.ex ∨ X.s₀.heap.objs.size ≤ b) ∧ b ≠ X.env.locals ∧ (∀ x c, X.env.cells.lookup x = some c → c ≠ b) ∧ ∀ p ∈ X.pn ++ pins, p.1 ≠ b) :
    Inv X pins σ H' { s with heap := h', gens := g', drawn := d', toks := t' } := by
  obtain ⟨m, ⟨o, es, ep, ho, r⟩, _⟩ := id I.loc
  obtain ⟨sl, hL⟩ := u.any ho I.free fun z => (hch _ z).2.1 rfl
  exact I.step (ch := ch) hch (fun b o hL hb hc e n => u.keep b o e n (fun z => (List.mem_cons.mp (I.stkSub b z)).elim hL hb) hc) (fun b o _ _ hc e n => u.any e n hc) (fun b o hc e n => u.free b o e n hc) (fun b o hc e => u.there b o e hc) u.tups u.frzs u.tbls (fun m' hm => by
    obtain ⟨o', es', ep', ho', r'⟩ := hm
    rw [ho] at ho'; cases ho'
    exact ⟨_, es', ep', hL, r'⟩) hok hg
theorem Inv.turned {t' : Nat} {it : Addr} (I : Inv X pins σ H s) (k : ∀ b o, b ≠ it → s.heap.get? b = some o → h'.get? b = some o) (hn : H it = none) (hL : it ≠ X.env.locals)
    (h1 : it ∈ X.ex ∨ X.s₀.heap.objs.size ≤ it) (h2 : ∀ x c, X.env.cells.lookup x = some c → c ≠ it) (h3 : ∀ p ∈ X.pn ++ pins, p.1 ≠ it) : Inv X pins σ H { s with heap := h', toks := t' } := by
  have nit : ∀ b u, H b = some u → b ≠ it := fun b u e z => by rw [z, hn] at e; cases e
  refine I.step (g' := s.gens) (d' := s.drawn) (ch := [it]) (fun b hb => ?_) (fun b o _ _ hc e _ => k b o (fun z => hc (by simp [z])) e) (fun b o _ _ hc e _ => ⟨o.slots, k b o (fun z => hc (by simp [z])) e⟩) (fun _ _ _ _ n => n)
    (fun b o hc e => ⟨o, k b o (fun z => hc (by simp [z])) e⟩) (fun _ _ e => e) (fun _ _ _ e => e) (fun b ps e => ⟨#[], by rw [e]; simp⟩) (fun m hm => ?_) (fun b u e => ?_) I.bare
  · have e : b = it := by simpa using hb
    subst e
    exact ⟨h1, hL, h2, h3⟩
  · obtain ⟨o, es, ep, ho, r⟩ := hm
    exact ⟨o, es, ep, k _ o (Ne.symm hL) ho, r⟩
  · refine (I.hok b u e).stay (fun c v hc q => k c v ?_ q) (fun _ q => q) fun _ _ q => q
    rcases hc with z | z
    · rw [z]; exact nit b u e
    · exact nit c _ z
theorem Inv.tok (I : Inv X pins σ H s) (t : Nat) : Inv X pins σ H { s with toks := t } := I.un (h' := s.heap) (t' := t) Un.refl I.hok
theorem Inv.kept {t' : Nat} (I : Inv X pins σ H s) (k : ∀ b u, s.heap.get? b = some u → h'.get? b = some u) : Inv X pins σ H { s with heap := h', toks := t' } := I.un (Un.kept k) (I.hok.kept k)
theorem Inv.laid {a : Addr} {o : HO} {t' : Nat} (I : Inv X pins σ H s) (k : ∀ b u, s.heap.get? b = some u → h'.get? b = some u) (hp : s.heap.objs.size ≤ a) (new : ObjOk X.prog X.w (upd H a o) h' a o) :
    Inv X pins σ (upd H a o) { s with heap := h', toks := t' } := I.un (Un.laid k hp (I.hok.fresh hp)) (I.hok.laid k hp new)
theorem Inv.write {x e : Addr} {o : HO} {t' : Nat} (I : Inv X pins σ H s) (mu : Mut (H x)) (he : e = x ∨ H e = some (.own x)) (k : ∀ b u, b ≠ e → s.heap.get? b = some u → h'.get? b = some u) (heo : ∃ u, h'.get? e = some u)
    (new : ObjOk X.prog X.w (upd H x o) h' x o) : Inv X pins σ (upd H x o) { s with heap := h', toks := t' } := I.un (Un.write mu he k heo) (I.hok.write mu he k heo new)
theorem Inv.weak {σ' : List (Option V)} (I : Inv X pins σ H s) (hl : σ'.length = σ.length) (w : ∀ (i : Nat) v, σ'[i]? = some (some v) → σ[i]? = some (some v)) : Inv X pins σ' H s :=
  ⟨I.ok, I.os, I.bare, I.base, let ⟨m, hn, hl'⟩ := I.loc; ⟨m, hn, fun i x v e1 e2 e3 => hl' i x v e1 (w i v e2) e3⟩, I.cell, I.free, I.freeC, I.pin, I.hok, hl.trans I.len⟩
theorem Inv.pins_of {pins' : List (Addr × Obj)} (I : Inv X pins σ H s) (h : ∀ p ∈ pins', s.heap.get? p.1 = some p.2 ∧ H p.1 = none ∧ p.1 ≠ X.env.locals ∧ p.1 ∉ X.fs ∧ ∀ v, p.2.data ≠ .cell v) : Inv X pins' σ H s :=
  ⟨I.ok, I.os, I.bare, I.base, I.loc, I.cell, I.free, I.freeC, fun p hp => (List.mem_append.mp hp).elim (fun z => I.pin p (List.mem_append_left _ z)) (h p), I.hok, I.len⟩
theorem nodup_ix {N : List Str} (hN : N.Nodup) {i j : Nat} {x : Str} (a : N[i]? = some x) (b : N[j]? = some x) : i = j := by
  obtain ⟨h1, e1⟩ := List.getElem?_eq_some_iff.mp a
  obtain ⟨h2, e2⟩ := List.getElem?_eq_some_iff.mp b
  exact (List.getElem_inj hN).mp (e1.trans e2.symm)
theorem store_ok2 {M : Model} {A : Around} {E : Value → Shared → Prop} {i : Nat} {x : Str} {v : V} {u : Value} {Q : Unit → Shared → Prop} (I : Inv X pins σ H s) (hN : X.N.Nodup) (hi : X.N[i]? = some x) (hx : Loc X.env.scope x) (r : RelV v u)
    (h : ∀ s', Inv X pins (σ.set i (some v)) H s' → (∃ a, Heap.SameBut a s.heap s'.heap ∧ (a = X.env.locals ∨ X.env.cells.lookup x = some a)) → Q () s') (hf : X.fn x = true ∨ X.env.scope.names.lookup x = some .local := by first | exact .inl rfl | exact .inr rfl | assumption) : wpAny M A (storeName X.env x u) Q E s := by
  obtain ⟨m, hn, hl⟩ := id I.loc
  have hcls : (X.env.scope.kind == .class || (X.env.scope.kind == .module && X.env.locals != X.env.globals)) = false := by rw [I.ok.kind]; rfl
  have hiσ : i < σ.length := by rw [I.len]; exact (List.getElem?_eq_some_iff.mp hi).1
  have cne := I.cne
  have tracked : ∀ {a : Addr} {h' : Heap}, (∃ o, s.heap.get? a = some o ∧ H a = none) → Heap.SameBut a s.heap h' → HOk X.prog X.w H h' := fun {a h'} ha hs b ob e => by
    obtain ⟨_, _, hfree⟩ := ha
    refine (I.hok b ob e).stay (fun c w' hc q => (hs.2 c ?_).trans q) (fun _ q => q) fun _ _ q => q
    rintro rfl
    rcases hc with rfl | hc
    · rw [hfree] at e; cases e
    · rw [hfree] at hc; cases hc
  rcases hx with hk | hk
  · refine wpAny_storeName_local hk hn (fun h' hn' hs => ?_) hcls
    obtain ⟨oL, _, _, hoL, _⟩ := id hn
    refine h _ ⟨I.ok, I.os, I.bare, ⟨fun b o e n hb hx => ?_, fun b o e n hb hx => ?_, I.base.free, fun b o e hx => ?_, I.base.tups, I.base.frzs, I.base.tbls⟩, ⟨_, hn', fun j y v' e1 e2 e3 => ?_⟩, fun y c e => ?_, I.free, I.freeC, fun p hp => ?_, tracked ⟨oL, hoL, I.free⟩ hs, by simpa using I.len⟩ ⟨_, hs, .inl rfl⟩
    · exact (hs.2 b (Nat.ne_of_lt (Nat.lt_of_lt_of_le (Heap.lt_size e) I.ok.above))).trans (I.base.keep b o e n hb hx)
    · obtain ⟨sl, e1⟩ := I.base.slot b o e n hb hx
      exact ⟨sl, (hs.2 b (Nat.ne_of_lt (Nat.lt_of_lt_of_le (Heap.lt_size e) I.ok.above))).trans e1⟩
    · obtain ⟨o', e1⟩ := I.base.there b o e hx
      exact ⟨o', (hs.2 b (Nat.ne_of_lt (Nat.lt_of_lt_of_le (Heap.lt_size e) I.ok.above))).trans e1⟩
    · by_cases hj : j = i
      · subst hj
        rw [hi] at e1; cases e1
        rw [List.getElem?_set_self hiσ] at e2
        cases e2
        exact ⟨u, r, .inl ⟨hk, by simp⟩⟩
      · rw [List.getElem?_set_ne (Ne.symm hj)] at e2
        obtain ⟨u', r', q⟩ := hl j y v' e1 e2 e3
        refine ⟨u', r', ?_⟩
        rcases q with ⟨k, e⟩ | ⟨k, c, e, z⟩
        · refine .inl ⟨k, ?_⟩
          have : y ≠ x := fun e => hj (nodup_ix hN e1 (e ▸ hi))
          simp [this, e]
        · exact .inr ⟨k, c, e, z.sameBut hs (cne y c e)⟩
    · obtain ⟨w', z⟩ := I.cell y c e
      exact ⟨w', z.sameBut hs (cne y c e)⟩
    · obtain ⟨e, n, ne, nf, d⟩ := I.pin p hp
      exact ⟨(hs.2 p.1 ne).trans e, n, ne, nf, d⟩
  · have hfn : X.fn x = true := by
      rcases hf with z | z
      · exact z
      · rw [z] at hk; cases hk
    obtain ⟨c, hc⟩ := I.ok.has x (.inl hk)
    obtain ⟨w', z⟩ := I.cell x c hc
    refine wpAny_storeName_cell I.ok.kind hk hc z (fun h' hc' hs => ?_)
    obtain ⟨oc, hoc, hocd⟩ := id z
    refine h { s with heap := h' } ⟨I.ok, I.os, I.bare, ⟨fun b o e n hb hx => ?_, fun b o e n hb hx => ?_, I.base.free, fun b o e hx => ?_, I.base.tups, I.base.frzs, I.base.tbls⟩, ⟨m, hn.sameBut hs (Ne.symm (cne x c hc)), fun j y v' e1 e2 e3 => ?_⟩, fun y c' e => ?_, I.free, I.freeC, fun p hp => ?_, tracked ⟨oc, hoc, I.freeC x c hc⟩ hs, by simpa using I.len⟩ ⟨c, hs, .inr hc⟩
    · exact (hs.2 b (Nat.ne_of_lt (Nat.lt_of_lt_of_le (Heap.lt_size e) (I.ok.cab x c hfn hc)))).trans (I.base.keep b o e n hb hx)
    · obtain ⟨sl, e1⟩ := I.base.slot b o e n hb hx
      exact ⟨sl, (hs.2 b (Nat.ne_of_lt (Nat.lt_of_lt_of_le (Heap.lt_size e) (I.ok.cab x c hfn hc)))).trans e1⟩
    · obtain ⟨o', e1⟩ := I.base.there b o e hx
      exact ⟨o', (hs.2 b (Nat.ne_of_lt (Nat.lt_of_lt_of_le (Heap.lt_size e) (I.ok.cab x c hfn hc)))).trans e1⟩
    · by_cases hj : j = i
      · subst hj
        rw [hi] at e1; cases e1
        rw [List.getElem?_set_self hiσ] at e2
        cases e2
        exact ⟨u, r, .inr ⟨.inl hk, c, hc, hc'⟩⟩
      · rw [List.getElem?_set_ne (Ne.symm hj)] at e2
        obtain ⟨u', r', q⟩ := hl j y v' e1 e2 e3
        refine ⟨u', r', ?_⟩
        rcases q with q | ⟨k, c', e, z'⟩
        · exact .inl q
        · refine .inr ⟨k, c', e, z'.sameBut hs ?_⟩
          rintro rfl
          exact hj (nodup_ix hN e1 (I.ok.inj _ _ _ e hc ▸ hi))
    · by_cases hcc : c' = c
      · subst hcc; exact ⟨_, hc'⟩
      · obtain ⟨w2, z2⟩ := I.cell y c' e
        exact ⟨w2, z2.sameBut hs hcc⟩
    · obtain ⟨e, n, ne, nf, d⟩ := I.pin p hp
      refine ⟨(hs.2 p.1 ?_).trans e, n, ne, nf, d⟩
      intro q
      rw [q, hoc] at e
      have q' : oc = p.2 := Option.some.inj e
      exact d w' (by rw [← q']; exact hocd)
theorem store_ok {M : Model} {A : Around} {E : Value → Shared → Prop} {i : Nat} {x : Str} {v : V} {u : Value} {Q : Unit → Shared → Prop} (I : Inv X pins σ H s) (hN : X.N.Nodup) (hi : X.N[i]? = some x) (hx : Loc X.env.scope x) (r : RelV v u)
    (h : ∀ s', Inv X pins (σ.set i (some v)) H s' → Q () s') (hf : X.fn x = true ∨ X.env.scope.names.lookup x = some .local := by first | exact .inl rfl | exact .inr rfl | assumption) : wpAny M A (storeName X.env x u) Q E s :=
  store_ok2 I hN hi hx r (fun s' I' _ => h s' I') hf
theorem Inv.call' {s' : Shared} {ch : List Addr} (I : Inv X pins σ H s) (ho : s'.os = s.os) (u : Un (frs X.stack) ch H H' s.heap s'.heap) (hok : HOk X.prog X.w H' s'.heap) (hg : AllBare s'.gens)
    (hch : ∀ b ∈ ch, (b ∈ X.ex ∨ X.s₀.heap.objs.size ≤ b) ∧ b ≠ X.env.locals ∧ (∀ x c, X.env.cells.lookup x = some c → c ≠ b) ∧ ∀ p ∈ X.pn ++ pins, p.1 ≠ b) : Inv X pins σ H' s' := by
  obtain ⟨h', g', d', t', o'⟩ := s'
  have e : o' = s.os := ho
  subst e
  exact I.call (g' := g') (t' := t') (d' := d') u hok hg hch
end
abbrev XK := Value → Option Addr → Hp → Prop
abbrev St := List (Option V)
abbrev VK := V → Hp → Prop
abbrev TE := St → Hp → VK → Prop
abbrev TT := St → Hp → (Bool → Hp → Prop) → Prop
abbrev TA := St → Hp → (List V → Hp → Prop) → Prop
structure Ends where
  nx : St → Hp → Prop
  rt : VK
  bk : St → Hp → Prop := fun _ _ => False
  ct : St → Hp → Prop := fun _ _ => False
abbrev TS := Ends → St → Hp → Prop
def EP (X : Cx) (pins : List (Addr × Obj)) (σ : St) (Q : VK) (u : Value) (s' : Shared) : Prop := ∃ v H', Inv X pins σ H' s' ∧ RelV v u ∧ Q v H'
def TP (X : Cx) (pins : List (Addr × Obj)) (σ : St) (Q : Bool → Hp → Prop) (b : Bool) (s' : Shared) : Prop := ∃ H', Inv X pins σ H' s' ∧ Q b H'
def AP (X : Cx) (pins : List (Addr × Obj)) (σ : St) (Q : List V → Hp → Prop) (us : List Value) (s' : Shared) : Prop := ∃ vs H', Inv X pins σ H' s' ∧ Vals vs us ∧ Q vs H'
def SP (X : Cx) (pins : List (Addr × Obj)) (D : Ends) (f : Flow) (s' : Shared) : Prop :=
  match f with
  | .next => ∃ σ' H', Inv X pins σ' H' s' ∧ D.nx σ' H'
  | .brk => ∃ σ' H', Inv X pins σ' H' s' ∧ D.bk σ' H'
  | .cont => ∃ σ' H', Inv X pins σ' H' s' ∧ D.ct σ' H'
  | .ret u => ∃ v σ' H', Inv X pins σ' H' s' ∧ RelV v u ∧ D.rt v H'
def PE (X : Cx) (e : Expr) (t : TE) : Prop :=
  ∀ (pins : List (Addr × Obj)) (s : Shared) (σ : St) (H : Hp) (Q : VK), Inv X pins σ H s → t σ H Q → wpAny (model X.prog X.w) X.A (eval e X.env) (EP X pins σ Q) X.xe s
def PT (X : Cx) (e : Expr) (t : TT) : Prop :=
  ∀ (pins : List (Addr × Obj)) (s : Shared) (σ : St) (H : Hp) (Q : Bool → Hp → Prop), Inv X pins σ H s → t σ H Q → wpAny (model X.prog X.w) X.A (isTrue e X.env (eval e X.env)) (TP X pins σ Q) X.xe s
def PW (X : Cx) (e : Expr) (t : TT) : Prop :=
  ∀ (whole : Sem Value) (pins : List (Addr × Obj)) (s : Shared) (σ : St) (H : Hp) (Q : Bool → Hp → Prop), Inv X pins σ H s → t σ H Q → wpAny (model X.prog X.w) X.A (isTrue e X.env whole) (TP X pins σ Q) X.xe s
theorem PW.pt {X : Cx} {e : Expr} {t : TT} (h : PW X e t) : PT X e t := h _
def PA (X : Cx) (es : List Expr) (t : TA) : Prop :=
  ∀ (pos : Pos) (pins : List (Addr × Obj)) (s : Shared) (σ : St) (H : Hp) (Q : List V → Hp → Prop), Inv X pins σ H s → t σ H Q → wpAny (model X.prog X.w) X.A (spliced (backTo pos (starEach es X.env))) (AP X pins σ Q) X.xe s
def PS (X : Cx) (st : Stmt) (t : TS) : Prop :=
  ∀ (pins : List (Addr × Obj)) (s : Shared) (σ : St) (H : Hp) (D : Ends), Inv X pins σ H s → t D σ H → wpAny (model X.prog X.w) X.A (exec st X.env) (SP X pins D) X.xe s
def PSs (X : Cx) (st : List Stmt) (t : TS) : Prop :=
  ∀ (pins : List (Addr × Obj)) (s : Shared) (σ : St) (H : Hp) (D : Ends), Inv X pins σ H s → t D σ H → wpAny (model X.prog X.w) X.A (execs st X.env) (SP X pins D) X.xe s
theorem thn {α : Type} {t : Sem α} {Q Q' : α → Shared → Prop} {M : Model} {A : Around} {E : Value → Shared → Prop} {s : Shared} (h : wpAny M A t Q E s) (hQ : ∀ a s, Q a s → Q' a s) : wpAny M A t Q' E s := wpAny_mono h hQ fun _ _ x => x
end L2
namespace L2
open PySem PySem.Spec PyProof.Rows
section
variable {X : Cx}
def tVar (i : Nat) : TE := fun σ H Q => ∃ v, σ[i]? = some (some v) ∧ Q v H
def tC (v : V) : TE := fun _ H Q => Q v H
theorem pe_var {i : Nat} {x : Str} {pos : Pos} (hN : X.N[i]? = some x) (hv : Vis X.env.scope x) (hd : (x == ("__debug__" : Str)) = false := by decide) (hcd : (x == ("__classdict__" : Str)) = false := by decide) : PE X (.Name x pos) (tVar i) := by
  intro pins s σ H Q I h
  obtain ⟨v, e, h⟩ := h
  obtain ⟨m, hn, hl⟩ := I.loc
  obtain ⟨u, r, l⟩ := hl i x v hN e hv
  have fin : EP X pins σ Q u s := ⟨v, H, I, r, h⟩
  rcases l with ⟨hk, hm⟩ | ⟨hk, c, hc, hcell⟩
  · exact wpAny_Name (wpAny_loadName_local I.ok.kind hk hn hm fin) hd
  · rcases hk with hk | hk
    · exact wpAny_Name (wpAny_loadName_cell I.ok.kind hk hc hcell fin) hd
    · exact wpAny_Name (wpAny_loadName_free I.ok.kind hk hc hcell fin hcd) hd
theorem pe_int {i j pos} : PE X (.Constant (.int i) j pos) (tC (.int i)) := fun _ _ _ H _ I h => wpAny_Constant_int ⟨.int i, H, I.tok _, ⟨_, rfl⟩, h⟩
theorem pe_bl {b j pos} : PE X (.Constant (.bool b) j pos) (tC (.bl b)) := fun _ _ _ H _ I h => Constant_bool ⟨.bl b, H, I, rfl, h⟩
theorem pe_non {j pos} : PE X (.Constant .none j pos) (tC .non) := fun _ _ _ H _ I h => Constant_none ⟨.non, H, I, rfl, h⟩
theorem pe_str {x j pos} : PE X (.Constant (.str x) j pos) (tC (.str x)) := fun _ _ _ H _ I h => Calls.Constant_str ⟨.str x, H, I.tok _, ⟨_, rfl⟩, h⟩
def Gl (X : Cx) (x : Str) : Prop := X.env.kindOf x = some .globalImplicit
theorem ld_glob {E : Value → Shared → Prop} {pins : List (Addr × Obj)} {s : Shared} {σ : St} {H : Hp} {x : Str} {u : Value} {pos : Pos} {Q : Value → Shared → Prop} (I : Inv X pins σ H s) (hg : Gl X x) (hm : X.mg x = some u) (h : Q u s)
    (hd : (x == ("__debug__" : Str)) = false := by decide) : wpAny (model X.prog X.w) X.A (eval (.Name x pos) X.env) Q E s :=
  Calls.Name_function_global I.ok.kind hg (Calls.loadGlobal_global (by rw [I.ok.glob]; exact I.mod.glob.keeps I.bk) hm h) hd
theorem ld_blt {E : Value → Shared → Prop} {pins : List (Addr × Obj)} {s : Shared} {σ : St} {H : Hp} {x : Str} {u : Value} {pos : Pos} {Q : Value → Shared → Prop} (I : Inv X pins σ H s) (hg : Gl X x) (hm : X.mg x = none) (hv : bootBuiltins x = some u) (h : Q u s)
    (hn : x ≠ "__name__" := by decide) (hd : (x == ("__debug__" : Str)) = false := by decide) : wpAny (model X.prog X.w) X.A (eval (.Name x pos) X.env) Q E s := by
  obtain ⟨mb, h1, h2⟩ := I.mod.blt
  exact Calls.Name_function_global I.ok.kind hg (Calls.loadGlobal_builtin (by rw [I.ok.glob]; exact I.mod.glob.keeps I.bk) hm (by rw [I.ok.blt]; exact h1.keeps I.bk) ((h2 x hn).trans hv) h) hd
theorem pe_bltn {x : Str} {v : V} {u : Value} {pos : Pos} (hg : Gl X x) (hm : X.mg x = none) (hv : bootBuiltins x = some u) (r : RelV v u) (hn : x ≠ "__name__" := by decide) (hd : (x == ("__debug__" : Str)) = false := by decide) : PE X (.Name x pos) (tC v) :=
  fun _ _ _ H _ I h => ld_blt I hg hm hv ⟨v, H, I, r, h⟩ hn hd
variable {a b : Expr} {ta tb : TE} {pos : Pos}
def PC (X : Cx) (op : CmpOp) (a b : Expr) (t : TE) : Prop :=
  ∀ (pins : List (Addr × Obj)) (s : Shared) (σ : St) (H : Hp) (Q : VK), Inv X pins σ H s → t σ H Q →
    wpAny (model X.prog X.w) X.A (eval a X.env) (fun v s₁ => wpAny (model X.prog X.w) X.A (eval b X.env) (fun u s₂ => wpAny (model X.prog X.w) X.A (compareOp op v u) (EP X pins σ Q) X.xe s₂) X.xe s₁) X.xe s
theorem nobehind (b : Expr) {op : CmpOp} (h : op ≠ .In) (h2 : op ≠ .NotIn) : behindInMarks op b = false := by
  have e1 : (op == CmpOp.In) = false := by cases op <;> first | rfl | exact absurd rfl h
  have e2 : (op == CmpOp.NotIn) = false := by cases op <;> first | rfl | exact absurd rfl h2
  cases b <;> simp [behindInMarks, e1, e2]
def tIsN (ta : TE) : TE := fun σ H Q => ta σ H fun x H1 => Q (.bl (decide (x = .non))) H1
theorem RelV.none_iff {x : V} {v : Value} (r : RelV x v) : (v == Value.none) = decide (x = .non) := by
  cases x with
  | non => cases r; rfl
  | bl _ => cases r; rfl
  | int _ => obtain ⟨t, rfl⟩ := r; rfl
  | str _ => obtain ⟨t, rfl⟩ := r; rfl
  | byt _ => obtain ⟨t, rfl⟩ := r; rfl
  | flt _ => obtain ⟨t, rfl⟩ := r; rfl
  | ref _ => cases r; rfl
  | ty _ => cases r; rfl
theorem pc_isN {j pos'} (ha : PE X a ta) : PC X .Is a (.Constant .none j pos') (tIsN ta) := by
  intro pins s σ H Q I h
  refine thn (ha pins s σ H _ I h) fun v s1 ⟨x, H1, I1, r1, q1⟩ => ?_
  exact Constant_none (is_none_gen ⟨.bl _, H1, I1, by rw [r1.none_iff]; rfl, q1⟩)
def tB (t : TE) : TT := fun σ H Q => t σ H fun x H1 => ∃ c, x = .bl c ∧ Q c H1
theorem pe_cmp {op : CmpOp} {t : TE} (h : PC X op a b t) (h1 : behindInMarks op b = false := by first | exact nobehind _ (by decide) (by decide) | rfl) : PE X (.Compare a [op] [b] pos) t := fun pins s σ H Q I hw => wpAny_Compare1 (h pins s σ H Q I hw) h1
theorem pt_cmp {op : CmpOp} {t : TE} (h : PC X op a b t) (h1 : behindInMarks op b = false := by first | exact nobehind _ (by decide) (by decide) | rfl) : PT X (.Compare a [op] [b] pos) (tB t) := by
  intro pins s σ H Q I hw
  refine wpAny_isTrue_Compare1 (thn (h pins s σ H _ I hw) fun v s1 h1 => thn h1 fun u s2 h2 => thn h2 fun c s3 ⟨x, H1, I1, r1, q1⟩ => ?_) h1
  obtain ⟨d, rfl, q⟩ := q1
  cases r1
  exact wpAny_truthy_bool ⟨H1, I1, q⟩
variable {tA tB' : TT} {rest : List Expr}
def tAnd (t u : TT) : TT := fun σ H Q => t σ H fun c H1 => if c = true then u σ H1 Q else Q false H1
def tOr (t u : TT) : TT := fun σ H Q => t σ H fun c H1 => if c = true then Q true H1 else u σ H1 Q
def tNot (t : TT) : TT := fun σ H Q => t σ H fun c H1 => Q (!c) H1
theorem pw_and1 (ha : PT X a tA) : PW X (.BoolOp .And [a] pos) tA := by
  intro wh pins s σ H Q I h
  refine isTrue_and (thn (ha pins s σ H Q I h) fun c s1 e => ?_)
  cases c with
  | true => exact isTrue_and_nil e
  | false => exact e
theorem pw_or1 (ha : PT X a tA) : PW X (.BoolOp .Or [a] pos) tA := by
  intro wh pins s σ H Q I h
  refine isTrue_or (thn (ha pins s σ H Q I h) fun c s1 e => ?_)
  cases c with
  | false => exact isTrue_or_nil e
  | true => exact e
theorem pw_and (ha : PT X a tA) (hb : PW X (.BoolOp .And (b :: rest) pos) tB') : PW X (.BoolOp .And (a :: b :: rest) pos) (tAnd tA tB') := by
  intro wh pins s σ H Q I h
  refine isTrue_and (thn (ha pins s σ H _ I h) fun c s1 ⟨H1, I1, q1⟩ => ?_)
  cases c with
  | true => exact hb wh pins s1 σ H1 Q I1 q1
  | false => exact ⟨H1, I1, q1⟩
theorem pw_or (ha : PT X a tA) (hb : PW X (.BoolOp .Or (b :: rest) pos) tB') : PW X (.BoolOp .Or (a :: b :: rest) pos) (tOr tA tB') := by
  intro wh pins s σ H Q I h
  refine isTrue_or (thn (ha pins s σ H _ I h) fun c s1 ⟨H1, I1, q1⟩ => ?_)
  cases c with
  | true => exact ⟨H1, I1, q1⟩
  | false => exact hb wh pins s1 σ H1 Q I1 q1
theorem pt_not (ha : PT X a tA) : PT X (.UnaryOp .Not a pos) (tNot tA) := by
  intro pins s σ H Q I h
  exact isTrue_not (ha pins s σ H (fun c H1 => Q (!c) H1) I h)
def tAndV (ta tb : TE) : TE := fun σ H Q => ta σ H fun x H1 => ∃ c, x = .bl c ∧ if c = true then tb σ H1 Q else Q (.bl false) H1
def tNotV (ta : TE) : TE := fun σ H Q => ta σ H fun x H1 => ∃ c, x = .bl c ∧ Q (.bl (!c)) H1
theorem pe_one {op} {t : TE} (h : PE X a t) : PE X (.BoolOp op [a] pos) t := fun pins s σ H Q I hw => BoolOp_one (h pins s σ H Q I hw)
theorem pe_and (ha : PE X a ta) (hb : PE X (.BoolOp .And (b :: rest) pos) tb) : PE X (.BoolOp .And (a :: b :: rest) pos) (tAndV ta tb) := by
  intro pins s σ H Q I h
  refine BoolOp_and (thn (ha pins s σ H _ I h) fun v s1 ⟨x, H1, I1, r1, q1⟩ => ?_)
  obtain ⟨c, rfl, q1⟩ := q1
  cases r1
  refine wpAny_truthy_bool ?_
  cases c with
  | true => exact hb pins s1 σ H1 Q I1 q1
  | false => exact ⟨.bl false, H1, I1, rfl, q1⟩
theorem pe_not (ha : PE X a ta) : PE X (.UnaryOp .Not a pos) (tNotV ta) := by
  intro pins s σ H Q I h
  refine UnaryOp_ (thn (ha pins s σ H _ I h) fun v s1 ⟨x, H1, I1, r1, q1⟩ => ?_)
  obtain ⟨c, rfl, q1⟩ := q1
  cases r1
  exact not_of (wpAny_truthy_bool ⟨.bl (!c), H1, I1, rfl, q1⟩)
def tIf (t : TT) (ta tb : TE) : TE := fun σ H Q => t σ H fun c H1 => if c = true then ta σ H1 Q else tb σ H1 Q
theorem pe_ifExp {c : Expr} (hc : PT X c tA) (ha : PE X a ta) (hb : PE X b tb) : PE X (.IfExp c a b pos) (tIf tA ta tb) := by
  intro pins s σ H Q I h
  refine wpAny_IfExp (thn (hc pins s σ H _ I h) fun d s1 ⟨H1, I1, q1⟩ => ?_)
  cases d with
  | true => exact ha pins s1 σ H1 Q I1 q1
  | false => exact hb pins s1 σ H1 Q I1 q1
end
end L2
namespace L2
open PySem PySem.Spec PyProof.Rows
def SqL (K : PySem.W.Frag) (H : Hp) (a : Addr) (xs : List V) : Prop :=
  Rd H a (.lst xs) ∨
    ∃ (o : Obj) (its : Array Value) (n : Nat), K.lookup a = some o ∧ o.cls = .type "list" ∧ o.dict = none ∧ o.data = .seq its n ∧ its.size ≤ sizeLine ∧ Vals xs its.toList
def SqT (K : PySem.W.Frag) (H : Hp) (a : Addr) (xs : List V) : Prop :=
  Rd H a (.tup xs) ∨
    ∃ (o : Obj) (its : Array Value) (n : Nat), K.lookup a = some o ∧ o.dict = none ∧ o.cls = .type "tuple" ∧ o.data = .seq its n ∧ its.size ≤ sizeLine ∧ Vals xs its.toList
def absV : Value → Option V
  | .none => some .non
  | .bool b => some (.bl b)
  | .int i _ => some (.int i)
  | .str x _ => some (.str x)
  | .bytes b _ => some (.byt b)
  | .float b _ => some (.flt b)
  | .ref a => some (.ref a)
  | .type n => some (.ty n)
  | _ => none
theorem RelV.abs {x : V} {u : Value} (r : RelV x u) : absV u = some x := by
  cases x with
  | non => cases r; rfl
  | bl _ => cases r; rfl
  | int _ => obtain ⟨t, rfl⟩ := r; rfl
  | str _ => obtain ⟨t, rfl⟩ := r; rfl
  | byt _ => obtain ⟨t, rfl⟩ := r; rfl
  | flt _ => obtain ⟨t, rfl⟩ := r; rfl
  | ref _ => cases r; rfl
  | ty _ => cases r; rfl
theorem RelV.inj {x y : V} {u : Value} (r : RelV x u) (q : RelV y u) : x = y := Option.some.inj (r.abs.symm.trans q.abs)
theorem Vals.inj : ∀ {xs ys : List V} {us : List Value}, Vals xs us → Vals ys us → xs = ys
  | _, _, _, .nil, .nil => rfl
  | _, _, _, .cons r t, .cons r' t' => by rw [r.inj r', Vals.inj t t']
section
variable {X : Cx} {pins : List (Addr × Obj)} {σ : St} {H : Hp} {s : Shared} {a : Addr} {xs ys : List V}
theorem SqL.of {K : PySem.W.Frag} (h : H a = some (.lst xs)) : SqL K H a xs := .inl (.inl h)
theorem SqT.of {K : PySem.W.Frag} (h : H a = some (.tup xs)) : SqT K H a xs := .inl (.inl h)
theorem Inv.list (I : Inv X pins σ H s) (h : SqL X.K H a xs) : ∃ its : List Value, Vals xs its ∧ PlainL s.heap a its.toArray ∧ xs.length ≤ sizeLine := by
  rcases h with h | ⟨o, its, n, hk, hc, hd, hs, hz, r⟩
  · obtain ⟨z, its, n, r, e⟩ := h.ok I.hok
    exact ⟨its, r, ⟨_, n, e, rfl, rfl, rfl⟩, z⟩
  · refine ⟨its.toList, r, ⟨o, n, I.kIn a o hk, hc, hd, by simpa using hs⟩, ?_⟩
    have e := r.length
    simp only [Array.length_toList] at e
    omega
theorem Inv.tupleD (I : Inv X pins σ H s) (h : SqT X.K H a xs) : ∃ its : List Value, Vals xs its ∧ IsTupD s.heap a its.toArray ∧ xs.length ≤ sizeLine := by
  rcases h with h | ⟨o, its, n, hk, hdn, hc, hs, hz, r⟩
  · obtain ⟨z, its, r, p⟩ := h.ok I.hok
    exact ⟨its, r, p, z⟩
  · refine ⟨its.toList, r, ⟨o, I.kIn a o hk, hdn, hc, n, by simpa using hs⟩, ?_⟩
    have e := r.length
    simp only [Array.length_toList] at e
    omega
theorem Inv.tuple (I : Inv X pins σ H s) (h : SqT X.K H a xs) : ∃ its : List Value, Vals xs its ∧ IsTup s.heap a its.toArray ∧ xs.length ≤ sizeLine := let ⟨its, r, p, z⟩ := I.tupleD h; ⟨its, r, p.up, z⟩
theorem Inv.list_inj (I : Inv X pins σ H s) (h : SqL X.K H a xs) (h' : SqL X.K H a ys) : xs = ys := by
  obtain ⟨its, r, ⟨o, n, e, _, _, d⟩, _⟩ := I.list h
  obtain ⟨its', r', ⟨o', n', e', _, _, d'⟩, _⟩ := I.list h'
  rw [e] at e'; cases e'
  rw [d] at d'
  injection d' with d1 _
  have : its = its' := by simpa using congrArg Array.toList d1
  subst this
  exact r.inj r'
theorem Inv.tuple_inj (I : Inv X pins σ H s) (h : SqT X.K H a xs) (h' : SqT X.K H a ys) : xs = ys := by
  obtain ⟨its, r, ⟨o, e, _, n, d⟩, _⟩ := I.tuple h
  obtain ⟨its', r', ⟨o', e', _, n', d'⟩, _⟩ := I.tuple h'
  rw [e] at e'; cases e'
  rw [d] at d'
  injection d' with d1 _
  have : its = its' := by simpa using congrArg Array.toList d1
  subst this
  exact r.inj r'
end
abbrev Cx.wish (X : Cx) (E : Value → Shared → Prop) : Cx := { X with xe := E }
abbrev Cx.nox (X : Cx) : Cx := X.wish fun _ _ => False
theorem Cx.Ok.wish {X : Cx} (ok : X.Ok) (E : Value → Shared → Prop) : (X.wish E).Ok :=
  ⟨ok.mod, ok.kind, ok.glob, ok.blt, ok.above, ok.inj, ok.has, ok.cab, ok.hd, ok.frames, ok.stk, ok.exf, ok.bs, ok.bsz, ok.noex, ok.exfs, ok.funs, ok.frf⟩
theorem Cx.Ok.unwish {X : Cx} {E : Value → Shared → Prop} (ok : (X.wish E).Ok) : X.Ok :=
  ⟨ok.mod, ok.kind, ok.glob, ok.blt, ok.above, ok.inj, ok.has, ok.cab, ok.hd, ok.frames, ok.stk, ok.exf, ok.bs, ok.bsz, ok.noex, ok.exfs, ok.funs, ok.frf⟩
section
variable {X : Cx} {pins : List (Addr × Obj)} {σ : St} {H : Hp} {s : Shared} {E : Value → Shared → Prop}
theorem Inv.wish (I : Inv X pins σ H s) (E : Value → Shared → Prop) : Inv (X.wish E) pins σ H s := ⟨I.ok.wish E, I.os, I.bare, I.base, I.loc, I.cell, I.free, I.freeC, I.pin, I.hok, I.len⟩
theorem Inv.unwish (I : Inv (X.wish E) pins σ H s) : Inv X pins σ H s := ⟨I.ok.unwish, I.os, I.bare, I.base, I.loc, I.cell, I.free, I.freeC, I.pin, I.hok, I.len⟩
theorem SP.unwish {D : Ends} {f : Flow} {s' : Shared} (h : SP (X.wish E) pins D f s') : SP X pins D f s' := by
  cases f with
  | next => obtain ⟨σ', H', I, q⟩ := h; exact ⟨σ', H', I.unwish, q⟩
  | brk => obtain ⟨σ', H', I, q⟩ := h; exact ⟨σ', H', I.unwish, q⟩
  | cont => obtain ⟨σ', H', I, q⟩ := h; exact ⟨σ', H', I.unwish, q⟩
  | ret u => obtain ⟨v, σ', H', I, r, q⟩ := h; exact ⟨v, σ', H', I.unwish, r, q⟩
theorem PE.nox {e : Expr} {t : TE} (h : PE X.nox e t) : PE X e t := fun pins s σ H Q I hw =>
  wpAny_mono (h pins s σ H Q (I.wish _) hw) (fun _ _ ⟨v, H', I', r, q⟩ => ⟨v, H', I'.unwish, r, q⟩) fun _ _ z => False.elim z
theorem PT.nox {e : Expr} {t : TT} (h : PT X.nox e t) : PT X e t := fun pins s σ H Q I hw =>
  wpAny_mono (h pins s σ H Q (I.wish _) hw) (fun _ _ ⟨H', I', q⟩ => ⟨H', I'.unwish, q⟩) fun _ _ z => False.elim z
theorem PSs.nox {st : List Stmt} {t : TS} (h : PSs X.nox st t) : PSs X st t := fun pins s σ H D I hw =>
  wpAny_mono (h pins s σ H D (I.wish _) hw) (fun _ _ q => q.unwish) fun _ _ z => False.elim z
end
section
variable {X : Cx} {st : Stmt} {rest : List Stmt} {t u : TS} {e : Expr} {te : TE} {pos : Pos}
def tNext : TS := fun D σ H => D.nx σ H
def tSeq (t u : TS) : TS := fun D σ H => t { D with nx := u D } σ H
theorem pss_nil : PSs X [] tNext := fun _ _ σ H _ I h => wpAny_execs_nil ⟨σ, H, I, h⟩
theorem pss_cons (h1 : PS X st t) (h2 : PSs X rest u) : PSs X (st :: rest) (tSeq t u) := by
  intro pins s σ H D I h
  refine wpAny_execs_cons (thn (h1 pins s σ H { D with nx := u D } I h) fun f s1 q => ?_)
  cases f with
  | next =>
    obtain ⟨σ', H', I', q⟩ := q
    exact h2 pins s1 σ' H' D I' q
  | ret v => exact q
  | brk => exact q
  | cont => exact q
theorem pss_one (h1 : PS X st t) : PSs X [st] t := by
  intro pins s σ H D I h
  refine wpAny_execs_cons (thn (h1 pins s σ H D I h) fun f s1 q => ?_)
  cases f with
  | next => exact wpAny_execs_nil q
  | ret v => exact q
  | brk => exact q
  | cont => exact q
theorem Inv.quiet {pins : List (Addr × Obj)} {σ : St} {H : Hp} {s : Shared} (I : Inv X pins σ H s) : interactive X.env = false := by simp [interactive, I.ok.kind]
def tDrop (te : TE) : TS := fun D σ H => te σ H fun _ H1 => D.nx σ H1
theorem ps_expr (he : PE X e te) (hs : swapsWith e none pos.line X.env = pure false := by rfl) : PS X (.Expr e pos) (tDrop te) := by
  intro pins s σ H D I h
  exact wpAny_Expr_any (thn (he pins s σ H _ I h) fun v s1 ⟨x, H1, I1, r1, q1⟩ => ⟨σ, H1, I1, q1⟩) I.quiet hs
def tRet (te : TE) : TS := fun D σ H => te σ H D.rt
theorem ps_ret (he : PE X e te) : PS X (.Return (some e) pos) (tRet te) := by
  intro pins s σ H D I h
  exact wpAny_Return_some (thn (he pins s σ H _ I h) fun v s1 ⟨x, H1, I1, r1, q1⟩ => ⟨x, σ, H1, I1, r1, q1⟩)
def tIfS (c : TT) (t u : TS) : TS := fun D σ H => c σ H fun b H1 => if b = true then t D σ H1 else u D σ H1
theorem ps_if {c : Expr} {a b : List Stmt} {tc : TT} (hc : PT X c tc) (ha : PSs X a t) (hb : PSs X b u) : PS X (.If c a b pos) (tIfS tc t u) := by
  intro pins s σ H D I h
  refine wpAny_If (thn (hc pins s σ H _ I h) fun d s1 ⟨H1, I1, q1⟩ => ?_)
  cases d with
  | true => exact ha pins s1 σ H1 D I1 q1
  | false => exact hb pins s1 σ H1 D I1 q1
end
abbrev TG := V → St → Hp → (St → Hp → Prop) → Prop
abbrev TGs := List V → St → Hp → (St → Hp → Prop) → Prop
def PG (X : Cx) (target : Expr) (t : TG) : Prop :=
  ∀ (pins : List (Addr × Obj)) (s : Shared) (σ : St) (H : Hp) (v : V) (u : Value) (Q : St → Hp → Prop), Inv X pins σ H s → RelV v u → t v σ H Q →
    wpAny (model X.prog X.w) X.A (assign target X.env u) (fun _ s' => ∃ σ' H', Inv X pins σ' H' s' ∧ Q σ' H') X.xe s
def PGs (X : Cx) (ts : List Expr) (t : TGs) : Prop :=
  ∀ (pins : List (Addr × Obj)) (s : Shared) (σ : St) (H : Hp) (vs : List V) (us : List Value) (Q : St → Hp → Prop), Inv X pins σ H s → Vals vs us → t vs σ H Q →
    wpAny (model X.prog X.w) X.A (assignInOrder ((assignEach ts X.env).map (·.2)) us) (fun _ s' => ∃ σ' H', Inv X pins σ' H' s' ∧ Q σ' H') X.xe s
abbrev TSet := V → V → V → Hp → (Hp → Prop) → Prop
def PSet (X : Cx) (t : TSet) : Prop :=
  ∀ (pins : List (Addr × Obj)) (s : Shared) (σ : St) (H : Hp) (o i v : V) (ov iv u : Value) (Q : Hp → Prop), Inv X pins σ H s → RelV o ov → RelV i iv → RelV v u → t o i v H Q →
    wpAny (model X.prog X.w) X.A (setItem ov iv u) (fun _ s' => ∃ H', Inv X pins σ H' s' ∧ Q H') X.xe s
abbrev TIp := V → V → Hp → VK → Prop
def PIp (X : Cx) (op : Operator) (t : TIp) : Prop :=
  ∀ (pins : List (Addr × Obj)) (s : Shared) (σ : St) (H : Hp) (x y : V) (v u : Value) (Q : VK), Inv X pins σ H s → RelV x v → RelV y u → t x y H Q →
    wpAny (model X.prog X.w) X.A (inplaceOp op v u) (EP X pins σ Q) X.xe s
section
variable {X : Cx} {pos : Pos}
def gName (i : Nat) : TG := fun v σ H Q => Q (σ.set i (some v)) H
theorem pg_name {i : Nat} {x : Str} (hN : X.N.Nodup) (hi : X.N[i]? = some x) (hx : Loc X.env.scope x) (hf : X.fn x = true ∨ X.env.scope.names.lookup x = some .local := by first | exact .inl rfl | exact .inr rfl | assumption) : PG X (.Name x pos) (gName i) := by
  intro pins s σ H v u Q I r h
  exact wpAny_assign_Name (store_ok I hN hi hx r (fun s' I' => ⟨_, H, I', h⟩) hf)
def gNil : TGs := fun vs σ H Q => vs = [] ∧ Q σ H
def gCons (t : TG) (u : TGs) : TGs := fun vs σ H Q => ∃ v r, vs = v :: r ∧ t v σ H fun σ' H' => u r σ' H' Q
theorem pgs_nil : PGs X [] gNil := by
  intro pins s σ H vs us Q I r h
  obtain ⟨e, h⟩ := h
  subst e
  cases r
  exact assignInOrder_nil ⟨σ, H, I, h⟩
theorem pgs_cons {e : Expr} {es : List Expr} {t : TG} {u : TGs} (h1 : PG X e t) (h2 : PGs X es u)
    (hs : (assignEach (e :: es) X.env).map (·.2) = assign e X.env :: (assignEach es X.env).map (·.2) := by rfl) : PGs X (e :: es) (gCons t u) := by
  intro pins s σ H vs us Q I r h
  obtain ⟨v, vr, e1, h⟩ := h
  subst e1
  cases r with
  | cons r rr =>
    rw [hs]
    refine assignInOrder_cons (thn (h1 pins s σ H _ _ _ I r h) fun _ s1 ⟨σ1, H1, I1, q1⟩ => ?_)
    exact h2 pins s1 σ1 H1 _ _ Q I1 rr q1
def gTup (K : PySem.W.Frag) (n : Nat) (t : TGs) : TG := fun v σ H Q => ∃ a xs, v = .ref a ∧ SqT K H a xs ∧ xs.length = n ∧ t xs σ H Q
theorem pg_tup {es : List Expr} {k : Nat} {t : TGs} {n : Nat} (hc : X.calm = true) (h : PGs X es t)
    (hn : (assignEach es X.env).length = n := by rfl) (hst : (assignEach es X.env).findIdx? (·.1) = none := by rfl) : PG X (.Tuple es k pos) (gTup X.K n t) := by
  intro pins s σ H v u Q I r hw
  obtain ⟨a, xs, e1, hq, hl, hw⟩ := hw
  subst e1
  cases r
  obtain ⟨its, rv, ht, hz⟩ := I.tuple hq
  refine assign_Tuple_tuple (I.ok.hd hc) ht (by simp [hn, ← hl, rv.length]) hst fun h' hx => ?_
  have I1 : Inv X pins σ H { s with heap := h' } := I.kept (t' := s.toks) fun b o e => hx b o (Nat.ne_of_lt (Heap.lt_size e)) e
  exact h pins _ σ H xs _ Q I1 (by simpa using rv) hw
def tAsg (te : TE) (g : TG) : TS := fun D σ H => te σ H fun x H1 => g x σ H1 D.nx
theorem ps_asg {tg e : Expr} {te : TE} {g : TG} (he : PE X e te) (hg : PG X tg g) (hs : swapsWithSole [tg] e pos.line X.env = pure false := by rfl) (hw : swappedStores [tg] e X.env = pure none := by rfl)
    (h1 : (assignEach [tg] X.env).map (·.2) = [assign tg X.env] := by rfl) : PS X (.Assign [tg] e pos) (tAsg te g) := by
  intro pins s σ H D I h
  refine wpAny_Assign_stores (thn (he pins s σ H _ I h) fun v s1 ⟨x, H1, I1, r1, q1⟩ => ?_) hs hw
  rw [h1]
  exact thn (hg pins s1 σ H1 x v _ I1 r1 q1) fun _ s2 q => q
theorem ps_set {i : Nat} {x : Str} {e : Expr} {te : TE} {pos' : Pos} (hN : X.N.Nodup) (hi : X.N[i]? = some x) (hx : Loc X.env.scope x) (he : PE X e te) (hs : swapsWith e (some (.Name x pos')) pos.line X.env = pure false := by rfl) (hf : X.fn x = true ∨ X.env.scope.names.lookup x = some .local := by first | exact .inl rfl | exact .inr rfl | assumption) :
    PS X (.Assign [.Name x pos'] e pos) (tAsg te (gName i)) := by
  intro pins s σ H D I h
  refine wpAny_Assign_Name (thn (he pins s σ H _ I h) fun v s1 ⟨y, H1, I1, r1, q1⟩ => ?_) hs
  exact store_ok I1 hN hi hx r1 (fun s2 I2 => ⟨_, H1, I2, q1⟩) hf
def tAugS (to ti te : TE) (tget : V → V → Hp → VK → Prop) (tip : TIp) (tset : TSet) : TS := fun D σ H => to σ H fun o H1 => ti σ H1 fun i H2 => tget o i H2 fun x H3 => te σ H3 fun y H4 => tip x y H4 fun z H5 => tset o i z H5 fun H6 => D.nx σ H6
def PGet (X : Cx) (t : V → V → Hp → VK → Prop) : Prop :=
  ∀ (pins : List (Addr × Obj)) (s : Shared) (σ : St) (H : Hp) (o i : V) (ov iv : Value) (Q : VK), Inv X pins σ H s → RelV o ov → RelV i iv → t o i H Q →
    wpAny (model X.prog X.w) X.A (getItem ov iv) (EP X pins σ Q) X.xe s
theorem ps_augS {o i e : Expr} {to ti te : TE} {tget : V → V → Hp → VK → Prop} {tip : TIp} {tset : TSet} {op : Operator} {tpos : Pos} (ho : PE X o to) (hi : PE X i ti) (hg : PGet X tget) (he : PE X e te) (hp : PIp X op tip) (hs : PSet X tset)
    (ha : ∀ ov iv new, augStore i ov iv new = (do holding [new, ov, iv] (setItem ov iv new); release [new, ov, iv] []; pure .next) := by intros; rfl) : PS X (.AugAssign (.Subscript o i tpos) op e pos) (tAugS to ti te tget tip tset) := by
  intro pins s σ H D I h
  refine wpAny_AugAssign_SubscriptAny (thn (ho pins s σ H _ I h) fun ov s1 ⟨x1, H1, I1, r1, q1⟩ => ?_) ha
  refine thn (hi pins s1 σ H1 _ I1 q1) fun iv s2 ⟨x2, H2, I2, r2, q2⟩ => ?_
  refine thn (hg pins s2 σ H2 x1 x2 ov iv _ I2 r1 r2 q2) fun old s3 ⟨x3, H3, I3, r3, q3⟩ => ?_
  refine thn (he pins s3 σ H3 _ I3 q3) fun v s4 ⟨x4, H4, I4, r4, q4⟩ => ?_
  refine thn (hp pins s4 σ H4 x3 x4 old v _ I4 r3 r4 q4) fun new s5 ⟨x5, H5, I5, r5, q5⟩ => ?_
  exact thn (hs pins s5 σ H5 x1 x2 x5 ov iv new _ I5 r1 r2 r5 q5) fun _ s6 ⟨H6, I6, q6⟩ => ⟨σ, H6, I6, q6⟩
def ipI (f : Int → Int → Int) : TIp := fun x y H Q => ∃ i j, x = .int i ∧ y = .int j ∧ Q (.int (f i j)) H
theorem ip_add : PIp X .Add (ipI fun i j => i + j) := by
  intro pins s σ H x y v u Q I r1 r2 h
  obtain ⟨i, j, e1, e2, q⟩ := h
  subst e1; subst e2
  obtain ⟨t, rfl⟩ := r1
  obtain ⟨t', rfl⟩ := r2
  exact iadd_int ⟨.int _, H, I.tok _, ⟨_, rfl⟩, q⟩
end
section
variable {X : Cx} {pos : Pos}
def tWhile (c : TT) (tb : TS) : TS := fun D σ H => ∃ W : Nat → St → Hp → Prop, (∃ m, W m σ H) ∧ ∀ m σ H, W m σ H →
  c σ H fun b H1 => if b = true then ∃ N : St → Hp → Prop, (∀ σ' H', N σ' H' → ∃ m', m' < m ∧ W m' σ' H') ∧ tb { D with nx := N, ct := N, bk := D.nx } σ H1 else D.nx σ H1
theorem ps_while {c : Expr} {body : List Stmt} {tc : TT} {tb : TS} (hp : PassesOwn (model X.prog X.w) X.A X.env X.xe) (hc : PT X c tc) (hb : PSs X body tb) : PS X (.While c body [] pos) (tWhile tc tb) := by
  intro pins s σ H D I h
  obtain ⟨W, ⟨m0, w0⟩, turn⟩ := h
  refine wpAny_While (codeAny_whileLoop (fun n s' => ∃ σ' H', Inv X pins σ' H' s' ∧ W n σ' H') ?_ m0 ⟨σ, H, I, w0⟩)
  rintro n s1 ⟨σ1, H1, I1, w1⟩
  refine wpAny_passesOwn hp (thn (hc pins s1 σ1 H1 _ I1 (turn n σ1 H1 w1)) fun b s2 ⟨H2, I2, q2⟩ => ?_)
  cases b with
  | true =>
    obtain ⟨N, hN, q2⟩ := q2
    rw [if_pos rfl]
    refine wpAny_passesOwn hp (thn (hb pins s2 σ1 H2 _ I2 q2) fun f s3 q3 => ?_)
    cases f with
    | next =>
      obtain ⟨σ3, H3, I3, n3⟩ := q3
      obtain ⟨m', hm, w3⟩ := hN σ3 H3 n3
      exact ⟨m', hm, σ3, H3, I3, w3⟩
    | cont =>
      obtain ⟨σ3, H3, I3, n3⟩ := q3
      obtain ⟨m', hm, w3⟩ := hN σ3 H3 n3
      exact ⟨m', hm, σ3, H3, I3, w3⟩
    | brk => exact q3
    | ret v => exact q3
  | false =>
    rw [if_neg Bool.false_ne_true]
    exact wpAny_execs_nil ⟨σ1, H2, I2, q2⟩
end
structure It where
  go : Nat → Hp → Prop
  yld : Nat → Hp → V → Hp → Prop
  stop : Nat → Hp → Prop
def FpOk (X : Cx) (pins : List (Addr × Obj)) (H : Hp) (b : Addr) : Prop :=
  H b = none ∧ b ≠ X.env.locals ∧ b ∉ X.fs ∧ (b ∈ X.ex ∨ X.s₀.heap.objs.size ≤ b) ∧ (∀ x c, X.env.cells.lookup x = some c → c ≠ b) ∧ ∀ p ∈ X.pn ++ pins, p.1 ≠ b
theorem Inv.fpOk {X : Cx} {pins : List (Addr × Obj)} {σ : St} {H H' : Hp} {s : Shared} {b : Addr} (I : Inv X pins σ H s) (hb : s.heap.objs.size ≤ b) (hn : H' b = none) : FpOk X pins H' b := by
  refine ⟨hn, Nat.ne_of_gt (Nat.lt_of_lt_of_le I.lt hb), I.nofs hb, .inr (Nat.le_trans I.sz hb), fun x c e z => ?_, fun p hp z => ?_⟩
  · obtain ⟨v, q⟩ := I.cell x c e
    exact absurd (Nat.lt_of_lt_of_le q.lt (by rw [z]; exact hb)) (Nat.lt_irrefl _)
  · exact absurd (Nat.lt_of_lt_of_le (Heap.lt_size (I.pin p hp).1) (by rw [z]; exact hb)) (Nat.lt_irrefl _)
structure Turn (P : Program) (w : World) (K : PySem.W.Frag) (tg : Expr) (J : It) (fp : List Addr) (it : Addr) (tn : Nat → Heap → Prop) : Prop where
  mem : it ∈ fp
  obj : ∀ i h, tn i h → ∀ b ∈ fp, ∃ o, h.get? b = some o ∧ ∀ v, o.data ≠ .cell v
  keep : ∀ i h h', tn i h → (∀ b ∈ fp, ∀ o, h.get? b = some o → h'.get? b = some o) → tn i h'
  item : ∀ (X : Cx), X.prog = P → X.w = w → X.K = K → X.calm = true → ∀ (i : Nat) (pins : List (Addr × Obj)) (s : Shared) (σ : St) (H : Hp) (E : Value → Shared → Prop), Inv X pins σ H s → (∀ b ∈ fp, FpOk X pins H b) → tn i s.heap → J.go i H →
    wpAny (model P w) X.A (pyNext (.ref it)) (fun r s1 => ∃ u, r = some u ∧
      wpAny (model P w) X.A (letOwnedTupleGo tg (.ref it) u) (fun _ s2 => ∃ x H', Inv X pins σ H' s2 ∧ RelV x u ∧ J.yld i H x H' ∧ tn (i + 1) s2.heap ∧ ∀ b ∈ fp, H' b = none) E s1) E s
  done : ∀ (X : Cx), X.prog = P → X.w = w → X.K = K → X.calm = true → ∀ (i : Nat) (pins : List (Addr × Obj)) (s : Shared) (σ : St) (H : Hp) (E : Value → Shared → Prop), Inv X pins σ H s → (∀ b ∈ fp, FpOk X pins H b) → tn i s.heap → J.stop i H →
    wpAny (model P w) X.A (pyNext (.ref it)) (fun r s1 => r = none ∧ Inv X pins σ H s1) E s
  self : ∀ (A : Around) (i : Nat) (s : Shared) (Q : Value → Shared → Prop) (E : Value → Shared → Prop), tn i s.heap → Q (.ref it) s → wpAny (model P w) A (pyIter (.ref it)) Q E s
abbrev TI := St → Hp → (It → Hp → Prop) → Prop
def PIE (X : Cx) (pins : List (Addr × Obj)) (σ : St) (tg : Expr) (R : It → Hp → Prop) (itv : Value) (s2 : Shared) : Prop :=
  ∃ (it : Addr) (fp : List Addr) (tn : Nat → Heap → Prop) (J : It) (H' : Hp), itv = .ref it ∧ Inv X pins σ H' s2 ∧ Turn X.prog X.w X.K tg J fp it tn ∧ tn 0 s2.heap ∧ (∀ b ∈ fp, FpOk X pins H' b) ∧ R J H'
def PI (X : Cx) (tg iter : Expr) (wi : TI) : Prop :=
  ∀ (pins : List (Addr × Obj)) (s : Shared) (σ : St) (H : Hp) (R : It → Hp → Prop), Inv X pins σ H s → wi σ H R →
    wpAny (model X.prog X.w) X.A (eval iter X.env) (fun v s1 => wpAny (model X.prog X.w) X.A (pyIter v) (PIE X pins σ tg R) X.xe s1) X.xe s
theorem go_of {M : Model} {A : Around} {E : Value → Shared → Prop} {s : Shared} {tg : Expr} {it : Addr} {u : Value} {o : Obj} {n : String} {vs : Array Value} {Q : Unit → Shared → Prop} (ho : s.heap.get? it = some o) (hc : o.cls = .type n) (hd : o.data = .fields vs)
    (hn : ["enumerate", "zip", "dict_itemiterator", "dict_reverseitemiterator", "odict_iterator", "itertools.zip_longest", "itertools.pairwise"].contains n = false) (hQ : Q () s) : wpAny M A (letOwnedTupleGo tg (.ref it) u) Q E s := by
  unfold letOwnedTupleGo
  cases tg <;> first
    | exact wpAny_pure hQ
    | (cases u <;> first
        | exact wpAny_pure hQ
        | (refine wpAny_bind (wpAny_load ho ?_)
           rw [hc, hd]
           show wpAny M A (if (["enumerate", "zip", "dict_itemiterator", "dict_reverseitemiterator", "odict_iterator", "itertools.zip_longest", "itertools.pairwise"].contains n && vs[0]? == some (rawInt _)) = true then _ else _) Q E s
           rw [if_neg (by intro h; rw [hn, Bool.false_and] at h; cases h)]
           exact wpAny_pure hQ))
def Itl (K : PySem.W.Frag) (a : Addr) : It :=
  ⟨fun i H => ∃ xs x, SqL K H a xs ∧ xs[i]? = some x, fun i H x H' => H' = H ∧ ∀ xs, SqL K H a xs → xs[i]? = some x, fun i H => ∃ xs, SqL K H a xs ∧ xs.length ≤ i⟩
def Itt (K : PySem.W.Frag) (a : Addr) : It :=
  ⟨fun i H => ∃ xs x, SqT K H a xs ∧ xs[i]? = some x, fun i H x H' => H' = H ∧ ∀ xs, SqT K H a xs → xs[i]? = some x, fun i H => ∃ xs, SqT K H a xs ∧ xs.length ≤ i⟩
def Itr (lo : Int) (n : Nat) : It := ⟨fun i _ => i < n, fun i H x H' => H' = H ∧ x = .int (lo + i), fun i _ => n ≤ i⟩
theorem turn_list {P : Program} {w : World} {K : PySem.W.Frag} {tg : Expr} (a it : Addr) : Turn P w K tg (Itl K a) [it] it (fun i h => h.IsListIter it a i) where
  mem := by simp
  obj := fun i h st b hb => by
    have e : b = it := by simpa using hb
    subst e
    obtain ⟨o, e, c, d⟩ := st
    exact ⟨o, e, fun v z => by rw [d] at z; cases z⟩
  keep := fun i h h' st k => st.at fun o e => k it (by simp) o e
  item := by
    intro X hP hw hK hc i pins s σ H E I hf st hg
    subst hP hw hK
    obtain ⟨xs, x, hq, hx⟩ := hg
    obtain ⟨its, rv, p, hz⟩ := I.list hq
    obtain ⟨u, hu, ru⟩ := rv.get hx
    obtain ⟨f0, f1, f2, f3, f4, f5⟩ := hf it (by simp)
    refine wpAny_pyNext_list_item st p.isList (x := u) (by simpa using hu) fun h' st' sb => ?_
    have I1 : Inv X pins σ H { s with heap := h' } := I.turned (t' := s.toks) (fun b o hb e => (sb.2 b hb).trans e) f0 f1 f3 f4 f5
    obtain ⟨o, e, c, d⟩ := id st'
    exact ⟨u, rfl, go_of (s := { s with heap := h' }) e c d (by decide) ⟨x, H, I1, ru, ⟨rfl, fun ys hy => by rw [I.list_inj hy hq]; exact hx⟩, st', fun b hb => (hf b hb).1⟩⟩
  done := by
    intro X hP hw hK hc i pins s σ H E I hf st hg
    subst hP hw hK
    obtain ⟨xs, hq, hx⟩ := hg
    obtain ⟨its, rv, p, hz⟩ := I.list hq
    obtain ⟨f0, f1, f2, f3, f4, f5⟩ := hf it (by simp)
    have hl := rv.length
    exact wpAny_pyNext_list_end (I.ok.hd hc) st p.isList (by simp; omega) fun h' eb => ⟨rfl, I.turned (t' := s.toks) (fun b o hb e => eb b o hb e) f0 f1 f3 f4 f5⟩
  self := fun _ _ _ _ _ st h => wpAny_pyIter_listiter st h
theorem turn_tuple {P : Program} {w : World} {K : PySem.W.Frag} {tg : Expr} (a it : Addr) : Turn P w K tg (Itt K a) [it] it (fun i h => h.IsTupleIter it a i) where
  mem := by simp
  obj := fun i h st b hb => by
    have e : b = it := by simpa using hb
    subst e
    obtain ⟨o, e, c, d⟩ := st
    exact ⟨o, e, fun v z => by rw [d] at z; cases z⟩
  keep := fun i h h' st k => st.at fun o e => k it (by simp) o e
  item := by
    intro X hP hw hK hc i pins s σ H E I hf st hg
    subst hP hw hK
    obtain ⟨xs, x, hq, hx⟩ := hg
    obtain ⟨its, rv, p, hz⟩ := I.tuple hq
    obtain ⟨u, hu, ru⟩ := rv.get hx
    obtain ⟨f0, f1, f2, f3, f4, f5⟩ := hf it (by simp)
    refine wpAny_pyNext_tuple_item st (show s.heap.IsTuple a its.toArray from p) (x := u) (by simpa using hu) fun h' st' sb => ?_
    have I1 : Inv X pins σ H { s with heap := h' } := I.turned (t' := s.toks) (fun b o hb e => (sb.2 b hb).trans e) f0 f1 f3 f4 f5
    obtain ⟨o, e, c, d⟩ := id st'
    exact ⟨u, rfl, go_of (s := { s with heap := h' }) e c d (by decide) ⟨x, H, I1, ru, ⟨rfl, fun ys hy => by rw [I.tuple_inj hy hq]; exact hx⟩, st', fun b hb => (hf b hb).1⟩⟩
  done := by
    intro X hP hw hK hc i pins s σ H E I hf st hg
    subst hP hw hK
    obtain ⟨xs, hq, hx⟩ := hg
    obtain ⟨its, rv, p, hz⟩ := I.tuple hq
    obtain ⟨f0, f1, f2, f3, f4, f5⟩ := hf it (by simp)
    have hl := rv.length
    exact wpAny_pyNext_tuple_end (I.ok.hd hc) st (show s.heap.IsTuple a its.toArray from p) (by simp; omega) fun h' eb => ⟨rfl, I.turned (t' := s.toks) (fun b o hb e => eb b o hb e) f0 f1 f3 f4 f5⟩
  self := fun _ _ _ _ _ st h => wpAny_pyIter_tupleiter st h
theorem turn_range {P : Program} {w : World} {K : PySem.W.Frag} {tg : Expr} (it : Addr) (lo : Int) (n : Nat) : Turn P w K tg (Itr lo n) [it] it (fun i h => IsRangeIter h it (lo + (i : Nat) * 1) ((n : Int) - (i : Nat)) 1) where
  mem := by simp
  obj := fun i h st b hb => by
    have e : b = it := by simpa using hb
    subst e
    exact ⟨_, st, fun v z => by
      have z' : Data.fields _ = Data.cell v := z
      cases z'⟩
  keep := fun i h h' st k => k it (by simp) _ st
  item := by
    intro X hP hw hK hc i pins s σ H E I hf st hg
    subst hP hw hK
    obtain ⟨f0, f1, f2, f3, f4, f5⟩ := hf it (by simp)
    have W := Walks.range (prog := X.prog) (w := X.w) (I.ok.hd hc) it lo 1 n
    refine W.item i s _ _ hg st fun v h' tk hv st' kk => ?_
    obtain ⟨t, rfl⟩ := hv
    have I1 : Inv X pins σ H { s with heap := h', toks := tk } := I.turned (fun b o hb e => kk b o (by simpa using hb) e) f0 f1 f3 f4 f5
    refine ⟨_, rfl, go_of (s := { s with heap := h', toks := tk }) (n := "range_iterator") st' rfl rfl (by decide) ⟨.int (lo + i), H, I1, ⟨t, ?_⟩, ⟨rfl, rfl⟩, st', fun b hb => (hf b hb).1⟩⟩
    rw [Int.mul_one]
  done := by
    intro X hP hw hK hc i pins s σ H E I hf st hg
    subst hP hw hK
    obtain ⟨f0, f1, f2, f3, f4, f5⟩ := hf it (by simp)
    exact wpAny_pyNext_range_end (I.ok.hd hc) st (by have : n ≤ i := hg; omega) fun h' eb => ⟨rfl, I.turned (t' := s.toks) (fun b o hb e => eb b o hb e) f0 f1 f3 f4 f5⟩
  self := fun _ _ _ _ _ st h => wpAny_pyIter_rangeiter st h
end L2
namespace L2
open PySem PySem.Spec PyProof.Rows
section
variable {X : Cx} {tg : Expr}
def iList (K : PySem.W.Frag) (tl : TE) : TI := fun σ H R => tl σ H fun x H1 => ∃ a, x = .ref a ∧ (∃ xs, SqL K H1 a xs) ∧ R (Itl K a) H1
theorem pi_list {l : Expr} {tl : TE} (hl : PE X l tl) : PI X tg l (iList X.K tl) := by
  intro pins s σ H R I h
  refine thn (hl pins s σ H _ I h) fun v s1 ⟨x, H1, I1, r1, q1⟩ => ?_
  obtain ⟨a, e, ⟨xs, hq⟩, q⟩ := q1
  subst e
  cases r1
  obtain ⟨its, rv, p, hz⟩ := I1.list hq
  refine wpAny_pyIter_list p.isList ?_
  refine ⟨s1.heap.objs.size, [s1.heap.objs.size], _, _, H1, rfl, I1.kept (t' := s1.toks) fun b o e => Heap.get?_push_of_some _ e, turn_list a _, ⟨_, Heap.get?_push_size _ rfl, rfl, rfl⟩, fun b hb => ?_, q⟩
  have e : b = s1.heap.objs.size := by simpa using hb
  subst e
  exact I1.fpOk (Nat.le_refl _) (I1.hok.fresh (Nat.le_refl _))
theorem range_it {pins : List (Addr × Obj)} {σ : St} {H : Hp} {s : Shared} {R : It → Hp → Prop} {E : Value → Shared → Prop} {lo hi : Int} {t u v : Tok} {tk : Nat} (I : Inv X pins σ H s) (h1 : -(2 ^ 62) ≤ lo) (h2 : lo < 2 ^ 62) (h3 : -(2 ^ 62) ≤ hi) (h4 : hi < 2 ^ 62)
    (q : R (Itr lo (hi - lo).toNat) H) : wpAny (model X.prog X.w) X.A (pyIter (.ref s.heap.objs.size)) (PIE X pins σ tg R) E { s with heap := s.heap.push { cls := .type "range", data := .fields #[.int lo t, .int hi u, .int 1 v] }, toks := tk } := by
  refine wpAny_pyIter_range (IsRange.new ..) (small_one h1 h2 h3 h4) ?_
  have I1 : Inv X pins σ H { s with heap := s.heap.push { cls := .type "range", data := .fields #[.int lo t, .int hi u, .int 1 v] }, toks := tk } := I.kept fun b o e => Heap.get?_push_of_some _ e
  refine ⟨(s.heap.push { cls := .type "range", data := .fields #[.int lo t, .int hi u, .int 1 v] }).objs.size, [(s.heap.push { cls := .type "range", data := .fields #[.int lo t, .int hi u, .int 1 v] }).objs.size], _, _, H, rfl,
    I1.kept (t' := tk) fun b o e => Heap.get?_push_of_some _ e, turn_range _ lo (hi - lo).toNat, ?_, fun b hb => ?_, q⟩
  · have e1 : lo + ((0 : Nat) : Int) * 1 = lo := by simp
    have e2 : (((hi - lo).toNat : Nat) : Int) - ((0 : Nat) : Int) = Builtin.Range.rangeSize lo hi 1 := by rw [rangeSize_one]; split <;> omega
    show IsRangeIter _ _ (lo + ((0 : Nat) : Int) * 1) ((((hi - lo).toNat : Nat) : Int) - ((0 : Nat) : Int)) 1
    rw [e1, e2]
    exact Heap.get?_push_size _ rfl
  · have e : b = (s.heap.push { cls := .type "range", data := .fields #[.int lo t, .int hi u, .int 1 v] }).objs.size := by simpa using hb
    subst e
    exact I1.fpOk (Nat.le_refl _) (I1.hok.fresh (Nat.le_refl _))
def iRng1 (ta : TA) : TI := fun σ H R => ta σ H fun vs H1 => ∃ j : Int, vs = [.int j] ∧ -(2 ^ 62) ≤ j ∧ j < 2 ^ 62 ∧ R (Itr 0 j.toNat) H1
theorem pi_range1 {a : Expr} {ta : TA} {p pos : Pos} (hg : Gl X "range") (hm : X.mg "range" = none) (ha : PA X [a] ta) (hs : starEach [a] X.env = [(false, eval a X.env)] := by rfl) : PI X tg (.Call (.Name "range" p) [a] [] pos) (iRng1 ta) := by
  intro pins s σ H R I h
  refine Call_ (ld_blt I hg hm boot_range (PyProof.Rows.callWith_type1 (thn (ha pos pins s σ H _ I h) fun us s1 ⟨vs, H1, I1, r1, q1⟩ => ?_) hs rfl))
  obtain ⟨j, e, q1, q2, q⟩ := q1
  subst e
  cases r1 with
  | cons r rr =>
    cases rr
    obtain ⟨t, rfl⟩ := r
    exact call_range_1 (range_it I1 (by omega) (by omega) q1 q2 (by simpa using q))
def tFor (wi : TI) (g : TG) (tb : TS) : TS := fun D σ H => wi σ H fun J H1 => ∃ W : Nat → Nat → St → Hp → Prop, (∃ m, W 0 m σ H1) ∧ ∀ i m σ H, W i m σ H →
  (J.stop i H ∧ D.nx σ H) ∨ (J.go i H ∧ ∃ N : St → Hp → Prop, (∀ σ' H', N σ' H' → ∃ m', m' < m ∧ W (i + 1) m' σ' H') ∧ ∀ x H', J.yld i H x H' → g x σ H' fun σ2 H2 => tb { D with nx := N, ct := N, bk := D.nx } σ2 H2)
def pinsAt (fp : List Addr) (h : Heap) : List (Addr × Obj) := fp.filterMap fun b => (h.get? b).map fun o => (b, o)
theorem mem_pinsAt {fp : List Addr} {h : Heap} {b : Addr} {o : Obj} (hb : b ∈ fp) (e : h.get? b = some o) : (b, o) ∈ pinsAt fp h := List.mem_filterMap.mpr ⟨b, hb, by rw [e]; rfl⟩
theorem of_pinsAt {fp : List Addr} {h : Heap} {p : Addr × Obj} (hp : p ∈ pinsAt fp h) : p.1 ∈ fp ∧ h.get? p.1 = some p.2 := by
  obtain ⟨b, hb, e⟩ := List.mem_filterMap.mp hp
  cases q : h.get? b with
  | none => rw [q] at e; cases e
  | some o =>
    rw [q] at e
    have e' : (b, o) = p := Option.some.inj e
    subst e'
    exact ⟨hb, q⟩
theorem Inv.pinned {pins : List (Addr × Obj)} {σ : St} {H : Hp} {s : Shared} {fp : List Addr} (I : Inv X pins σ H s) (hf : ∀ b ∈ fp, FpOk X pins H b) (ho : ∀ b ∈ fp, ∃ o, s.heap.get? b = some o ∧ ∀ v, o.data ≠ .cell v) : Inv X (pins ++ pinsAt fp s.heap) σ H s :=
  I.pins_of fun p hp => (List.mem_append.mp hp).elim (fun z => I.pin p (List.mem_append_right _ z)) fun z => by
    obtain ⟨hb, e⟩ := of_pinsAt z
    obtain ⟨f0, f1, f2, _⟩ := hf p.1 hb
    obtain ⟨o, e', d⟩ := ho p.1 hb
    rw [e] at e'; cases e'
    exact ⟨e, f0, f1, f2, d⟩
theorem Inv.unpinned {pins pl : List (Addr × Obj)} {σ : St} {H : Hp} {s : Shared} (I : Inv X (pins ++ pl) σ H s) : Inv X pins σ H s := I.pins_of fun p hp => I.pin p (List.mem_append_right _ (List.mem_append_left _ hp))
theorem ps_for {iter : Expr} {body : List Stmt} {wi : TI} {g : TG} {tb : TS} {pos : Pos} (hp : PassesOwn (model X.prog X.w) X.A X.env X.xe) (hc : X.calm = true) (hi : PI X tg iter wi) (hg : PG X tg g) (hb : PSs X body tb)
    (hs : ∀ x, foldedSetIterable iter X.env x = pure x := by intro _; rfl) : PS X (.For tg iter body [] pos) (tFor wi g tb) := by
  intro pins s σ H D I h
  refine wpAny_For (thn (hi pins s σ H _ I h) fun v s1 h1 => thn h1 fun itv s2 h2 => ?_) hs
  obtain ⟨it, fp, tn, J, H2, e, I2, T, st2, f2, W, ⟨m0, w0⟩, turn⟩ := h2
  subst e
  have stat : ∀ {H' : Hp}, (∀ b ∈ fp, H' b = none) → ∀ b ∈ fp, FpOk X pins H' b := fun hn b hb => ⟨hn b hb, (f2 b hb).2⟩
  refine codeAny_forLoop_any (fun n s' => ∃ i σ' H', Inv X pins σ' H' s' ∧ tn i s'.heap ∧ (∀ b ∈ fp, H' b = none) ∧ W i n σ' H') ?_ m0 ⟨0, σ, H2, I2, st2, fun b hb => (f2 b hb).1, w0⟩
  rintro n s3 ⟨i, σ3, H3, I3, st3, fr3, w3⟩
  rcases turn i n σ3 H3 w3 with ⟨stop, qn⟩ | ⟨go, N, hN, step⟩
  · refine wpAny_passesOwn hp (thn (T.done X rfl rfl rfl hc i pins s3 σ3 H3 X.xe I3 (stat fr3) st3 stop) fun r s4 ⟨hr, I4⟩ => ?_)
    subst hr
    exact wpAny_execs_nil ⟨σ3, H3, I4, qn⟩
  · refine wpAny_passesOwn hp (thn (T.item X rfl rfl rfl hc i pins s3 σ3 H3 X.xe I3 (stat fr3) st3 go) fun r s4 ⟨u, hr, h4⟩ => ?_)
    subst hr
    refine wpAny_passesOwn hp (thn h4 fun _ s5 ⟨x, H5, I5, r5, y5, st5, fr5⟩ => ?_)
    have I5' := I5.pinned (stat fr5) (T.obj _ _ st5)
    refine wpAny_passesOwn hp (thn (hg _ s5 σ3 H5 x u _ I5' r5 (step x H5 y5)) fun _ s6 ⟨σ6, H6, I6, q6⟩ => ?_)
    refine wpAny_passesOwn hp (thn (hb _ s6 σ6 H6 _ I6 q6) fun f s7 q7 => ?_)
    have again : ∀ {σ7 : St} {H7 : Hp}, Inv X (pins ++ pinsAt fp s5.heap) σ7 H7 s7 → N σ7 H7 → ∃ m, m < n ∧ ∃ i σ' H', Inv X pins σ' H' s7 ∧ tn i s7.heap ∧ (∀ b ∈ fp, H' b = none) ∧ W i m σ' H' := fun {σ7 H7} I7 n7 => by
      obtain ⟨m', hm, w7⟩ := hN σ7 H7 n7
      refine ⟨m', hm, i + 1, σ7, H7, I7.unpinned, T.keep _ _ _ st5 fun b hb o e => (I7.pin (b, o) (List.mem_append_right _ (List.mem_append_right _ (mem_pinsAt hb e)))).1, fun b hb => ?_, w7⟩
      obtain ⟨o, e, d⟩ := T.obj _ _ st5 b hb
      exact (I7.pin (b, o) (List.mem_append_right _ (List.mem_append_right _ (mem_pinsAt hb e)))).2.1
    cases f with
    | next => obtain ⟨σ7, H7, I7, n7⟩ := q7; exact again I7 n7
    | cont => obtain ⟨σ7, H7, I7, n7⟩ := q7; exact again I7 n7
    | brk => obtain ⟨σ7, H7, I7, q7⟩ := q7; exact ⟨σ7, H7, I7.unpinned, q7⟩
    | ret v => obtain ⟨x7, σ7, H7, I7, r7, q7⟩ := q7; exact ⟨x7, σ7, H7, I7.unpinned, r7, q7⟩
end
theorem for_list {K : PySem.W.Frag} {a : Addr} {xs : List V} {g : TG} {tb : TS} {D : Ends} {σ : St} {H : Hp} (Pv : Nat → St → Hp → Prop) (h0 : Pv 0 σ H) (hl : ∀ i σ H, i ≤ xs.length → Pv i σ H → SqL K H a xs)
    (hs : ∀ i x σ H, xs[i]? = some x → Pv i σ H → g x σ H fun σ2 H2 => tb { D with nx := Pv (i + 1), ct := Pv (i + 1), bk := D.nx } σ2 H2) (hd : ∀ σ H, Pv xs.length σ H → D.nx σ H) :
    ∃ W : Nat → Nat → St → Hp → Prop, (∃ m, W 0 m σ H) ∧ ∀ i m σ H, W i m σ H →
      ((Itl K a).stop i H ∧ D.nx σ H) ∨ ((Itl K a).go i H ∧ ∃ N : St → Hp → Prop, (∀ σ' H', N σ' H' → ∃ m', m' < m ∧ W (i + 1) m' σ' H') ∧ ∀ x H', (Itl K a).yld i H x H' → g x σ H' fun σ2 H2 => tb { D with nx := N, ct := N, bk := D.nx } σ2 H2) := by
  refine ⟨fun i m σ H => m = xs.length - i ∧ i ≤ xs.length ∧ Pv i σ H, ⟨xs.length, by simp, Nat.zero_le _, h0⟩, ?_⟩
  rintro i m σ H ⟨rfl, hi, p⟩
  have q := hl i σ H hi p
  by_cases hlt : i < xs.length
  · refine .inr ⟨⟨xs, xs[i], q, by simp [hlt]⟩, Pv (i + 1), fun σ' H' p' => ⟨xs.length - (i + 1), by omega, rfl, hlt, p'⟩, fun x H' y => ?_⟩
    obtain ⟨e, y⟩ := y
    subst e
    exact hs i x σ _ (y xs q) p
  · have e : i = xs.length := by omega
    subst e
    exact .inl ⟨⟨xs, q, Nat.le_refl _⟩, hd σ H p⟩
theorem for_range {lo : Int} {n : Nat} {g : TG} {tb : TS} {D : Ends} {σ : St} {H : Hp} (Pv : Nat → St → Hp → Prop) (h0 : Pv 0 σ H)
    (hs : ∀ i σ H, i < n → Pv i σ H → g (.int (lo + i)) σ H fun σ2 H2 => tb { D with nx := Pv (i + 1), ct := Pv (i + 1), bk := D.nx } σ2 H2) (hd : ∀ σ H, Pv n σ H → D.nx σ H) :
    ∃ W : Nat → Nat → St → Hp → Prop, (∃ m, W 0 m σ H) ∧ ∀ i m σ H, W i m σ H →
      ((Itr lo n).stop i H ∧ D.nx σ H) ∨ ((Itr lo n).go i H ∧ ∃ N : St → Hp → Prop, (∀ σ' H', N σ' H' → ∃ m', m' < m ∧ W (i + 1) m' σ' H') ∧ ∀ x H', (Itr lo n).yld i H x H' → g x σ H' fun σ2 H2 => tb { D with nx := N, ct := N, bk := D.nx } σ2 H2) := by
  refine ⟨fun i m σ H => m = n - i ∧ i ≤ n ∧ Pv i σ H, ⟨n, by simp, Nat.zero_le _, h0⟩, ?_⟩
  rintro i m σ H ⟨rfl, hi, p⟩
  by_cases hlt : i < n
  · refine .inr ⟨hlt, Pv (i + 1), fun σ' H' p' => ⟨n - (i + 1), by omega, rfl, hlt, p'⟩, fun x H' y => ?_⟩
    obtain ⟨e, y⟩ := y
    subst e y
    exact hs i σ _ hlt p
  · have e : i = n := by omega
    subst e
    exact .inl ⟨Nat.le_refl _, hd σ H p⟩
end L2
namespace L2
open PySem PySem.Spec PyProof.Rows
abbrev R2 := V → V → Hp → VK → Prop
def OpR (X : Cx) (f : Value → Value → Sem Value) (r : R2) : Prop :=
  ∀ (pins : List (Addr × Obj)) (s : Shared) (σ : St) (H : Hp) (x y : V) (v u : Value) (Q : VK), Inv X pins σ H s → RelV x v → RelV y u → r x y H Q →
    wpAny (model X.prog X.w) X.A (f v u) (EP X pins σ Q) X.xe s
def UnR (X : Cx) (f : Value → Sem Value) (r : V → Hp → VK → Prop) : Prop :=
  ∀ (pins : List (Addr × Obj)) (s : Shared) (σ : St) (H : Hp) (x : V) (v : Value) (Q : VK), Inv X pins σ H s → RelV x v → r x H Q →
    wpAny (model X.prog X.w) X.A (f v) (EP X pins σ Q) X.xe s
def CallR (X : Cx) (f : Value) (r : List V → Hp → VK → Prop) : Prop :=
  ∀ (pins : List (Addr × Obj)) (s : Shared) (σ : St) (H : Hp) (xs : List V) (us : List Value) (Q : VK), Inv X pins σ H s → Vals xs us → r xs H Q →
    wpAny (model X.prog X.w) X.A (call f us) (EP X pins σ Q) X.xe s
def TruR (X : Cx) (r : V → Hp → (Bool → Hp → Prop) → Prop) : Prop :=
  ∀ (pins : List (Addr × Obj)) (s : Shared) (σ : St) (H : Hp) (x : V) (v : Value) (Q : Bool → Hp → Prop), Inv X pins σ H s → RelV x v → r x H Q →
    wpAny (model X.prog X.w) X.A (truthy v) (TP X pins σ Q) X.xe s
def tOp (r : R2) (ta tb : TE) : TE := fun σ H Q => ta σ H fun x H1 => tb σ H1 fun y H2 => r x y H2 Q
def tUn (r : V → Hp → VK → Prop) (ta : TE) : TE := fun σ H Q => ta σ H fun x H1 => r x H1 Q
def rI (C : Int → Int → Prop) (g : Int → Int → V) : R2 := fun x y H Q => ∃ i j, x = .int i ∧ y = .int j ∧ C i j ∧ Q (g i j) H
def rI0 (g : Int → Int → V) : R2 := fun x y H Q => ∃ i j, x = .int i ∧ y = .int j ∧ Q (g i j) H
def rU (g : Int → V) : V → Hp → VK → Prop := fun x H Q => ∃ i, x = .int i ∧ Q (g i) H
section
variable {X : Cx} {a b c : Expr} {ta tb tc : TE} {pos : Pos}
theorem binT (ha : PE X a ta) (hb : PE X b tb) {pins : List (Addr × Obj)} {s : Shared} {σ : St} {H : Hp} {R : V → V → Hp → Prop} (I : Inv X pins σ H s)
    (h : ta σ H fun x H1 => tb σ H1 fun y H2 => R x y H2) {Q : Value → Shared → Prop} {f : Value → Value → Sem Value}
    (hf : ∀ v u s2 x y H2, Inv X pins σ H2 s2 → RelV x v → RelV y u → R x y H2 → wpAny (model X.prog X.w) X.A (f v u) Q X.xe s2) :
    wpAny (model X.prog X.w) X.A (eval a X.env) (fun v s₁ => wpAny (model X.prog X.w) X.A (eval b X.env) (fun u s₂ => wpAny (model X.prog X.w) X.A (f v u) Q X.xe s₂) X.xe s₁) X.xe s := by
  refine thn (ha pins s σ H _ I h) fun v s1 ⟨x, H1, I1, r1, q1⟩ => ?_
  refine thn (hb pins s1 σ H1 _ I1 q1) fun u s2 ⟨y, H2, I2, r2, q2⟩ => ?_
  exact hf v u s2 x y H2 I2 r1 r2 q2
theorem pe_op {op : Operator} {r : R2} (ho : OpR X (binaryOp op) r) (ha : PE X a ta) (hb : PE X b tb) : PE X (.BinOp a op b pos) (tOp r ta tb) := by
  intro pins s σ H Q I h
  exact wpAny_BinOp (binT ha hb I h fun v u s2 x y H2 I2 rx ry q => ho pins s2 σ H2 x y v u Q I2 rx ry q)
theorem pe_un {op : UnaryOp} {r : V → Hp → VK → Prop} (ho : UnR X (unaryOp op) r) (ha : PE X a ta) : PE X (.UnaryOp op a pos) (tUn r ta) := by
  intro pins s σ H Q I h
  exact UnaryOp_ (thn (ha pins s σ H _ I h) fun v s1 ⟨x, H1, I1, r1, q1⟩ => ho pins s1 σ H1 x v Q I1 r1 q1)
theorem opI {f : Value → Value → Sem Value} {C : Int → Int → Prop} {g : Int → Int → Int}
    (rule : ∀ (i j : Int) (t u : Tok) (s : Shared) (Q : Value → Shared → Prop) (E : Value → Shared → Prop), C i j → Q (.int (g i j) s.toks) { s with toks := s.toks + 1 } → wpAny (model X.prog X.w) X.A (f (.int i t) (.int j u)) Q E s) :
    OpR X f (rI C fun i j => .int (g i j)) := by
  intro pins s σ H x y v u Q I rx ry h
  obtain ⟨i, j, rfl, rfl, hc, q⟩ := h
  obtain ⟨t, rfl⟩ := rx
  obtain ⟨t', rfl⟩ := ry
  exact rule i j t t' s _ _ hc ⟨.int (g i j), H, I.tok _, ⟨_, rfl⟩, q⟩
theorem opI0 {f : Value → Value → Sem Value} {g : Int → Int → Int}
    (rule : ∀ (i j : Int) (t u : Tok) (s : Shared) (Q : Value → Shared → Prop) (E : Value → Shared → Prop), Q (.int (g i j) s.toks) { s with toks := s.toks + 1 } → wpAny (model X.prog X.w) X.A (f (.int i t) (.int j u)) Q E s) :
    OpR X f (rI0 fun i j => .int (g i j)) := by
  intro pins s σ H x y v u Q I rx ry h
  obtain ⟨i, j, rfl, rfl, q⟩ := h
  obtain ⟨t, rfl⟩ := rx
  obtain ⟨t', rfl⟩ := ry
  exact rule i j t t' s _ _ ⟨.int (g i j), H, I.tok _, ⟨_, rfl⟩, q⟩
theorem opB0 {f : Value → Value → Sem Value} {g : Int → Int → Bool}
    (rule : ∀ (i j : Int) (t u : Tok) (s : Shared) (Q : Value → Shared → Prop) (E : Value → Shared → Prop), Q (.bool (g i j)) s → wpAny (model X.prog X.w) X.A (f (.int i t) (.int j u)) Q E s) :
    OpR X f (rI0 fun i j => .bl (g i j)) := by
  intro pins s σ H x y v u Q I rx ry h
  obtain ⟨i, j, rfl, rfl, q⟩ := h
  obtain ⟨t, rfl⟩ := rx
  obtain ⟨t', rfl⟩ := ry
  exact rule i j t t' s _ _ ⟨.bl (g i j), H, I, rfl, q⟩
def CDiv (i j : Int) : Prop := 0 < j ∧ j < 1073741824
def CMul (i j : Int) : Prop := (-(2 ^ 64) < i ∧ i < 2 ^ 64) ∨ (-(2 ^ 64) < j ∧ j < 2 ^ 64)
theorem CMul.ok {i j : Int} (h : CMul i j) : IntMulOk i j := by
  rcases h with ⟨h1, h2⟩ | ⟨h1, h2⟩
  · exact .of_left (intBits_le_64 h1 h2)
  · exact .of_right (intBits_le_64 h1 h2)
theorem op_add : OpR X (binaryOp .Add) (rI0 fun i j => .int (i + j)) := opI0 fun _ _ _ _ _ _ _ q => add_int q
theorem op_sub : OpR X (binaryOp .Sub) (rI0 fun i j => .int (i - j)) := opI0 fun _ _ _ _ _ _ _ q => sub_int q
theorem op_mul : OpR X (binaryOp .Mult) (rI CMul fun i j => .int (i * j)) := opI fun _ _ _ _ _ _ _ hc q => mul_int q hc.ok
theorem op_fdiv : OpR X (binaryOp .FloorDiv) (rI CDiv fun i j => .int (i / j)) := opI fun i j _ _ _ _ _ hc q => by
  have h1 : (0 : Int) < j := hc.1
  have h2 : j < 1073741824 := hc.2
  exact floordiv_int (by omega) (by rw [Int.fdiv_eq_ediv_of_nonneg i (by omega)]; exact q) (.inl (PyProof.noPylong_small (by omega)))
theorem op_mod : OpR X (binaryOp .Mod) (rI (fun _ j => 0 < j) fun i j => .int (i % j)) := opI fun i j _ _ _ _ _ hc q => by
  have h1 : (0 : Int) < j := hc
  exact mod_int' (by omega) (by rw [Int.fmod_eq_emod_of_nonneg i (by omega)]; exact q)
theorem unI {f : Value → Sem Value} {g : Int → Int}
    (rule : ∀ (i : Int) (t : Tok) (s : Shared) (Q : Value → Shared → Prop) (E : Value → Shared → Prop), Q (.int (g i) s.toks) { s with toks := s.toks + 1 } → wpAny (model X.prog X.w) X.A (f (.int i t)) Q E s) :
    UnR X f (rU fun i => .int (g i)) := by
  intro pins s σ H x v Q I rx h
  obtain ⟨i, rfl, q⟩ := h
  obtain ⟨t, rfl⟩ := rx
  exact rule i t s _ _ ⟨.int (g i), H, I.tok _, ⟨_, rfl⟩, q⟩
theorem un_neg : UnR X (unaryOp .USub) (rU fun i => .int (-i)) := unI fun _ _ _ _ _ q => neg_int q
end
section
variable {X : Cx} {a b c : Expr} {ta tb tc : TE} {pos : Pos}
theorem op_lt : OpR X (compareOp .Lt) (rI0 fun i j => .bl (decide (i < j))) := opB0 fun _ _ _ _ _ _ _ q => lt_int q
theorem OpR.or {f : Value → Value → Sem Value} {r r' : R2} (h : OpR X f r) (h' : OpR X f r') : OpR X f (fun x y H Q => r x y H Q ∨ r' x y H Q) := by
  intro pins s σ H x y v u Q I rx ry q
  rcases q with q | q
  · exact h pins s σ H x y v u Q I rx ry q
  · exact h' pins s σ H x y v u Q I rx ry q
theorem nomark (b : Expr) {op : CmpOp} (h : op ≠ .In := by decide) (h2 : op ≠ .NotIn := by decide) : behindInMarks op b = false := by
  have e1 : (op == CmpOp.In) = false := by cases op <;> first | rfl | exact absurd rfl h
  have e2 : (op == CmpOp.NotIn) = false := by cases op <;> first | rfl | exact absurd rfl h2
  cases b <;> simp [behindInMarks, e1, e2]
theorem pe_cmpR {op : CmpOp} {r : R2} (ho : OpR X (compareOp op) r) (ha : PE X a ta) (hb : PE X b tb) (hm : behindInMarks op b = false) : PE X (.Compare a [op] [b] pos) (tOp r ta tb) := by
  intro pins s σ H Q I h
  exact wpAny_Compare1 (binT ha hb I h fun v u s2 x y H2 I2 rx ry q => ho pins s2 σ H2 x y v u Q I2 rx ry q) hm
def tTest (t : TE) : TT := fun σ H Q => t σ H fun x H' => ∃ k, x = .bl k ∧ Q k H'
theorem pt_cmpR {op : CmpOp} {r : R2} (ho : OpR X (compareOp op) r) (ha : PE X a ta) (hb : PE X b tb) (hm : behindInMarks op b = false) : PT X (.Compare a [op] [b] pos) (tTest (tOp r ta tb)) := by
  intro pins s σ H Q I h
  refine wpAny_isTrue_Compare1 (thn (ha pins s σ H _ I h) fun v s1 ⟨x, H1, I1, r1, q1⟩ => thn (hb pins s1 σ H1 _ I1 q1) fun u s2 ⟨y, H2, I2, r2, q2⟩ =>
    thn (ho pins s2 σ H2 x y v u _ I2 r1 r2 q2) fun c s3 ⟨z, H3, I3, r3, k, e, q3⟩ => ?_) hm
  subst e
  cases r3
  exact wpAny_truthy_bool ⟨H3, I3, q3⟩
def TruV (K : PySem.W.Frag) (x : V) (H : Hp) (k : Bool) : Prop :=
  match x with
  | .non => k = false
  | .bl b => k = b
  | .int i => k = (i != 0)
  | .str y => y.length ≤ sizeLine ∧ k = ((y.length : Int) != 0)
  | .byt y => y.size ≤ sizeLine ∧ k = ((y.size : Int) != 0)
  | .ref p => (∃ xs, SqL K H p xs ∧ k = !xs.isEmpty) ∨ (∃ xs, SqT K H p xs ∧ k = !xs.isEmpty) ∨ ∃ kvs, H p = some (.dK kvs) ∧ k = !kvs.isEmpty
  | _ => False
theorem isEmpty_kv {κ : Type} {kvs : List (κ × V)} {vs : List (κ × Value)} (r : KV kvs vs) : (!vs.isEmpty) = !kvs.isEmpty := by
  cases r <;> rfl
theorem isEmpty_of {xs : List V} {its : List Value} (r : Vals xs its) : (!its.toArray.isEmpty) = !xs.isEmpty := by
  cases r <;> simp
theorem line63 : (sizeLine : Nat) < 2 ^ 63 := by rw [sizeLine_eq]; decide
theorem tru_ok : TruR X (fun x H Q => ∃ k, TruV X.K x H k ∧ Q k H) := by
  intro pins s σ H x v Q I rx h
  obtain ⟨k, e, q⟩ := h
  have hl := line63
  have hs : sizeLine = 16777216 := sizeLine_eq
  cases x with
  | non =>
    cases rx
    have e' : k = false := e
    subst e'
    exact truthy_none ⟨H, I, q⟩
  | bl b =>
    cases rx
    have e' : k = b := e
    subst e'
    exact wpAny_truthy_bool ⟨H, I, q⟩
  | int i =>
    obtain ⟨t, rfl⟩ := rx
    have e' : k = (i != 0) := e
    subst e'
    exact PySem.P.truthy_int ⟨H, I, q⟩
  | str y =>
    obtain ⟨t, rfl⟩ := rx
    obtain ⟨hy, e'⟩ : y.length ≤ sizeLine ∧ k = ((y.length : Int) != 0) := e
    subst e'
    exact PySem.P.truthy_str (by omega) ⟨H, I.tok _, q⟩
  | byt y =>
    obtain ⟨t, rfl⟩ := rx
    obtain ⟨hy, e'⟩ : y.size ≤ sizeLine ∧ k = ((y.size : Int) != 0) := e
    subst e'
    exact PySem.W.truthy_bytes (by omega) ⟨H, I.tok _, q⟩
  | ref p =>
    cases rx
    have e' : (∃ xs, SqL X.K H p xs ∧ k = !xs.isEmpty) ∨ (∃ xs, SqT X.K H p xs ∧ k = !xs.isEmpty) ∨ ∃ kvs, H p = some (.dK kvs) ∧ k = !kvs.isEmpty := e
    rcases e' with ⟨xs, hx, e'⟩ | ⟨xs, hx, e'⟩ | ⟨kvs, hx, e'⟩
    · subst e'
      obtain ⟨its, r, pl, hz⟩ := I.list hx
      have hlen := r.length
      exact wpAny_truthy_list pl.isList (by simp only [List.size_toArray]; omega) ⟨H, I.tok _, by rw [isEmpty_of r]; exact q⟩
    · subst e'
      obtain ⟨its, r, pl, hz⟩ := I.tuple hx
      have hlen := r.length
      exact truthy_tuple pl (by simp only [List.size_toArray]; omega) ⟨H, I.tok _, by rw [isEmpty_of r]; exact q⟩
    · subst e'
      obtain ⟨hz, hS, vs, r, m⟩ : kvs.length ≤ sizeLine ∧ (p == sysModules) = false ∧ ∃ vs, KV kvs vs ∧ s.heap.DictOf (mixKind X.prog X.w) p vs := I.hok p _ hx
      have hlen : kvs.length = vs.length := Paired.length r
      exact wpAny_truthy_dict hS m (by omega) ⟨H, I.tok _, by rw [isEmpty_kv r]; exact q⟩
  | _ => exact (show False from e).elim
theorem pt_truth (ha : PE X a ta) (he : ∀ whole, isTrue a X.env whole = (do let v ← whole; standAt a.pos; holding [v] (truthy v))) :
    PT X a (fun σ H Q => ta σ H fun x H' => ∃ k, TruV X.K x H' k ∧ Q k H') := by
  intro pins s σ H Q I h
  exact isTrue_plain (thn (ha pins s σ H _ I h) fun v s1 ⟨x, H1, I1, r1, q1⟩ => tru_ok pins s1 σ H1 x v Q I1 r1 q1) (he _)
theorem vals1 {x : V} {us : List Value} (r : Vals [x] us) : ∃ u, us = [u] ∧ RelV x u := by
  cases r with
  | cons r1 r2 => cases r2; exact ⟨_, rfl, r1⟩
theorem vals2 {x y : V} {us : List Value} (r : Vals [x, y] us) : ∃ u w', us = [u, w'] ∧ RelV x u ∧ RelV y w' := by
  cases r with
  | cons r1 r2 =>
    cases r2 with
    | cons r3 r4 => cases r4; exact ⟨_, _, rfl, r1, r3⟩
theorem call_abs : CallR X (.builtin "abs") (fun xs H Q => ∃ i, xs = [.int i] ∧ Q (.int (if i < 0 then -i else i)) H) := by
  intro pins s σ H xs us Q I r h
  obtain ⟨i, rfl, q⟩ := h
  obtain ⟨u, rfl, t, rfl⟩ := vals1 r
  exact call_abs_int fun u tk => ⟨.int (if i < 0 then -i else i), H, I.tok _, ⟨_, rfl⟩, q⟩
theorem call_max2 (hc : X.calm = true) : CallR X (.builtin "max") (fun xs H Q => ∃ i j, xs = [.int i, .int j] ∧ Q (.int (if j > i then j else i)) H) := by
  intro pins s σ H xs us Q I r h
  obtain ⟨i, j, rfl, q⟩ := h
  obtain ⟨u, w', rfl, ⟨t, rfl⟩, ⟨t', rfl⟩⟩ := vals2 r
  refine max_two_ints (I.ok.hd hc) fun h' tk k => ⟨_, H, I.kept k, ?_, q⟩
  by_cases hj : j > i
  · rw [if_pos hj, if_pos hj]; exact ⟨_, rfl⟩
  · rw [if_neg hj, if_neg hj]; exact ⟨_, rfl⟩
theorem call_min2 (hc : X.calm = true) : CallR X (.builtin "min") (fun xs H Q => ∃ i j, xs = [.int i, .int j] ∧ Q (.int (if j < i then j else i)) H) := by
  intro pins s σ H xs us Q I r h
  obtain ⟨i, j, rfl, q⟩ := h
  obtain ⟨u, w', rfl, ⟨t, rfl⟩, ⟨t', rfl⟩⟩ := vals2 r
  refine min_two_ints (I.ok.hd hc) fun h' tk k => ⟨_, H, I.kept k, ?_, q⟩
  by_cases hj : j < i
  · rw [if_pos hj, if_pos hj]; exact ⟨_, rfl⟩
  · rw [if_neg hj, if_neg hj]; exact ⟨_, rfl⟩
theorem call_int1 : CallR X (.type "int") (fun xs H Q => (∃ i, xs = [.int i] ∧ Q (.int i) H) ∨ ∃ k, xs = [.bl k] ∧ Q (.int (if k then 1 else 0)) H) := by
  intro pins s σ H xs us Q I r h
  rcases h with ⟨i, rfl, q⟩ | ⟨k, rfl, q⟩
  · obtain ⟨u, rfl, t, rfl⟩ := vals1 r
    exact call_int_int ⟨.int i, H, I, ⟨_, rfl⟩, q⟩
  · obtain ⟨u, rfl, r1⟩ := vals1 r
    cases r1
    exact call_int_bool ⟨.int (if k then 1 else 0), H, I.tok _, ⟨_, rfl⟩, q⟩
end
end L2
namespace L2
open PySem PySem.Spec PyProof.Rows
structure ObjM (h : Heap) (x dx C : Addr) (mA : Str → Option Value) : Prop where
  obj : h.get? x = some (PySem.W.instObj C dx)
  ns : h.Ns1 dx mA
  ne : dx ≠ x
theorem lookIn_ns {h : Heap} {dx : Addr} {mA : Str → Option Value} (n : h.Ns1 dx mA) : ∃ od, h.get? dx = some od ∧ ∀ name, PySem.W.lookIn name od = some (mA name) := by
  obtain ⟨o, es, ep, ho, hd, hk, _, hm⟩ := n
  refine ⟨o, ho, fun name => ?_⟩
  have e := hm name
  unfold nsFind findBy at e
  rw [← Array.find?_toList] at e
  unfold PySem.W.lookIn
  rw [hd]
  dsimp only
  split
  · rename_i y q
    rw [q] at e
    exact congrArg some e
  · rename_i q
    rw [q] at e
    have a : es.toList.any (·.refKey) = false := by
      rw [List.any_eq_false]
      intro y hy
      obtain ⟨z, t, hkey⟩ := hk y (Array.mem_toList_iff.mp hy)
      simp [DictEntry.refKey, hkey]
    have a' : ¬ es.toList.any (·.refKey) = true := by rw [a]; exact Bool.false_ne_true
    rw [if_neg a']
    exact congrArg some e
theorem ObjM.look {h : Heap} {x dx C : Addr} {mA : Str → Option Value} (I : ObjM h x dx C mA) : ∃ od, PySem.W.InstAt h x (PySem.W.instObj C dx) C (some od) ∧ ∀ name, PySem.W.lookIn name od = some (mA name) :=
  let ⟨od, ho, hl⟩ := lookIn_ns I.ns
  ⟨od, ⟨I.obj, rfl, rfl, ho⟩, hl⟩
section
variable {prog : Program} {w : World} {A : Around} {E : Value → Shared → Prop} {s : Shared} {K : PySem.W.Frag} {x dx C f : Addr} {mA : Str → Option Value} {name : Str} {v : Value}
end
theorem RelO.some_of {v : V} {o : Option Value} (r : RelO (some v) o) : ∃ u, o = some u ∧ RelV v u := by
  cases o with
  | none => exact (show False from r).elim
  | some u => exact ⟨u, rfl, r⟩
theorem RelO.none_of {o : Option Value} (r : RelO none o) : o = none := by
  cases o with
  | none => rfl
  | some u => exact (show False from r).elim
section
variable {P : Program} {w : World} {H H' : Hp} {h h' : Heap} {a C dx : Addr} {fs fs' : List (Str × V)}
theorem ins_get (hok : HOk P w H h) (e : H a = some (.ins C dx fs)) : ∃ mA, ObjM h a dx C mA ∧ (∀ f, RelO (fs.lookup f) (mA f)) ∧ PySem.Within mA (fs.map (·.1)) ∧ fs.length ≤ 1000 ∧ H dx = some (.own a) := by
  obtain ⟨d, z, ne, ob, mA, n, r, q⟩ := (show ObjOk P w H h a (.ins C dx fs) from hok a _ e)
  exact ⟨mA, ⟨ob, n, ne⟩, r, q, z, d⟩
end
structure Cls (K : PySem.W.Frag) (C : Addr) : Prop where
  pg : PySem.W.plainGet K C Str.empty = true
  hd : PySem.W.hasDictIn K C = true
  po : PySem.W.plainOver K C = true
  sa : PySem.W.findIn K (.ref C) "__setattr__" = some (some (.builtin "object.__setattr__"))
theorem Cls.get {K : PySem.W.Frag} {C : Addr} (c : Cls K C) (f : Str) : PySem.W.plainGet K C f = true := c.pg
structure Con (K : PySem.W.Frag) (C : Addr) (f : Str) (v : V) (u : Value) : Prop where
  at_ : PySem.W.findIn K (.ref C) f = some (some u)
  rel : RelV v u
  get : PySem.W.specialIn K u "__get__" = some none
  cp : PySem.W.copiedNames.contains f = false
structure Meth (K : PySem.W.Frag) (C : Addr) (m : Str) (f : Addr) : Prop where
  at_ : PySem.W.findIn K (.ref C) m = some (some (.ref f))
  fn : PySem.W.isFn K (.ref f) = true
  kp : PySem.W.keepIn K (.ref f) = true
section
variable {X : Cx} {pins : List (Addr × Obj)} {σ : St} {H : Hp} {s : Shared} {a C dx : Addr} {fs : List (Str × V)} {f : Str} {v : V} {A : Around} {E : Value → Shared → Prop}
end
section
variable {X : Cx} {o e value : Expr} {f : Str} {pos pos' tpos : Pos} {ta tv : TE}
end
section
variable {X : Cx} {pins : List (Addr × Obj)} {σ : St} {H : Hp} {s : Shared} {A : Around} {E : Value → Shared → Prop} {Q : Value → Shared → Prop} {c : Value} {b : Bool}
inductive TyOf (K : PySem.W.Frag) (H : Hp) : V → Value → Prop where
  | non : TyOf K H .non (.type "NoneType")
  | bl (x : Bool) : TyOf K H (.bl x) (.type "bool")
  | int (i : Int) : TyOf K H (.int i) (.type "int")
  | str (x : Str) : TyOf K H (.str x) (.type "str")
  | flt (x : UInt64) : TyOf K H (.flt x) (.type "float")
  | lst {a : Addr} {xs : List V} (e : H a = some (.lst xs)) : TyOf K H (.ref a) (.type "list")
  | frz {a : Addr} {o : Obj} {xs : List V} (e : H a = some (.frz o (.lst xs))) : TyOf K H (.ref a) (.type "list")
  | tup {a : Addr} {xs : List V} (e : H a = some (.tup xs)) : TyOf K H (.ref a) (.type "tuple")
  | dK {a : Addr} {kvs : List (Key × V)} (e : H a = some (.dK kvs)) : TyOf K H (.ref a) (.type "dict")
  | dT {a : Addr} {kvs : List (List Key × V)} (e : H a = some (.dT kvs)) : TyOf K H (.ref a) (.type "dict")
  | ins {a C dx : Addr} {fs : List (Str × V)} (e : H a = some (.ins C dx fs)) (cl : Cls K C) (ha : PySem.W.findIn K (.ref C) "__class__" = some (some (.builtin "object.__class__")))
      (hn : PySem.W.specialIn K (.builtin "object.__class__") "__get__" = some (some (.builtin "getset_descriptor.__get__"))) (htk : PySem.W.takesIn K (.builtin "object.__class__") = some true)
      (hm : PySem.W.mroIn K C (.type "object") = some true) : TyOf K H (.ref a) (.ref C)
theorem isinst_ok {x : V} {u t : Value} (I : Inv X pins σ H s) (rx : RelV x u) (ty : TyOf X.K H x t) (e : PySem.W.kitOne X.K t c = some b) (h : ∀ tk, Q (.bool b) { s with toks := tk }) :
    wpAny (model X.prog X.w) A (call (.builtin "isinstance") [u, c]) Q E s := by
  cases ty with
  | non => cases (show u = Value.none from rx); exact PySem.W.kia_one PySem.W.kitx_none I.kIn True.intro e (fun z => nomatch z) h
  | bl y => cases (show u = Value.bool y from rx); exact PySem.W.kia_one PySem.W.kitx_bool I.kIn True.intro e (fun z => nomatch z) h
  | int i => obtain ⟨t, q⟩ := (show ∃ t, u = Value.int i t from rx); cases q; exact PySem.W.kia_one PySem.W.kitx_int I.kIn True.intro e (fun z => nomatch z) h
  | str y => obtain ⟨t, q⟩ := (show ∃ t, u = Value.str y t from rx); cases q; exact PySem.W.kia_one PySem.W.kitx_str I.kIn True.intro e (fun z => nomatch z) h
  | flt y => obtain ⟨t, q⟩ := (show ∃ t, u = Value.float y t from rx); cases q; exact PySem.W.kia_one PySem.W.kitx_float I.kIn True.intro e (fun z => nomatch z) h
  | @lst a xs ea =>
    cases (show u = Value.ref a from rx)
    obtain ⟨_, _, n, _, h1⟩ := (show ObjOk X.prog X.w H s.heap a (.lst xs) from I.hok a _ ea)
    exact PySem.W.kia_one PySem.W.kitx_list I.kIn ⟨_, h1, rfl⟩ e (fun z => nomatch z) h
  | @frz a ob xs ea =>
    cases (show u = Value.ref a from rx)
    obtain ⟨_, _, _, n, _, h1⟩ := (show ObjOk X.prog X.w H s.heap a (.frz ob (.lst xs)) from I.hok a _ ea)
    exact PySem.W.kia_one PySem.W.kitx_list I.kIn ⟨_, h1, rfl⟩ e (fun z => nomatch z) h
  | @tup a xs ea =>
    cases (show u = Value.ref a from rx)
    obtain ⟨_, _, _, p⟩ := (show ObjOk X.prog X.w H s.heap a (.tup xs) from I.hok a _ ea)
    obtain ⟨o, h1, h2, _⟩ := p.up
    exact PySem.W.kia_one PySem.W.kitx_tuple I.kIn ⟨o, h1, h2⟩ e (fun z => nomatch z) h
  | @dK a kvs ea =>
    cases (show u = Value.ref a from rx)
    obtain ⟨_, _, vs, _, p⟩ := (show ObjOk X.prog X.w H s.heap a (.dK kvs) from I.hok a _ ea)
    obtain ⟨o, es, ep, h1, h2, _⟩ := p
    exact PySem.W.kia_one PySem.W.kitx_dict I.kIn ⟨o, h1, h2.1⟩ e (fun z => nomatch z) h
  | @dT a kvs ea =>
    cases (show u = Value.ref a from rx)
    obtain ⟨_, _, xs, _, o, es, ep, h1, h2, _⟩ := (show ObjOk X.prog X.w H s.heap a (.dT kvs) from I.hok a _ ea)
    exact PySem.W.kia_one PySem.W.kitx_dict I.kIn ⟨o, h1, h2.1⟩ e (fun z => nomatch z) h
  | @ins a C dx fs ea cl ha hn htk hm =>
    cases (show u = Value.ref a from rx)
    obtain ⟨mA, O, _⟩ := ins_get I.hok ea
    obtain ⟨od, J, _⟩ := O.look
    exact PySem.W.kia_one (PySem.W.kitx_own (cl.get _) cl.hd ha hn htk hm) I.kIn J e (fun z => nomatch z) h
end
end L2
namespace L2
open PySem PySem.Spec PyProof.Rows
structure Room (k : Nat) (A : Around) : Prop where
  hd : A.handled = none
  dp : A.depth + 3 * k + 5 < recursionLimit
  un : A.units + 16 * k + 200 < cLine
theorem Room.mono {j k : Nat} {A : Around} (r : Room k A) (h : j ≤ k) : Room j A := ⟨r.hd, by have := r.dp; omega, by have := r.un; omega⟩
theorem Room.deeper {k : Nat} {A : Around} (r : Room (k + 1) A) (env : Env) : Room k (A.deeper env) :=
  ⟨r.hd, by have := r.dp; show A.depth + 1 + 3 * k + 5 < _; omega, by have := r.un; show A.units + 3 + 16 * k + 200 < _; omega⟩
theorem Room.in1 {k : Nat} {A : Around} (r : Room (k + 1) A) : Room k A.in1 :=
  ⟨r.hd, by have := r.dp; show A.depth + 3 * k + 5 < _; omega, by have := r.un; show A.units + 1 + 16 * k + 200 < _; omega⟩
theorem Room.depth {k : Nat} {A : Around} (r : Room k A) : A.depth < recursionLimit := by have := r.dp; omega
theorem Room.units {k : Nat} {A : Around} (r : Room k A) : A.units + 64 < cLine := by have := r.un; omega
def tNil : TA := fun _ H Q => Q [] H
def tCons (ta : TE) (tr : TA) : TA := fun σ H Q => ta σ H fun x H1 => tr σ H1 fun xs H2 => Q (x :: xs) H2
section
variable {X : Cx} {e : Expr} {es : List Expr} {te : TE} {t : TA} {pos : Pos}
theorem pa_nil : PA X [] tNil := fun _ _ _ _ H Q I h => Calls.spliced_nil ⟨[], H, I, .nil, h⟩
theorem pa_cons (ha : PE X e te) (hr : PA X es t) (hs : starEach (e :: es) X.env = (false, eval e X.env) :: starEach es X.env := by rfl) : PA X (e :: es) (tCons te t) := by
  intro pos pins s σ H Q I h
  rw [hs]
  show wpAny _ _ (spliced ((false, eval e X.env) :: backTo pos (starEach es X.env))) _ _ s
  refine Calls.spliced_cons (thn (ha pins s σ H _ I h) fun u s1 ⟨x, H1, I1, r1, q1⟩ => ?_)
  exact thn (hr pos pins s1 σ H1 _ I1 q1) fun us s2 ⟨xs, H2, I2, r2, q2⟩ => ⟨x :: xs, H2, I2, .cons r1 r2, q2⟩
def tTup (t : TA) : TE := fun σ H Q => t σ H fun xs H1 => xs.length ≤ sizeLine ∧ ∀ p, H1 p = none → Q (.ref p) (upd H1 p (.tup xs))
def tLst (t : TA) : TE := fun σ H Q => t σ H fun xs H1 => xs.length ≤ sizeLine ∧ ∀ p, H1 p = none → Q (.ref p) (upd H1 p (.lst xs))
theorem pe_tup {x1} (h : PA X es t) : PE X (.Tuple es x1 pos) (tTup t) := by
  intro pins s σ H Q I hq
  refine wpAny_Tuple_spliced (thn (h pos pins s σ H _ I hq) fun us s1 ⟨xs, H1, I1, r, z, q⟩ => ⟨by rw [← r.length]; exact z, ?_⟩)
  have hf : H1 s1.heap.objs.size = none := I1.hok.fresh (Nat.le_refl _)
  refine ⟨.ref s1.heap.objs.size, upd H1 s1.heap.objs.size (.tup xs), I1.laid (t' := s1.toks) (fun b u e => Heap.get?_push_of_some _ e) (Nat.le_refl _) ?_, rfl, q _ hf⟩
  exact ⟨z, us, r, IsTupD.new _ _⟩
theorem pe_lst (h : PA X es t) : PE X (.List es pos) (tLst t) := by
  intro pins s σ H Q I hq
  refine wpAny_List_spliced (thn (h pos pins s σ H _ I hq) fun us s1 ⟨xs, H1, I1, r, z, q⟩ => ⟨by rw [← r.length]; exact z, ?_⟩)
  have hf : H1 s1.heap.objs.size = none := I1.hok.fresh (Nat.le_refl _)
  refine ⟨.ref s1.heap.objs.size, upd H1 s1.heap.objs.size (.lst xs), I1.laid (t' := s1.toks) (fun b u e => Heap.get?_push_of_some _ e) (Nat.le_refl _) ?_, rfl, q _ hf⟩
  exact ⟨z, us, 0, r, Heap.get?_push_size _ rfl⟩
end
abbrev Sp := List V → Hp → VK → XK → Prop
abbrev CXT := List Env → Hp → Shared → XK → Value → Shared → Prop
structure Env0 (P : Program) (w : World) (K : PySem.W.Frag) (mg : Str → Option Value) (base : Heap) (A : Around) (outer : List Env) (s : Shared) (H : Hp) : Prop where
  frames : A.frames = some outer
  mod : Mod K mg base
  bs : ∀ b o, base.get? b = some o → s.heap.get? b = some o ∧ H b = none
  bsz : base.objs.size ≤ s.heap.objs.size
  funs : s.heap.FunFrames base outer
  frf : ∀ b ∈ frs outer, H b = none
  hok : HOk P w H s.heap
  bare : AllBare s.gens
def CE (outer : List Env) (P : Program) (w : World) (H : Hp) (s : Shared) (Q : VK) (u : Value) (s' : Shared) : Prop :=
  ∃ v H', s'.os = s.os ∧ AllBare s'.gens ∧ Un (frs outer) [] H H' s.heap s'.heap ∧ HOk P w H' s'.heap ∧ RelV v u ∧ Q v H'
def CR (CX : CXT) (outer : List Env) (P : Program) (w : World) (H : Hp) (s : Shared) (Q : VK) (E : XK) (r : Result) (s' : Shared) : Prop :=
  match r with
  | .ok (.ret u) => CE outer P w H s Q u s'
  | .ok _ => False
  | .error e => CX outer H s E e s'
structure FnOk (P : Program) (w : World) (K : PySem.W.Frag) (mg : Str → Option Value) (base : Heap) (CX : CXT) (k : Nat) (f : Addr) (fd : FuncData) (ps : List Str) (sp : Sp) : Prop where
  len : ∀ vs H Q E, sp vs H Q E → vs.length = ps.length
  run : ∀ (A : Around) (outer : List Env) (s : Shared) (H : Hp) (args : Args) (us : List Value) (vs : List V) (Q : VK) (E : XK), Room k A → Env0 P w K mg base A outer s H → BindsTo s fd args (ps.zip us) → Vals vs us → sp vs H Q E →
    codeAny (model P w) A (.call (.ref f) args) (CR CX outer P w H s Q E) s
theorem FnOk.mono {P : Program} {w : World} {K : PySem.W.Frag} {mg : Str → Option Value} {base : Heap} {CX : CXT} {j k : Nat} {f : Addr} {fd : FuncData} {ps : List Str} {sp : Sp} (F : FnOk P w K mg base CX j f fd ps sp) (h : j ≤ k) :
    FnOk P w K mg base CX k f fd ps sp := ⟨F.len, fun A outer s H args us vs Q E hr => F.run A outer s H args us vs Q E (hr.mono h)⟩
theorem FnOk.imp {P : Program} {w : World} {K : PySem.W.Frag} {mg : Str → Option Value} {base : Heap} {CX : CXT} {k : Nat} {f : Addr} {fd : FuncData} {ps : List Str} {sp sp' : Sp} (F : FnOk P w K mg base CX k f fd ps sp)
    (h : ∀ vs H Q E, sp' vs H Q E → sp vs H Q E) : FnOk P w K mg base CX k f fd ps sp' :=
  ⟨fun vs H Q E q => F.len vs H Q E (h _ _ _ _ q), fun A outer s H args us vs Q E hr he hb hv hs => F.run A outer s H args us vs Q E hr he hb hv (h _ _ _ _ hs)⟩
theorem Env0.in1 {P : Program} {w : World} {K : PySem.W.Frag} {mg : Str → Option Value} {base : Heap} {A : Around} {outer : List Env} {s : Shared} {H : Hp} (e : Env0 P w K mg base A outer s H) :
    Env0 P w K mg base A.in1 outer s H := ⟨e.frames, e.mod, e.bs, e.bsz, e.funs, e.frf, e.hok, e.bare⟩
section
variable {X : Cx} {pins : List (Addr × Obj)} {σ : St} {H : Hp} {s s' : Shared}
theorem Inv.env0 (I : Inv X pins σ H s) : Env0 X.prog X.w X.K X.mg X.base X.A X.stack s H :=
  ⟨I.ok.frames, I.ok.mod, I.bs, Nat.le_trans I.ok.bsz I.sz, I.stack, I.stkFree, I.hok, I.bare⟩
theorem Inv.after {Q : VK} {u : Value} (I : Inv X pins σ H s) (h : CE X.stack X.prog X.w H s Q u s') : EP X pins σ Q u s' := by
  obtain ⟨v, H', os, bare, un, hok, r, q⟩ := h
  obtain ⟨hh, g, d, t, os'⟩ := s'
  obtain rfl : os' = s.os := os
  exact ⟨v, H', I.call (h' := hh) (g' := g) (d' := d) (t' := t) (ch := []) un hok bare (fun b z => absurd z (by simp)), r, q⟩
end
def tCall (sp : Sp) (dvs : List V) (E : XK) (t : TA) : TE := fun σ H Q => t σ H fun vs H1 => sp (vs ++ dvs) H1 Q E
def Binds (K : PySem.W.Frag) (fd : FuncData) (ps : List Str) (ds : List Value) : Prop :=
  ∀ (s : Shared) (us : List Value), K.In s.heap → (us ++ ds).length = ps.length → BindsTo s fd ⟨us, []⟩ (ps.zip (us ++ ds))
theorem Binds.all {K : PySem.W.Frag} {fd : FuncData} {ps : List Str} (h : ∀ us : List Value, us.length = ps.length → bindArgs fd ⟨us, []⟩ = pure (ps.zip us)) : Binds K fd ps [] := fun s us _ hl => by
  rw [List.append_nil] at hl ⊢
  exact .of_eq (h us hl)
def Passes (CX : CXT) (X : Cx) (E : XK) : Prop := ∀ (pins : List (Addr × Obj)) (σ : St) (H : Hp) (s : Shared) (e : Value) (s' : Shared), Inv X pins σ H s → CX X.stack H s E e s' → X.xe e s'
section
variable {X : Cx} {CX : CXT} {k : Nat} {f C : Addr} {fd : FuncData} {ps : List Str} {sp : Sp} {dvs : List V} {ds : List Value} {E : XK} {x m : Str} {p pos apos : Pos} {e o : Expr} {es : List Expr} {ta : TE} {t : TA}
theorem run_fn {pins : List (Addr × Obj)} {σ : St} {H : Hp} {s : Shared} {Q : VK} {us : List Value} {vs : List V} (F : FnOk X.prog X.w X.K X.mg X.base CX k f fd ps sp) (hr : Room k X.A) (hb : Binds X.K fd ps ds) (hd : Vals dvs ds) (hx : Passes CX X E)
    (I : Inv X pins σ H s) (r : Vals vs us) (h : sp (vs ++ dvs) H Q E) : wpAny (model X.prog X.w) X.A (call (.ref f) us) (EP X pins σ Q) X.xe s := by
  have r2 : Vals (vs ++ dvs) (us ++ ds) := r.append hd
  have hl : (us ++ ds).length = ps.length := by rw [← r2.length]; exact F.len _ _ _ _ h
  refine wpAny_call (codeAny_mono (F.run X.A X.stack s H ⟨us, []⟩ (us ++ ds) (vs ++ dvs) Q E hr I.env0 (hb s us I.kIn hl) r2 h) fun r s' hq => ?_)
  cases r with
  | error e => exact hx pins σ H s e s' I hq
  | ok fl =>
    cases fl with
    | ret u => exact I.after hq
    | next => exact False.elim hq
    | brk => exact False.elim hq
    | cont => exact False.elim hq
theorem pe_call (F : FnOk X.prog X.w X.K X.mg X.base CX k f fd ps sp) (hr : Room k X.A) (hg : Gl X x) (hm : X.mg x = some (.ref f)) (hk : PySem.W.keepIn X.K (.ref f) = true) (hb : Binds X.K fd ps ds) (hd : Vals dvs ds) (hx : Passes CX X E)
    (ha : PA X (e :: es) t) (hdb : (x == ("__debug__" : Str)) = false := by decide) (he : starEach (e :: es) X.env = (false, eval e X.env) :: starEach es X.env := by rfl) (hpl : (backTo pos (starEach es X.env)).any (·.1) = false := by rfl) :
    PE X (.Call (.Name x p) (e :: es) [] pos) (tCall sp dvs E t) := by
  intro pins s σ H Q I h
  refine wpAny_Call_Name_kw (ld_glob I hg hm ?_ hdb)
  refine PySem.W.callWith_K (h₀ := X.base) I.ok.mod.kin hk (thn (ha pos pins s σ H _ I h) fun us s1 ⟨vs, H1, I1, r, q⟩ => ⟨I1.kIn, ?_⟩) he hpl
  exact run_fn F hr hb hd hx I1 r q
structure Mk (K : PySem.W.Frag) (C f : Addr) : Prop where
  makes : PySem.W.makesIn K C = true
  init : PySem.W.findIn K (.ref C) "__init__" = some (some (.ref f))
  fn : PySem.W.isFn K (.ref f) = true
  kp : PySem.W.keepIn K (.ref C) = true
end
section
variable {X : Cx} {CX : CXT} {k : Nat} {f C : Addr} {fd : FuncData} {ps ks : List Str} {sp : Sp} {E : XK} {x m : Str} {p pos apos kpos : Pos} {e o : Expr} {es : List Expr} {kws : List Keyword} {te ta : TE} {t tk : TA} {nm : Option Str}
structure KBinds (K : PySem.W.Frag) (fd : FuncData) (ps ks : List Str) (g : List Value → List Value → List Value) (gV : List V → List V → List V) : Prop where
  to : ∀ (s : Shared) (us ws : List Value), K.In s.heap → (g us ws).length = ps.length → BindsTo s fd ⟨us, ks.zip ws⟩ (ps.zip (g us ws))
  rel : ∀ {vs : List V} {us : List Value} {zs : List V} {ws : List Value}, Vals vs us → Vals zs ws → Vals (gV vs zs) (g us ws)
variable {g : List Value → List Value → List Value} {gV : List V → List V → List V}
end
structure FnScope (N P : List Str) (sc : Scope) : Prop where
  kind : sc.kind = .function
  co : sc.isCoroutine = false
  gen : sc.isGenerator = false
  nd : N.Nodup
  pre : N.take P.length = P
  par : ∀ x ∈ P, sc.names.lookup x = some .local ∨ sc.names.lookup x = some .cell
  nofree : ∀ y ∈ sc.names, y.2 ≠ .free
theorem bindL_out {kindOf : Str → Option NameKind} {x : Str} : ∀ {binds : List (Str × Value)} {m : Str → Option Value}, (∀ v, (x, v) ∉ binds) → bindL kindOf binds m x = m x
  | [], _, _ => rfl
  | (n, v) :: r, m, h => by
    unfold bindL
    rw [bindL_out fun w hw => h w (List.mem_cons_of_mem _ hw)]
    split
    · have : x ≠ n := by rintro rfl; exact h v List.mem_cons_self
      simp [this]
    · rfl
theorem bindC_out {kindOf : Str → Option NameKind} {x : Str} : ∀ {binds : List (Str × Value)} {m : Str → Option Value}, (∀ v, (x, v) ∉ binds) → bindC kindOf binds m x = m x
  | [], _, _ => rfl
  | (n, v) :: r, m, h => by
    unfold bindC
    rw [bindC_out fun w hw => h w (List.mem_cons_of_mem _ hw)]
    split
    · rfl
    · have : x ≠ n := by rintro rfl; exact h v List.mem_cons_self
      simp [this]
theorem bindL_get {kindOf : Str → Option NameKind} {x : Str} {v : Value} : ∀ {P : List Str} {vs : List Value} {i : Nat} {m : Str → Option Value}, P.Nodup → P[i]? = some x → vs[i]? = some v → kindOf x = some .local →
    bindL kindOf (P.zip vs) m x = some v
  | [], _, _, _, _, h, _, _ => by simp at h
  | _ :: _, [], _, _, _, _, h, _ => by simp at h
  | p :: P, w :: vs, 0, m, nd, h1, h2, hk => by
    simp at h1 h2; subst h1; subst h2
    show bindL kindOf ((p, w) :: P.zip vs) m p = _
    unfold bindL
    rw [bindL_out fun v hv => (List.nodup_cons.mp nd).1 (List.of_mem_zip hv).1, if_pos hk]
    simp
  | p :: P, w :: vs, i + 1, m, nd, h1, h2, hk => by
    show bindL kindOf ((p, w) :: P.zip vs) m x = _
    unfold bindL
    exact bindL_get (i := i) (List.nodup_cons.mp nd).2 (by simpa using h1) (by simpa using h2) hk
theorem bindC_get {kindOf : Str → Option NameKind} {x : Str} {v : Value} : ∀ {P : List Str} {vs : List Value} {i : Nat} {m : Str → Option Value}, P.Nodup → P[i]? = some x → vs[i]? = some v → kindOf x ≠ some .local →
    bindC kindOf (P.zip vs) m x = some v
  | [], _, _, _, _, h, _, _ => by simp at h
  | _ :: _, [], _, _, _, _, h, _ => by simp at h
  | p :: P, w :: vs, 0, m, nd, h1, h2, hk => by
    simp at h1 h2; subst h1; subst h2
    show bindC kindOf ((p, w) :: P.zip vs) m p = _
    unfold bindC
    rw [bindC_out fun v hv => (List.nodup_cons.mp nd).1 (List.of_mem_zip hv).1, if_neg hk]
    simp
  | p :: P, w :: vs, i + 1, m, nd, h1, h2, hk => by
    show bindC kindOf ((p, w) :: P.zip vs) m x = _
    unfold bindC
    exact bindC_get (i := i) (List.nodup_cons.mp nd).2 (by simpa using h1) (by simpa using h2) hk
def start (N : List Str) (vs : List V) : St := vs.map some ++ List.replicate (N.length - vs.length) none
def cxOf (CX : CXT) (P : Program) (w : World) (K : PySem.W.Frag) (mg : Str → Option Value) (base : Heap) (N : List Str) (qual : Str) (scope : Scope) (f : Addr) (cd : Value) (A : Around) (outer : List Env) (s : Shared) (H : Hp) (E : XK) : Cx where
  prog := P
  w := w
  K := K
  mg := mg
  base := base
  A := A.deeper (envOfC qual scope s.heap.objs.size f cd)
  N := N
  s₀ := s
  H₀ := H
  env := envOfC qual scope s.heap.objs.size f cd
  outer := outer
  stack := envOfC qual scope s.heap.objs.size f cd :: outer
  ex := []
  calm := true
  fn := fun _ => true
  pn := []
  xe := fun e s' => wpAny (model P w) (A.deeper (envOfC qual scope s.heap.objs.size f cd)) (leaving (envOfC qual scope s.heap.objs.size f cd) e) (fun _ s'' => CX outer H s E e s'') (fun e' s'' => CX outer H s E e' s'') s'
theorem cell_has {sc : Scope} {n : Nat} {x : Str} (h : sc.names.lookup x = some .cell) : ∃ c, (cellsFrom n sc.names []).lookup x = some c := by
  have q := PySem.W.cellsFrom_some sc.names n [] (.inl h)
  exact Option.isSome_iff_exists.mp q
theorem inv_start {CX : CXT} {P : Program} {w : World} {K : PySem.W.Frag} {mg : Str → Option Value} {base : Heap} {N ps : List Str} {qual : Str} {scope : Scope} {f : Addr} {cd : Value} {A : Around} {outer : List Env} {s s1 : Shared} {H : Hp} {E : XK} {us : List Value} {vs : List V}
    (S : FnScope N ps scope) (hd : A.handled = none) (e0 : Env0 P w K mg base A outer s H) (hl : vs.length = ps.length) (r : Vals vs us)
    (x : InCallC s s.heap.objs.size (bindL (envOfC qual scope s.heap.objs.size f cd).kindOf (ps.zip us) fun _ => none) (cellsFrom (s.heap.objs.size + 1) scope.names []) (bindC (envOfC qual scope s.heap.objs.size f cd).kindOf (ps.zip us) fun _ => none) s1) :
    Inv (cxOf CX P w K mg base N qual scope f cd A outer s H E) [] (start N vs) H s1 := by
  have hpl : ps.length ≤ N.length := by have := congrArg List.length S.pre; rw [List.length_take] at this; omega
  obtain ⟨h1, tk, rfl, hk⟩ := x.done
  have noA : ∀ b : Addr, b ∉ (cxOf CX P w K mg base N qual scope f cd A outer s H E).ex := fun b z => absurd (show b ∈ ([] : List Addr) from z) (by simp)
  refine ⟨⟨e0.mod, S.kind, rfl, rfl, Nat.le_refl _, fun y z c h1 h2 => ?_, fun y hy => ?_, fun y c _ h => ?_, fun _ => hd, Around.frames_deeper e0.frames, .inr ⟨rfl, rfl⟩, fun b z => absurd z (noA b), e0.bs, e0.bsz, fun b _ _ => noA b, fun b z => absurd z (noA b), e0.funs, e0.frf⟩,
    rfl, e0.bare, Un.kept hk, ⟨_, x.toInCall.ns, fun i y v h1 h2 h3 => ?_⟩, fun y c h => ⟨_, x.cell y c h⟩, e0.hok.fresh (Nat.le_refl _), fun y c h => ?_, fun p hp => absurd (show p ∈ ([] : List (Addr × Obj)) from hp) (by simp), e0.hok.kept hk, ?_⟩
  · exact name_of_addr x.apart (PySem.mem_of_lookup h1) (PySem.mem_of_lookup h2)
  · have hy : scope.names.lookup y = some .cell ∨ scope.names.lookup y = some .free := hy
    rcases hy with hy | hy
    · exact cell_has hy
    · exact absurd rfl (S.nofree _ (PySem.mem_of_lookup hy))
  · exact Nat.le_of_lt (x.above y c (PySem.mem_of_lookup h))
  · have hi : i < vs.length := by
      unfold start at h2
      by_cases hi : i < vs.length
      · exact hi
      · rw [List.getElem?_append_right (by simpa using hi)] at h2
        rw [List.getElem?_replicate] at h2
        split at h2 <;> cases h2
    have ha : vs[i]? = some v := by
      unfold start at h2
      rw [List.getElem?_append_left (by simpa using hi), List.getElem?_map] at h2
      cases e : vs[i]? with
      | none => rw [e] at h2; cases h2
      | some a => rw [e] at h2; cases h2; rfl
    obtain ⟨u, hu, rv⟩ := r.get ha
    have hp : ps[i]? = some y := by
      rw [← S.pre, List.getElem?_take_of_lt (by omega)]; exact h1
    have ndP : ps.Nodup := by rw [← S.pre]; exact S.nd.sublist (List.take_sublist _ _)
    refine ⟨u, rv, ?_⟩
    rcases S.par y (List.mem_of_getElem? hp) with k | k
    · exact .inl ⟨k, bindL_get ndP hp hu k⟩
    · obtain ⟨c, e⟩ := cell_has (n := s.heap.objs.size + 1) k
      refine .inr ⟨.inl k, c, e, ?_⟩
      have q := x.cell y c e
      rw [bindC_get ndP hp hu (by show scope.names.lookup y ≠ _; rw [k]; decide)] at q
      exact q
  · exact e0.hok.fresh (Nat.le_of_lt (x.above y c (PySem.mem_of_lookup h)))
  · unfold start
    show _ = N.length
    rw [List.length_append, List.length_map, List.length_replicate]
    omega
theorem fn_of {CX : CXT} {P : Program} {w : World} {K : PySem.W.Frag} {mg : Str → Option Value} {base : Heap} {k : Nat} {f : Addr} {name qual : Str} {params : Arguments} {body : List Stmt} {scope : Scope} {dV kV doc pm cdv ct oc : Value} {an od : Option Addr}
    {osl : Array (Option Value)} {N ps : List Str} {sp : Sp} (lk : K.lookup f = some ⟨oc, od, .func (PySem.W.fnOf name qual params body scope dV kV doc pm an cdv ct), osl⟩) (hcd : PySem.W.codeIn K cdv qual = true) (S : FnScope N ps scope)
    (len : ∀ vs H Q E, sp vs H Q E → vs.length = ps.length)
    (hbody : ∀ (A : Around) (outer : List Env) (s : Shared) (H : Hp) (vs : List V) (Q : VK) (E : XK), Room k (A.deeper (envOfC qual scope s.heap.objs.size f cdv)) → sp vs H Q E →
      ∃ t, PSs (cxOf CX P w K mg base N qual scope f cdv A outer s H E) body t ∧ t { nx := fun _ H' => Q .non H', rt := Q } (start N vs) H) :
    FnOk P w K mg base CX (k + 1) f (PySem.W.fnOf name qual params body scope dV kV doc pm an cdv ct) ps sp := by
  refine ⟨len, fun A outer s H args us vs Q E hr e0 hb r hsp => ?_⟩
  have hl := len _ _ _ _ hsp
  have KX : K.In s.heap := e0.mod.kin.keeps fun b o e => (e0.bs b o e).1
  have lim : s.heap.NoLimit := e0.mod.nolimit.keeps fun b o e => (e0.bs b o e).1
  have hkind : ∀ y ∈ ps.zip us, scope.names.lookup y.1 = some .local ∨ (scope.names.lookup y.1 = some .cell ∧ ((cellsFrom (s.heap.objs.size + 1) scope.names []).lookup y.1).isSome = true) := fun ⟨n, v⟩ hy => by
    rcases S.par n (List.of_mem_zip hy).1 with q | q
    · exact .inl q
    · exact .inr ⟨q, PySem.W.cellsFrom_some _ _ _ (.inl q)⟩
  refine codeAny_call_function hr.depth (KX _ _ lk) rfl S.co S.gen rfl (PySem.W.codeRec_of KX hcd) (hb _ _ _ _ ?_)
  refine wpAny_newFunctionEnv_cells S.kind hkind fun env he s1 x => ?_
  subst he
  refine ⟨lim.keeps x.toInCall.keep, codeAny_func ?_⟩
  obtain ⟨t, ht, hq⟩ := hbody A outer s H vs Q E (hr.deeper _) hsp
  have I : Inv (cxOf CX P w K mg base N qual scope f cdv A outer s H E) [] (start N vs) H s1 := inv_start S hr.hd e0 hl r x
  refine wpAny_mono (ht [] s1 (start N vs) H _ I hq) (fun fl s' hs => ?_) fun e s' hs => hs
  have fin : ∀ {σ' : St} {H' : Hp} {v : V} {u : Value}, Inv (cxOf CX P w K mg base N qual scope f cdv A outer s H E) [] σ' H' s' → RelV v u → Q v H' → CE outer P w H s Q u s' :=
    fun {σ' H' v u} J rv q => ⟨v, H', J.os, J.bare, J.base, J.hok, rv, q⟩
  cases fl with
  | ret u =>
    obtain ⟨v, σ', H', J, rv, q⟩ := hs
    exact fin J rv q
  | next =>
    obtain ⟨σ', H', J, q⟩ := hs
    exact fin (v := V.non) (u := Value.none) J rfl q
  | brk =>
    obtain ⟨_, _, _, q⟩ := hs
    exact False.elim q
  | cont =>
    obtain ⟨_, _, _, q⟩ := hs
    exact False.elim q
end L2
namespace L2
open PySem PySem.Spec PyProof.Rows
section
variable {X : Cx} {x : Str} {p pos : Pos} {e : Expr} {es : List Expr} {t : TA} {id T : String} {r : List V → Hp → VK → Prop}
def tCB (r : List V → Hp → VK → Prop) (t : TA) : TE := fun σ H Q => t σ H fun vs H1 => r vs H1 Q
theorem pe_callB (hc : CallR X (.builtin id) r) (hg : Gl X x) (hm : X.mg x = none) (hv : bootBuiltins x = some (.builtin id)) (ha : PA X (e :: es) t) (hn : x ≠ "__name__" := by decide) (hdb : (x == ("__debug__" : Str)) = false := by decide)
    (he : starEach (e :: es) X.env = (false, eval e X.env) :: starEach es X.env := by rfl) (hpl : (backTo pos (starEach es X.env)).any (·.1) = false := by rfl) : PE X (.Call (.Name x p) (e :: es) [] pos) (tCB r t) := by
  intro pins s σ H Q I h
  refine wpAny_Call_Name_kw (ld_blt I hg hm hv ?_ hn hdb)
  exact PyProof.Rows.callWith_builtin1 (thn (ha pos pins s σ H _ I h) fun us s1 ⟨vs, H1, I1, r1, q1⟩ => hc pins s1 σ H1 vs us Q I1 r1 q1) he hpl
theorem pe_callTy (hc : CallR X (.type T) r) (hg : Gl X x) (hm : X.mg x = none) (hv : bootBuiltins x = some (.type T)) (ha : PA X (e :: es) t) (hn : x ≠ "__name__" := by decide) (hdb : (x == ("__debug__" : Str)) = false := by decide)
    (he : starEach (e :: es) X.env = (false, eval e X.env) :: starEach es X.env := by rfl) (hpl : (backTo pos (starEach es X.env)).any (·.1) = false := by rfl) : PE X (.Call (.Name x p) (e :: es) [] pos) (tCB r t) := by
  intro pins s σ H Q I h
  refine wpAny_Call_Name_kw (ld_blt I hg hm hv ?_ hn hdb)
  exact PyProof.Rows.callWith_type1 (thn (ha pos pins s σ H _ I h) fun us s1 ⟨vs, H1, I1, r1, q1⟩ => hc pins s1 σ H1 vs us Q I1 r1 q1) he hpl
end
end L2
namespace HT
open PySem PyProof.Rows
section
open PySem.SeqAt
open PySem.AutoSeq1 (wpAny_loadPart')
open PySem.MeetsSeq PySem.MeetsSeq2 PySem.MeetsSeq3
end
section
variable {prog : Program} {w : World} {A : Around} {E : Value → Shared → Prop} {s : Shared}
theorem cat_tup {t b : Addr} {vs ws : List Value} {Q : Value → Shared → Prop} (ht : IsTup s.heap t vs.toArray) (hb : IsTup s.heap b ws.toArray) (hv : vs ≠ [])
    (h1 : ws = [] → Q (.ref t) s) (h2 : ws ≠ [] → Q (.ref s.heap.objs.size) { s with heap := s.heap.push { cls := .type "tuple", data := .seq (vs ++ ws).toArray } })
    (hsz : vs.length + ws.length ≤ sizeLine) : wpAny (model prog w) A (binaryOp .Add (.ref t) (.ref b)) Q E s := by
  obtain ⟨⟨cls, dd, data, sl⟩, ho, hc, n, hd⟩ := id ht
  obtain ⟨⟨cls2, dd2, data2, sl2⟩, ho2, hc2, n2, hd2⟩ := id hb
  simp only at hc hd hc2 hd2
  subst hc hd hc2 hd2
  have e : vs.toArray ++ ws.toArray = (vs ++ ws).toArray := by simp
  by_cases hw : ws = []
  · exact concat_meets ⟨_, ho, rfl⟩ ⟨_, ho2, rfl⟩ noFill_tuple_add seq_tuple_add PySem.F.slot_tuple_add PySem.F.entry_tuple_add (PySem.F.args_tuple_add_2 _ _)
      (tuple_addW1 t b vs.toArray ws.toArray n n2 dd dd2 sl sl2 (by simpa using hv) (by simp [hw])) ⟨ho, ho2, h1 hw⟩
  · refine concat_meets ⟨_, ho, rfl⟩ ⟨_, ho2, rfl⟩ noFill_tuple_add seq_tuple_add PySem.F.slot_tuple_add PySem.F.entry_tuple_add (PySem.F.args_tuple_add_2 _ _)
      (tuple_addW2 t b vs.toArray ws.toArray n n2 dd dd2 sl sl2 (by simpa using hv) (by simpa using hw) (by rw [List.size_toArray, List.size_toArray]; exact hsz)) ⟨ho, ho2, ?_⟩
    rw [e]
    exact h2 hw
def sIx (n d : Nat) : Option Int → Nat
  | none => d
  | some v => if v < 0 then (v + (n : Int)).toNat else min v.toNat n
theorem sIx_le (n d : Nat) (hd : d ≤ n) (o : Option Int) : sIx n d o ≤ n := by
  cases o with
  | none => exact hd
  | some v =>
    show (if v < 0 then (v + (n : Int)).toNat else min v.toNat n) ≤ n
    by_cases hv : v < 0
    · rw [if_pos hv]; omega
    · rw [if_neg hv]; exact Nat.min_le_right _ _
theorem clip_eq (v : Int) (n d : Nat) : (if v < 0 then max (v + (n : Int)) 0 else min v (n : Int)) = ((sIx n d (some v) : Nat) : Int) := by
  show (if v < 0 then max (v + (n : Int)) 0 else min v (n : Int)) = (((if v < 0 then (v + (n : Int)).toNat else min v.toNat n) : Nat) : Int)
  by_cases hv : v < 0
  · simp only [if_pos hv]; omega
  · simp only [if_neg hv]; omega
theorem adjust_gen (lo hi : Option Int) (n : Nat) : Builtin.Slice.sliceAdjust lo hi 1 (n : Int) = (((sIx n 0 lo : Nat) : Int), ((sIx n n hi : Nat) : Int)) := by
  have h1 : ¬ ((1 : Int) < 0) := by omega
  unfold Builtin.Slice.sliceAdjust
  simp only [h1, if_false]
  refine Prod.ext ?_ ?_
  · cases lo with
    | none => rfl
    | some v => exact clip_eq v n 0
  · cases hi with
    | none => rfl
    | some v => exact clip_eq v n n
theorem places_gen (i j : Nat) : Builtin.Slice.slicePlaces (i : Int) (j : Int) 1 = j - i := by
  unfold Builtin.Slice.slicePlaces
  have h1 : (1 : Int) > 0 := by omega
  simp only [h1, if_true, Int.ediv_one]
  split <;> omega
theorem slicePart_ {v : Value} {o : Option Int} {Q : Option Int → Shared → Prop} (p : IsPart v o) (h : Q o s) : wpAny (model prog w) A (Builtin.Slice.slicePartIndex v) Q E s := by
  cases p with
  | none => exact slicePart_none h
  | int i t => exact slicePart_int h
theorem sliceApplied_gen {sl : Addr} {vl vu : Value} {lo hi : Option Int} {n : Nat} {Q : Int × Int × Nat → Shared → Prop} (hs : s.heap.IsSliceOf sl vl vu .none) (pl : IsPart vl lo) (pu : IsPart vu hi)
    (h : Q (((sIx n 0 lo : Nat) : Int), 1, sIx n n hi - sIx n 0 lo) s) : wpAny (model prog w) A (Builtin.Slice.sliceApplied (.ref sl) (pure (n : Int))) Q E s := by
  obtain ⟨os, hos, hcs, hds⟩ := id hs
  unfold Builtin.Slice.sliceApplied Builtin.Slice.sliceFields
  refine wpAny_bind (wpAny_bind (wpAny_field hos hds (x := vl) rfl (wpAny_bind (wpAny_field hos hds (x := vu) rfl (wpAny_bind (wpAny_field hos hds (x := .none) rfl (wpAny_pure ?_)))))))
  refine wpAny_bind (slicePart_none ?_)
  show wpAny _ _ (if ((1 : Int) == 0) = true then _ else _) _ _ s
  rw [if_neg (by decide)]
  refine wpAny_bind (slicePart_ pl (wpAny_bind (slicePart_ pu (wpAny_bind (wpAny_pure ?_)))))
  show wpAny _ _ (match Builtin.Slice.sliceAdjust lo hi 1 (n : Int) with | (lo, hi) => pure (lo, (1 : Int), Builtin.Slice.slicePlaces lo hi 1)) _ _ s
  rw [adjust_gen lo hi n]
  show wpAny _ _ (pure (((sIx n 0 lo : Nat) : Int), (1 : Int), Builtin.Slice.slicePlaces ((sIx n 0 lo : Nat) : Int) ((sIx n n hi : Nat) : Int) 1)) _ _ s
  rw [places_gen]
  exact wpAny_pure h
theorem pick_gen (xs : Array Value) (i k : Nat) : ((List.range k).filterMap fun (m : Nat) => xs[((i : Int) + (m : Int) * 1).toNat]?).toArray = ((xs.toList.drop i).take k).toArray := by
  have e : (fun (m : Nat) => xs[((i : Int) + (m : Int) * 1).toNat]?) = fun m => xs[i + m]? := by
    funext m
    have : ((i : Int) + (m : Int) * 1).toNat = i + m := by omega
    rw [this]
  rw [e]
  have := pick_run xs i k
  rw [List.filterMap_map] at this
  have e2 : ((fun x => xs[x]?) ∘ fun x => i + x) = fun m => xs[i + m]? := rfl
  rw [e2] at this
  rw [this]
theorem getItem_tuple_cut {t sl : Addr} {items : Array Value} {vl vu : Value} {lo hi : Option Int} {Q : Value → Shared → Prop} (ht : IsTup s.heap t items) (hs : s.heap.IsSliceOf sl vl vu .none) (pl : IsPart vl lo) (pu : IsPart vu hi)
    (hw : ¬ (sIx items.size 0 lo = 0 ∧ sIx items.size items.size hi = items.size))
    (h : Q (.ref s.heap.objs.size) { s with heap := s.heap.push { cls := .type "tuple", data := .seq ((items.toList.drop (sIx items.size 0 lo)).take (sIx items.size items.size hi - sIx items.size 0 lo)).toArray } })
    (hsz : items.size ≤ sizeLine) : wpAny (model prog w) A (getItem (.ref t) (.ref sl)) Q E s := by
  have htake : sizeOk (.seq ((items.toList.drop (sIx items.size 0 lo)).take (sIx items.size items.size hi - sIx items.size 0 lo)).toArray) := by
    show ((items.toList.drop (sIx items.size 0 lo)).take (sIx items.size items.size hi - sIx items.size 0 lo)).toArray.size ≤ sizeLine
    rw [List.size_toArray, List.length_take, List.length_drop, Array.length_toList]
    omega
  have hj : sIx items.size items.size hi ≤ items.size := sIx_le _ _ (Nat.le_refl _) hi
  obtain ⟨os, hos, hcs, hds⟩ := id hs
  have hTs : s.TypeIs (.ref sl) "slice" := ⟨os, hos, hcs⟩
  unfold getItem
  try with_reducible refine wpAny_holding ?_
  first | refine wpAny_bind (wpAny_pure ?_) | skip
  refine wpAny_bind (wpAny_sequenceKey ht.typeIs (by decide) ?_)
  refine wpAny_bind (wpAny_callSpecial?_slot (name := Str.ofString "__getitem__") ht.typeIs PyProof.Rows.slot_tuple_getitem
    (wpAny_call_entry PyProof.Rows.slot_tuple_getitem ht.typeIs entry_tuple_getitem ?_ (args_tuple_getitem _ _)))
  show wpAny _ _ (Builtin.Tuple.tupleItemsOf (.ref t) >>= _) _ _ s
  refine wpAny_bind (tupleItemsOf_ ht ?_)
  refine wpAny_bind (wpAny_typeOf hTs ?_)
  rw [if_pos (by decide)]
  refine wpAny_bind (sliceApplied_gen hs pl pu ?_)
  have hno : ¬ ((((sIx items.size 0 lo : Nat) : Int) == 0 && (1 : Int) == 1 && (sIx items.size items.size hi - sIx items.size 0 lo) == items.size) = true) := by
    intro q
    rw [Bool.and_eq_true, Bool.and_eq_true] at q
    have q1 : ((sIx items.size 0 lo : Nat) : Int) = 0 := eq_of_beq q.1.1
    have q2 : sIx items.size items.size hi - sIx items.size 0 lo = items.size := eq_of_beq q.2
    exact hw ⟨by omega, by omega⟩
  show wpAny _ _ (if (((sIx items.size 0 lo : Nat) : Int) == 0 && (1 : Int) == 1 && (sIx items.size items.size hi - sIx items.size 0 lo) == items.size) = true then _ else _) _ _ s
  rw [if_neg hno, pick_gen]
  first
    | exact wpAny_bind (m := Builtin.Tuple.tupleExact _) (wpAny_newObj_type (wpAny_pure ⟨_, rfl, wpAny_pure h⟩) htake)
    | exact wpAny_bind (m := Builtin.Tuple.tupleExact _) (wpAny_newObj_type (wpAny_bind (wpAny_pure (wpAny_pure ⟨_, rfl, wpAny_pure h⟩))) htake)
    | exact wpAny_bind (wpAny_bind (m := Builtin.Tuple.tupleExact _) (wpAny_newObj_type (wpAny_pure (wpAny_pure ⟨_, rfl, wpAny_pure h⟩)) htake))
    | exact wpAny_bind (wpAny_bind (m := Builtin.Tuple.tupleExact _) (wpAny_newObj_type (wpAny_pure ⟨_, rfl, wpAny_pure h⟩) htake))
end
end HT
namespace L2
open PySem PySem.Spec PyProof.Rows
abbrev TO := St → Hp → (Option Int → Hp → Prop) → Prop
def PO (X : Cx) (e : Option Expr) (t : TO) : Prop :=
  ∀ (pins : List (Addr × Obj)) (s : Shared) (σ : St) (H : Hp) (Q : Option Int → Hp → Prop), Inv X pins σ H s → t σ H Q →
    wpAny (model X.prog X.w) X.A (evalPart e X.env) (fun u s' => ∃ o H', Inv X pins σ H' s' ∧ IsPart u o ∧ Q o H') X.xe s
def tNoPart : TO := fun _ H Q => Q none H
def tPart (t : TE) : TO := fun σ H Q => t σ H fun x H1 => ∃ i, x = .int i ∧ Q (some i) H1
theorem intsAre_of {ns : List Int} : ∀ {us : List Value}, Vals (ns.map V.int) us → IntsAre us ns := by
  induction ns with
  | nil => intro us r; rw [List.map_nil] at r; cases r; exact .nil
  | cons n ns ih =>
    intro us r
    rw [List.map_cons] at r
    cases r with
    | cons r1 r2 =>
      obtain ⟨t, e⟩ := r1
      subst e
      exact .cons n t (ih r2)
section
variable {X : Cx} {e : Expr} {te : TE} {lo hi : Option Expr} {tl th : TO} {pos p2 : Pos}
theorem po_none : PO X none tNoPart := by
  intro pins s σ H Q I h
  rw [evalPart_none]
  exact wpAny_pure ⟨none, H, I, .none, h⟩
theorem po_some (h : PE X e te) : PO X (some e) (tPart te) := by
  intro pins s σ H Q I hw
  rw [evalPart_some]
  refine thn (h pins s σ H _ I hw) fun u s1 ⟨x, H1, I1, r1, q1⟩ => ?_
  obtain ⟨i, rfl, q⟩ := q1
  obtain ⟨t, rfl⟩ := r1
  exact ⟨some i, H1, I1, .int i t, q⟩
def SlR (X : Cx) (r : V → Option Int → Option Int → Hp → VK → Prop) : Prop :=
  ∀ (pins : List (Addr × Obj)) (s : Shared) (σ : St) (H : Hp) (x : V) (v vl vu : Value) (lo hi : Option Int) (sl : Addr) (Q : VK), Inv X pins σ H s → RelV x v → s.heap.IsSliceOf sl vl vu .none → IsPart vl lo → IsPart vu hi → r x lo hi H Q →
    ∃ T id, typeLookup (.type T) "__getitem__" = pure (some (.builtin id)) ∧ s.TypeIs v T ∧ wpAny (model X.prog X.w) X.A (getItem v (.ref sl)) (EP X pins σ Q) X.xe s
theorem SlR.or {r r' : V → Option Int → Option Int → Hp → VK → Prop} (h : SlR X r) (h' : SlR X r') : SlR X (fun x lo hi H Q => r x lo hi H Q ∨ r' x lo hi H Q) := by
  intro pins s σ H x v vl vu lo hi sl Q I rx hs pl pu q
  rcases q with q | q
  · exact h pins s σ H x v vl vu lo hi sl Q I rx hs pl pu q
  · exact h' pins s σ H x v vl vu lo hi sl Q I rx hs pl pu q
def tSl (r : V → Option Int → Option Int → Hp → VK → Prop) (te : TE) (tl th : TO) : TE := fun σ H Q => te σ H fun x H1 => tl σ H1 fun l H2 => th σ H2 fun u H3 => r x l u H3 Q
theorem pe_slice {r : V → Option Int → Option Int → Hp → VK → Prop} (hr : SlR X r) (he : PE X e te) (hl : PO X lo tl) (hu : PO X hi th) : PE X (.Subscript e (.Slice lo hi none p2) pos) (tSl r te tl th) := by
  intro pins s σ H Q I h
  refine Subscript_ (thn (he pins s σ H _ I h) fun v s1 ⟨x, H1, I1, r1, q1⟩ => ?_)
  refine wpAny_Slice (thn (hl pins s1 σ H1 _ I1 q1) fun vl s2 ⟨l, H2, I2, pl, q2⟩ => thn (hu pins s2 σ H2 _ I2 q2) fun vu s3 ⟨u, H3, I3, pu, q3⟩ => ?_)
  rw [evalPart_none]
  refine wpAny_pure ?_
  have I4 : Inv X pins σ H3 { s3 with heap := s3.heap.push { cls := .type "slice", data := .fields #[vl, vu, .none] } } := I3.kept (t' := s3.toks) fun b ob q => Heap.get?_push_of_some _ q
  obtain ⟨T, id, hT, ht, hg⟩ := hr pins { s3 with heap := s3.heap.push { cls := .type "slice", data := .fields #[vl, vu, .none] } } σ H3 x v vl vu l u s3.heap.objs.size Q I4 r1 (Heap.IsSliceOf.new ..) pl pu q3
  show wpAny (model X.prog X.w) X.A (subscriptTail e (.Slice lo hi none p2) v (.ref s3.heap.objs.size)) (EP X pins σ Q) X.xe { s3 with heap := s3.heap.push { cls := .type "slice", data := .fields #[vl, vu, .none] } }
  exact tail_any (ops := [.ref s3.heap.objs.size, v]) ht hT hg (by with_unfolding_all rfl)
def cutV (xs : List V) (lo hi : Option Int) : List V := (xs.drop (HT.sIx xs.length 0 lo)).take (HT.sIx xs.length xs.length hi - HT.sIx xs.length 0 lo)
theorem cutV_length (xs : List V) (lo hi : Option Int) : (cutV xs lo hi).length ≤ xs.length := by
  unfold cutV
  rw [List.length_take, List.length_drop]
  omega
def rSlT (K : PySem.W.Frag) : V → Option Int → Option Int → Hp → VK → Prop := fun x lo hi H Q => ∃ a xs, x = .ref a ∧ SqT K H a xs ∧
  ¬ (HT.sIx xs.length 0 lo = 0 ∧ HT.sIx xs.length xs.length hi = xs.length) ∧ ∀ p, H p = none → Q (.ref p) (upd H p (.tup (cutV xs lo hi)))
theorem sl_tup : SlR X (rSlT X.K) := by
  intro pins s σ H x v vl vu lo hi sl Q I rx hs pl pu h
  obtain ⟨a, xs, rfl, hx, hw, q⟩ := h
  cases rx
  obtain ⟨its, r, ht, hz⟩ := I.tuple hx
  have hlen : its.toArray.size = xs.length := by rw [List.size_toArray]; exact r.length.symm
  refine ⟨"tuple", _, PyProof.Rows.slot_tuple_getitem.lookup, ht.typeIs, ?_⟩
  refine HT.getItem_tuple_cut ht hs pl pu (by rw [hlen]; exact hw) ?_ (by rw [hlen]; exact hz)
  rw [hlen]
  refine ⟨.ref s.heap.objs.size, _, I.laid (t' := s.toks) (o := .tup (cutV xs lo hi)) (fun b ob q => Heap.get?_push_of_some _ q) (Nat.le_refl _) ?_, rfl, q _ (I.hok.fresh (Nat.le_refl _))⟩
  exact ⟨Nat.le_trans (cutV_length xs lo hi) hz, _, (r.drop (HT.sIx xs.length 0 lo)).take (HT.sIx xs.length xs.length hi - HT.sIx xs.length 0 lo), IsTupD.new _ _⟩
theorem Vals.nil_iff {xs : List V} {us : List Value} (r : Vals xs us) : us = [] ↔ xs = [] := by
  cases r with
  | nil => simp
  | cons _ _ => simp
end
end L2
namespace L2
open PySem PySem.Spec PyProof.Rows
def ixN (n : Nat) (i : Int) : Option Nat := if 0 ≤ i then (if i < n then some i.toNat else none) else if -(n : Int) ≤ i then some (i + n).toNat else none
def atI {α : Type} (xs : List α) (i : Int) : Option α := (ixN xs.length i).bind fun j => xs[j]?
theorem ixN_seq {n : Nat} {i : Int} {j : Nat} (h : ixN n i = some j) : seqIndex? i n = some j ∧ j < n ∧ -(n : Int) ≤ i ∧ i < n := by
  unfold ixN at h
  by_cases h0 : 0 ≤ i
  · rw [if_pos h0] at h
    by_cases h1 : i < n
    · rw [if_pos h1] at h
      have e : i.toNat = j := Option.some.inj h
      exact ⟨by rw [seqIndex_of h0 h1, e], by omega, by omega, h1⟩
    · rw [if_neg h1] at h; cases h
  · rw [if_neg h0] at h
    by_cases h1 : -(n : Int) ≤ i
    · rw [if_pos h1] at h
      have e : (i + n).toNat = j := Option.some.inj h
      exact ⟨by rw [seqIndex_neg (by omega) h1, e], by omega, h1, by omega⟩
    · rw [if_neg h1] at h; cases h
theorem atI_get {α : Type} {xs : List α} {i : Int} {v : α} (h : atI xs i = some v) : ∃ j, seqIndex? i xs.length = some j ∧ xs[j]? = some v ∧ j < xs.length ∧ -(xs.length : Int) ≤ i ∧ i < xs.length := by
  unfold atI at h
  cases e : ixN xs.length i with
  | none => rw [e] at h; cases h
  | some j =>
    rw [e] at h
    obtain ⟨h1, h2, h3, h4⟩ := ixN_seq e
    exact ⟨j, h1, h, h2, h3, h4⟩
theorem atI_nat {α : Type} {xs : List α} {j : Nat} {v : α} (h : xs[j]? = some v) : atI xs (j : Int) = some v := by
  have hj : j < xs.length := (List.getElem?_eq_some_iff.mp h).1
  have e : ixN xs.length (j : Int) = some j := by
    unfold ixN
    rw [if_pos (by omega), if_pos (by omega)]; simp
  unfold atI; rw [e]; exact h
def PlainIx (b : Expr) : Prop := ∀ o i, subscripted b false o i = operate [o, i] (getItem o i)
def IxR (X : Cx) (r : R2) : Prop :=
  ∀ (value slice : Expr) (pins : List (Addr × Obj)) (s : Shared) (σ : St) (H : Hp) (x y : V) (v u : Value) (Q : VK), Inv X pins σ H s → RelV x v → RelV y u → r x y H Q →
    subscripted slice false v u = operate [v, u] (getItem v u) → wpAny (model X.prog X.w) X.A (subscriptTail value slice v u) (EP X pins σ Q) X.xe s
def MtR (X : Cx) (id : String) (r : V → List V → Hp → VK → Prop) : Prop :=
  ∀ (pins : List (Addr × Obj)) (s : Shared) (σ : St) (H : Hp) (x : V) (xs : List V) (v : Value) (us : List Value) (Q : VK), Inv X pins σ H s → RelV x v → Vals xs us → r x xs H Q →
    wpAny (model X.prog X.w) X.A (call (.builtin id) (v :: us)) (EP X pins σ Q) X.xe s
section
variable {X : Cx} {a b : Expr} {ta tb : TE} {pos : Pos}
theorem IxR.or {r r' : R2} (h : IxR X r) (h' : IxR X r') : IxR X (fun x y H Q => r x y H Q ∨ r' x y H Q) := by
  intro value slice pins s σ H x y v u Q I rx ry q hs
  rcases q with q | q
  · exact h value slice pins s σ H x y v u Q I rx ry q hs
  · exact h' value slice pins s σ H x y v u Q I rx ry q hs
theorem MtR.or {id : String} {r r' : V → List V → Hp → VK → Prop} (h : MtR X id r) (h' : MtR X id r') : MtR X id (fun x xs H Q => r x xs H Q ∨ r' x xs H Q) := by
  intro pins s σ H x xs v us Q I rx rs q
  rcases q with q | q
  · exact h pins s σ H x xs v us Q I rx rs q
  · exact h' pins s σ H x xs v us Q I rx rs q
theorem pe_ix {r : R2} (hr : IxR X r) (ha : PE X a ta) (hb : PE X b tb) (hs : PlainIx b) : PE X (.Subscript a b pos) (tOp r ta tb) := by
  intro pins s σ H Q I h
  exact Subscript_ (binT ha hb I h fun v u s2 x y H2 I2 rx ry q => hr a b pins s2 σ H2 x y v u Q I2 rx ry q (hs _ _))
def rIxL (K : PySem.W.Frag) : R2 := fun x y H Q => ∃ p xs i v, x = .ref p ∧ y = .int i ∧ SqL K H p xs ∧ atI xs i = some v ∧ Q v H
def rIxT (K : PySem.W.Frag) : R2 := fun x y H Q => ∃ p xs i v, x = .ref p ∧ y = .int i ∧ SqT K H p xs ∧ atI xs i = some v ∧ Q v H
theorem ix_list : IxR X (rIxL X.K) := by
  intro value slice pins s σ H x y v u Q I rx ry h hs
  obtain ⟨p, xs, i, z, rfl, rfl, hq, he, q⟩ := h
  cases rx
  obtain ⟨t, rfl⟩ := ry
  obtain ⟨its, r, pl, hz⟩ := I.list hq
  obtain ⟨j, h1, h2, h3, h4, h5⟩ := atI_get he
  obtain ⟨w, ew, rw'⟩ := r.get h2
  have hl := r.length
  have hn := line63
  have fin : EP X pins σ Q w s := ⟨z, H, I, rw', q⟩
  by_cases h0 : 0 ≤ i
  · have hj : i.toNat = j := by
      rw [seqIndex_of h0 h5] at h1
      exact Option.some.inj h1
    exact item_listR pl.isList h0 (by omega) (by rw [hj]; simpa using ew) fin hs
  · have hj : (i + (its.toArray.size : Int)).toNat = j := by
      rw [seqIndex_neg (by omega) h4] at h1
      rw [List.size_toArray, ← hl]
      exact Option.some.inj h1
    exact subscriptTail_builtinR (x := w) pl.isList.typeIs slot_list_getitem.lookup
      (wpAny_getItem_list_neg (Q := fun r s' => r = w ∧ EP X pins σ Q r s') pl.isList (by omega) (by rw [List.size_toArray] <;> omega) (by omega) (by rw [hj]; simpa using ew) ⟨rfl, fin⟩) hs
theorem ix_tup : IxR X (rIxT X.K) := by
  intro value slice pins s σ H x y v u Q I rx ry h hs
  obtain ⟨p, xs, i, z, rfl, rfl, hq, he, q⟩ := h
  cases rx
  obtain ⟨t, rfl⟩ := ry
  obtain ⟨its, r, pl, hz⟩ := I.tuple hq
  obtain ⟨j, h1, h2, h3, h4, h5⟩ := atI_get he
  obtain ⟨w, ew, rw'⟩ := r.get h2
  have hl := r.length
  have hn := line63
  have fin : EP X pins σ Q w s := ⟨z, H, I, rw', q⟩
  exact subscriptTail_builtinR (x := w) pl.typeIs slot_tuple_getitem.lookup
    (getItem_tuple (j := j) (Q := fun r s' => r = w ∧ EP X pins σ Q r s') pl (by omega) (by omega) (by rw [List.size_toArray, ← hl]; exact h1) (by simpa using ew) ⟨rfl, fin⟩) hs
theorem mapSeq_set (its : List Value) (n j : Nat) (u : Value) : Obj.mapSeq (·.setIfInBounds j u) { cls := .type "list", data := .seq its.toArray n } = { cls := .type "list", data := .seq (its.set j u).toArray n } := by
  simp [Obj.mapSeq]
theorem Inv.lst {pins : List (Addr × Obj)} {σ : St} {H : Hp} {s : Shared} {p : Addr} {xs : List V} (I : Inv X pins σ H s) (h : H p = some (.lst xs)) :
    ∃ (its : List Value) (n : Nat), Vals xs its ∧ s.heap.get? p = some { cls := .type "list", data := .seq its.toArray n } ∧ xs.length ≤ sizeLine := by
  obtain ⟨z, its, n, r, e⟩ := I.hok p _ h
  exact ⟨its, n, r, e, z⟩
theorem Inv.lstUpd {pins : List (Addr × Obj)} {σ : St} {H : Hp} {s : Shared} {p : Addr} {xs ys : List V} {its its' : List Value} {n n' : Nat} {f : Obj → Obj} (I : Inv X pins σ H s) (h : H p = some (.lst xs))
    (ho : s.heap.get? p = some { cls := .type "list", data := .seq its.toArray n }) (hf : f { cls := .type "list", data := .seq its.toArray n } = { cls := .type "list", data := .seq its'.toArray n' }) (r : Vals ys its') (hz : ys.length ≤ sizeLine) (t : Nat) :
    Inv X pins σ (upd H p (.lst ys)) { s with heap := s.heap.update p f, toks := t } := by
  have e : (s.heap.update p f).get? p = some { cls := .type "list", data := .seq its'.toArray n' } := by
    rw [Heap.get?_update_self f ho (by rw [hf] <;> rfl), hf]
  refine I.write (x := p) (e := p) (by rw [h]; trivial) (.inl rfl) (fun b u hb q => (Heap.get?_update_other _ _ (Ne.symm hb)).trans q) ⟨_, e⟩ ?_
  exact ⟨hz, its', n', r, e⟩
def rSetL : V → V → V → Hp → (Hp → Prop) → Prop := fun o i v H Q => ∃ p xs k j, o = .ref p ∧ i = .int k ∧ H p = some (.lst xs) ∧ ixN xs.length k = some j ∧ Q (upd H p (.lst (xs.set j v)))
theorem set_list : PSet X rSetL := by
  intro pins s σ H o i v ov iv u Q I ro ri rv h
  obtain ⟨p, xs, k, j, rfl, rfl, hp, hj, q⟩ := h
  cases ro
  obtain ⟨t, rfl⟩ := ri
  obtain ⟨its, n, r, ho, hz⟩ := I.lst hp
  obtain ⟨h1, h2, h3, h4⟩ := ixN_seq hj
  have hl := r.length
  have hn := line63
  have I' : Inv X pins σ (upd H p (.lst (xs.set j v))) { s with heap := s.heap.update p (Obj.mapSeq (·.setIfInBounds j u)) } :=
    I.lstUpd hp ho (mapSeq_set its n j u) (r.set rv j) (by rw [List.length_set]; exact hz) s.toks
  by_cases h0 : 0 ≤ k
  · have hk : k.toNat = j := by
      rw [seqIndex_of h0 h4] at h1
      exact Option.some.inj h1
    exact PySem.W.ki_setAt ho h0 (by omega) (by rw [List.size_toArray, ← hl]; exact h4) (by rw [hk]; exact ⟨_, I', q⟩)
  · have hk : (k + (its.toArray.size : Int)).toNat = j := by
      rw [seqIndex_neg (by omega) h3] at h1
      rw [List.size_toArray, ← hl]
      exact Option.some.inj h1
    exact PySem.W.ki_setBack ho (by omega) (by rw [List.size_toArray, ← hl]; exact h3) (by omega) (by rw [hk]; exact ⟨_, I', q⟩)
theorem slice_bounds (lo hi : Option Int) (n : Nat) : (sliceBounds lo hi none n).1 = ((HT.sIx n 0 lo : Nat) : Int) ∧ (sliceBounds lo hi none n).2.1 = ((HT.sIx n n hi : Nat) : Int) ∧ (sliceBounds lo hi none n).2.2 = 1 := by
  refine ⟨?_, ?_, rfl⟩
  · cases lo with
    | none => simp [sliceBounds, HT.sIx]
    | some i =>
      simp only [sliceBounds, HT.sIx, Option.getD_none, show (1 : Int) > 0 by decide, if_true]
      by_cases h : i < 0
      · simp only [h, if_true] <;> omega
      · simp only [h, if_false] <;> omega
  · cases hi with
    | none => simp [sliceBounds, HT.sIx]
    | some i =>
      simp only [sliceBounds, HT.sIx, Option.getD_none, show (1 : Int) > 0 by decide, if_true]
      by_cases h : i < 0
      · simp only [h, if_true] <;> omega
      · simp only [h, if_false] <;> omega
theorem slicePick_cut (its : List Value) (lo hi : Option Int) : slicePick its.toArray lo hi none = ((its.drop (HT.sIx its.length 0 lo)).take (HT.sIx its.length its.length hi - HT.sIx its.length 0 lo)).toArray := by
  obtain ⟨h1, h2, h3⟩ := slice_bounds lo hi its.toArray.size
  unfold slicePick
  rw [h1, h2, h3]
  simp only [sliceRange_one, pick_run, List.size_toArray] <;> rfl
def rSlL (K : PySem.W.Frag) : V → Option Int → Option Int → Hp → VK → Prop := fun x lo hi H Q => ∃ a xs, x = .ref a ∧ SqL K H a xs ∧ ∀ p, H p = none → Q (.ref p) (upd H p (.lst (cutV xs lo hi)))
theorem sl_list : SlR X (rSlL X.K) := by
  intro pins s σ H x v vl vu lo hi sl Q I rx hs pl pu h
  obtain ⟨a, xs, rfl, hx, q⟩ := h
  cases rx
  obtain ⟨its, r, ht, hz⟩ := I.list hx
  have hlen := r.length
  refine ⟨"list", _, slot_list_getitem.lookup, ht.isList.typeIs, ?_⟩
  refine wpAny_getItem_list_slice ht.isList hs pl pu .none (by simp) ?_ (by rw [List.size_toArray] <;> omega)
  rw [slicePick_cut, ← hlen]
  refine ⟨.ref s.heap.objs.size, _, I.laid (t' := s.toks) (o := .lst (cutV xs lo hi)) (fun b ob q => Heap.get?_push_of_some _ q) (Nat.le_refl _) ?_, rfl, q _ (I.hok.fresh (Nat.le_refl _))⟩
  exact ⟨Nat.le_trans (cutV_length xs lo hi) hz, _, 0, (r.drop (HT.sIx xs.length 0 lo)).take (HT.sIx xs.length xs.length hi - HT.sIx xs.length 0 lo), Heap.get?_push_size _ rfl⟩
def flatV : V → Bool
  | .non => true
  | .bl _ => true
  | .int _ => true
  | .str _ => true
  | _ => false
def eqV : V → V → Bool
  | .non, .non => true
  | .bl a, .bl b => a == b
  | .bl a, .int b => (if a then 1 else 0) == b
  | .int a, .bl b => a == (if b then 1 else 0)
  | .int a, .int b => a == b
  | .str a, .str b => a == b
  | _, _ => false
theorem eqAt_V {A : Around} {s : Shared} {y x : V} {u v : Value} (ry : RelV y u) (rx : RelV x v) (fy : flatV y = true) (fx : flatV x = true) : SeqAt.EqAt A s u v (eqV y x) := by
  cases y with
  | non =>
    cases ry
    cases x with
    | non => cases rx; exact SeqAt.EqAt.same _
    | bl b => cases rx; exact SeqAt.EqAt.none_bool b
    | int b => obtain ⟨t, rfl⟩ := rx; exact SeqAt.EqAt.none_int b t
    | str b => obtain ⟨t, rfl⟩ := rx; exact SeqAt.EqAt.none_str b t
    | _ => exact absurd (show false = true from fx) Bool.false_ne_true
  | bl a =>
    cases ry
    cases x with
    | non => cases rx; exact SeqAt.EqAt.bool_none a
    | bl b => cases rx; exact SeqAt.EqAt.bool_bool a b
    | int b => obtain ⟨t, rfl⟩ := rx; exact SeqAt.EqAt.bool_int a b t
    | str b => obtain ⟨t, rfl⟩ := rx; exact SeqAt.EqAt.bool_str a b t
    | _ => exact absurd (show false = true from fx) Bool.false_ne_true
  | int a =>
    obtain ⟨t', rfl⟩ := ry
    cases x with
    | non => cases rx; exact SeqAt.EqAt.int_none a t'
    | bl b => cases rx; exact SeqAt.EqAt.int_bool a t' b
    | int b => obtain ⟨t, rfl⟩ := rx; exact SeqAt.EqAt.int_int a t' b t
    | str b => obtain ⟨t, rfl⟩ := rx; exact SeqAt.EqAt.int_str a t' b t
    | _ => exact absurd (show false = true from fx) Bool.false_ne_true
  | str a =>
    obtain ⟨t', rfl⟩ := ry
    cases x with
    | non => cases rx; exact SeqAt.EqAt.str_none a t'
    | bl b => cases rx; exact SeqAt.EqAt.str_bool a t' b
    | int b => obtain ⟨t, rfl⟩ := rx; exact SeqAt.EqAt.str_int a t' b t
    | str b => obtain ⟨t, rfl⟩ := rx; exact SeqAt.EqAt.str_str a t' b t
    | _ => exact absurd (show false = true from fx) Bool.false_ne_true
  | _ => exact absurd (show false = true from fy) Bool.false_ne_true
def eqU (x : V) (u : Value) : Bool := match u with
  | .none => eqV .non x
  | .bool b => eqV (.bl b) x
  | .int i _ => eqV (.int i) x
  | .str z _ => eqV (.str z) x
  | _ => false
theorem eqU_of {x y : V} {u : Value} (r : RelV y u) (f : flatV y = true) : eqU x u = eqV y x := by
  cases y with
  | non => cases r; rfl
  | bl b => cases r; rfl
  | int i => obtain ⟨t, rfl⟩ := r; rfl
  | str z => obtain ⟨t, rfl⟩ := r; rfl
  | _ => exact absurd (show false = true from f) Bool.false_ne_true
theorem any_eqU {x : V} : ∀ {xs : List V} {us : List Value}, Vals xs us → xs.all flatV = true → us.any (eqU x) = xs.any fun y => eqV y x
  | _, _, .nil, _ => rfl
  | y :: xs, u :: us, .cons r t, f => by
    rw [List.all_cons, Bool.and_eq_true] at f
    rw [List.any_cons, List.any_cons, eqU_of r f.1, any_eqU t f.2]
theorem mem_eqAt {A : Around} {s : Shared} {x : V} {v : Value} (rx : RelV x v) (fx : flatV x = true) : ∀ {xs : List V} {us : List Value}, Vals xs us → xs.all flatV = true → ∀ u ∈ us, SeqAt.EqAt A s u v (eqU x u)
  | _, _, .nil, _ => fun u hu => by cases hu
  | y :: xs, u :: us, .cons r t, f => fun u' hu => by
    rw [List.all_cons, Bool.and_eq_true] at f
    rcases List.mem_cons.mp hu with rfl | hu
    · rw [eqU_of r f.1]; exact eqAt_V r rx f.1 fx
    · exact mem_eqAt rx fx t f.2 u' hu
def inV (x : V) (xs : List V) : Bool := xs.any fun y => eqV y x
def rIn (K : PySem.W.Frag) (neg : Bool) : R2 := fun x y H Q => ∃ p xs, y = .ref p ∧ (SqL K H p xs ∨ SqT K H p xs) ∧ flatV x = true ∧ xs.all flatV = true ∧ Q (.bl (if neg then !inV x xs else inV x xs)) H
theorem op_notIn_seq : OpR X (compareOp .NotIn) (rIn X.K true) := by
  intro pins s σ H x y v u Q I rx ry h
  obtain ⟨p, xs, rfl, hq, fx, fs, q⟩ := h
  cases ry
  rcases hq with hq | hq
  · obtain ⟨its, r, pl, hz⟩ := I.list hq
    refine SeqAt.notIn_listAt (eqU x) pl.isList (fun w hw => mem_eqAt rx fx r fs w (by simpa using hw)) ⟨.bl _, H, I, rfl, ?_⟩
    rw [show its.toArray.any (eqU x) = its.any (eqU x) by simp, any_eqU r fs]
    exact q
  · obtain ⟨its, r, pl, hz⟩ := I.tuple hq
    refine SeqAt.notIn_tupleAt (eqU x) pl (fun w hw => mem_eqAt rx fx r fs w (by simpa using hw)) ⟨.bl _, H, I, rfl, ?_⟩
    rw [show its.toArray.any (eqU x) = its.any (eqU x) by simp, any_eqU r fs]
    exact q
theorem call_len_seq : CallR X (.builtin "len") (fun xs H Q => ∃ p ys, xs = [.ref p] ∧ (SqL X.K H p ys ∨ SqT X.K H p ys) ∧ Q (.int ys.length) H) := by
  intro pins s σ H xs us Q I r h
  obtain ⟨p, ys, rfl, hq, q⟩ := h
  obtain ⟨u, rfl, rx⟩ := vals1 r
  cases rx
  have hn := line63
  rcases hq with hq | hq
  · obtain ⟨its, r', pl, hz⟩ := I.list hq
    have hlen := r'.length
    exact Calls.call_len_list pl.isList (by simp only [List.size_toArray] <;> omega) ⟨.int ys.length, H, I.tok _, ⟨s.toks + 1, by rw [List.size_toArray, hlen]⟩, q⟩
  · obtain ⟨its, r', pl, hz⟩ := I.tuple hq
    have hlen := r'.length
    exact len_tuple pl (by simp only [List.size_toArray] <;> omega) ⟨.int ys.length, H, I.tok _, ⟨s.toks + 1, by rw [List.size_toArray, hlen]⟩, q⟩
theorem CallR.or {f : Value} {r r' : List V → Hp → VK → Prop} (h : CallR X f r) (h' : CallR X f r') : CallR X f (fun xs H Q => r xs H Q ∨ r' xs H Q) := by
  intro pins s σ H xs us Q I rs q
  rcases q with q | q
  · exact h pins s σ H xs us Q I rs q
  · exact h' pins s σ H xs us Q I rs q
theorem call_list_of : CallR X (.type "list") (fun xs H Q => ∃ p ys, xs = [.ref p] ∧ (SqL X.K H p ys ∨ SqT X.K H p ys) ∧ ∀ l, H l = none → Q (.ref l) (upd H l (.lst ys))) := by
  intro pins s σ H xs us Q I r h
  obtain ⟨p, ys, rfl, hq, q⟩ := h
  obtain ⟨u, rfl, rx⟩ := vals1 r
  cases rx
  have fin : ∀ (its : List Value), Vals ys its → ys.length ≤ sizeLine → ∀ (h' : Heap) (c' : Nat), (∀ b o', s.heap.get? b = some o' → h'.get? b = some o') →
      h'.get? s.heap.objs.size = some { cls := .type "list", dict := none, data := .seq its.toArray c', slots := #[] } → EP X pins σ Q (.ref s.heap.objs.size) { s with heap := h' } := fun its r' hz h' c' kp e =>
    ⟨.ref s.heap.objs.size, _, I.laid (t' := s.toks) kp (Nat.le_refl _) (show ObjOk X.prog X.w _ h' _ (.lst ys) from ⟨hz, its, c', r', e⟩), rfl, q _ (I.hok.fresh (Nat.le_refl _))⟩
  rcases hq with hq | hq
  · obtain ⟨its, r', pl, hz⟩ := I.list hq
    have hlen := r'.length
    obtain ⟨o, ho, hc, n, hd⟩ := pl.isList
    exact call_list_seq p (.inl rfl) ho hc hd (fun h' c' kp e => fin its r' hz h' c' kp e) (by simp only [List.size_toArray] <;> omega)
  · obtain ⟨its, r', pl, hz⟩ := I.tuple hq
    have hlen := r'.length
    obtain ⟨o, ho, hc, n, hd⟩ := pl
    exact call_list_seq p (.inr rfl) ho hc hd (fun h' c' kp e => fin its r' hz h' c' kp e) (by simp only [List.size_toArray] <;> omega)
theorem call_tuple_of : CallR X (.type "tuple") (fun xs H Q => ∃ p ys, xs = [.ref p] ∧ ((SqL X.K H p ys ∧ ∀ l, H l = none → Q (.ref l) (upd H l (.tup ys))) ∨ (SqT X.K H p ys ∧ Q (.ref p) H))) := by
  intro pins s σ H xs us Q I r h
  obtain ⟨p, ys, rfl, h⟩ := h
  obtain ⟨u, rfl, rx⟩ := vals1 r
  cases rx
  rcases h with ⟨hq, q⟩ | ⟨hq, q⟩
  · obtain ⟨its, r', pl, hz⟩ := I.list hq
    have hlen := r'.length
    refine call_tuple_list pl.isList (fun h' kp => ?_) (by simp only [List.size_toArray] <;> omega)
    have I1 : Inv X pins σ H { s with heap := h' } := I.kept (t' := s.toks) kp
    have I2 : Inv X pins σ (upd H h'.objs.size (.tup ys)) { s with heap := h'.push { cls := .type "tuple", data := .seq its.toArray } } :=
      I1.laid (t' := s.toks) (fun b o e => Heap.get?_push_of_some _ e) (Nat.le_refl _) (show ObjOk X.prog X.w _ _ _ (.tup ys) from ⟨hz, its, r', IsTupD.new _ _⟩)
    exact ⟨.ref h'.objs.size, _, I2, rfl, q _ (I1.hok.fresh (Nat.le_refl _))⟩
  · obtain ⟨its, r', pl, hz⟩ := I.tuple hq
    exact call_tuple_same pl ⟨.ref p, H, I, rfl, q⟩
def tyV (K : PySem.W.Frag) (T : String) (x : V) (H : Hp) : Prop := match x with
  | .str _ => T = "str"
  | .int _ => T = "int"
  | .ref p => (T = "list" ∧ ∃ xs, SqL K H p xs) ∨ (T = "tuple" ∧ ∃ o, K.lookup p = some o ∧ o.cls = .type "tuple" ∧ o.dict = none) ∨
      (T = "dict" ∧ ((∃ kvs, H p = some (.dK kvs)) ∨ ∃ kvs, H p = some (.dT kvs))) ∨ (T = "set" ∧ ∃ S n, H p = some (.set S n))
  | _ => False
theorem tyV_is {pins : List (Addr × Obj)} {σ : St} {H : Hp} {s : Shared} {T : String} {x : V} {v : Value} (I : Inv X pins σ H s) (r : RelV x v) (ty : tyV X.K T x H) :
    s.TypeIs v T ∧ ∀ a, v = .ref a → ∃ ob, s.heap.get? a = some ob ∧ ob.dict = none := by
  cases x with
  | str z =>
    obtain ⟨t, rfl⟩ := r
    cases (show T = "str" from ty)
    exact ⟨typeIs_str s z t, fun _ e => nomatch e⟩
  | int i =>
    obtain ⟨t, rfl⟩ := r
    cases (show T = "int" from ty)
    exact ⟨typeIs_int s i t, fun _ e => nomatch e⟩
  | ref p =>
    cases r
    rcases ty with ⟨rfl, xs, hq⟩ | ⟨rfl, o, hk, hc, hd⟩ | ⟨rfl, hk⟩ | ⟨rfl, S, n, hk⟩
    · obtain ⟨its, _, pl, _⟩ := I.list hq
      refine ⟨pl.isList.typeIs, fun a e => ?_⟩
      cases e
      obtain ⟨o, n, e, c, hd, _⟩ := pl
      exact ⟨o, e, hd⟩
    · refine ⟨⟨o, I.kIn p o hk, hc⟩, fun a e => ?_⟩
      cases e
      exact ⟨o, I.kIn _ o hk, hd⟩
    · have z : ∃ o, s.heap.get? p = some o ∧ o.ExactDict := by
        rcases hk with ⟨kvs, hk⟩ | ⟨kvs, hk⟩
        · obtain ⟨_, _, _, _, o, _, _, e, ex, _⟩ := I.hok p _ hk
          exact ⟨o, e, ex⟩
        · obtain ⟨_, _, _, _, o, _, _, e, ex, _⟩ := I.hok p _ hk
          exact ⟨o, e, ex⟩
      obtain ⟨o, e, ex⟩ := z
      refine ⟨⟨o, e, ex.1⟩, fun a e2 => ?_⟩
      cases e2
      exact ⟨o, e, ex.2.1⟩
    · obtain ⟨o, _, _, _, e, ex, _⟩ := I.hok p _ hk
      refine ⟨⟨o, e, ex.1⟩, fun a e2 => ?_⟩
      cases e2
      exact ⟨o, e, ex.2.1⟩
  | _ => exact False.elim ty
def tBM (K : PySem.W.Frag) (T : String) (r : V → List V → Hp → VK → Prop) (to : TE) (t : TA) : TE := fun σ H Q => to σ H fun x H1 => tyV K T x H1 ∧ t σ H1 fun xs H2 => r x xs H2 Q
variable {o e : Expr} {es : List Expr} {to : TE} {t : TA} {name : Str} {apos cpos : Pos} {T id : String} {r : V → List V → Hp → VK → Prop}
theorem pe_bm (pa : PlainAttrs T) (slot : Slot T name id) (hty : typeOf (.builtin id) = pure (.type "method_descriptor")) (hm : MtR X id r) (ho : PE X o to) (ha : PA X (e :: es) t)
    (hbase : attributeBase o name X.env (eval o X.env) = eval o X.env := by rfl)
    (hfew : ((backTo cpos (starEach (e :: es) X.env)).all (fun x => !x.1) && (backToKw cpos (keywordEach [] X.env)).all (fun x => x.1.isSome)
      && decide ((e :: es).length + ([] : List Keyword).length + (if ([] : List Keyword).isEmpty then 0 else 1) < 30)) = true := by rfl)
    (hline : (apos.endLine == cpos.line) = true := by rfl) (hs : starEach (e :: es) X.env = (false, eval e X.env) :: starEach es X.env := by rfl) (hplain : (backTo cpos (starEach es X.env)).any (·.1) = false := by rfl) :
    PE X (.Call (.Attribute o name apos) (e :: es) [] cpos) (tBM X.K T r to t) := by
  intro pins s σ H Q I h
  refine wpAny_Call_method_late hbase hfew hline rfl (thn (ho pins s σ H _ I h) fun v s1 ⟨x, H1, I1, r1, ty, q1⟩ => ?_)
  obtain ⟨h1, h2⟩ := tyV_is I1 r1 ty
  refine ⟨T, id, pa, slot, hty, h1, h2, ?_⟩
  have hA := ha cpos pins s1 σ H1 _ I1 q1
  rw [hs] at hA ⊢
  refine Calls.callWith_builtin (by show (false || (backTo cpos (starEach es X.env)).any (·.1)) = false; rw [hplain] <;> rfl) (Calls.evalArgs_plain ?_)
  exact thn hA fun us s2 ⟨vs, H2, I2, r2, q2⟩ => hm pins s2 σ H2 x vs v us Q I2 r1 r2 q2
/- xs.append(e), list.index on a module's tuple .. are MtR facts of 06m -/
end
end L2
namespace L2
open PySem PySem.Spec PyProof.Rows
def MtM (X : Cx) (id : String) (r : V → List V → Hp → VK → Prop) : Prop :=
  ∀ (pins : List (Addr × Obj)) (s : Shared) (σ : St) (H : Hp) (x : V) (xs : List V) (v : Value) (us : List Value) (Q : VK), Inv X pins σ H s → RelV x v → Vals xs us → r x xs H Q →
    wpAny (model X.prog X.w) X.A (call (.builtin id) (v :: us)) (EP X pins σ Q) X.xe s
theorem Vals.one : ∀ {x : V} {us : List Value}, Vals [x] us → ∃ u, us = [u] ∧ RelV x u
  | _, _, .cons r .nil => ⟨_, rfl, r⟩
theorem Vals.zero : ∀ {us : List Value}, Vals [] us → us = []
  | _, .nil => rfl
theorem Vals.dropLast {xs : List V} {us : List Value} (h : Vals xs us) : Vals xs.dropLast us.dropLast := by
  induction h with
  | nil => exact .nil
  | cons r t ih =>
    cases t with
    | nil => exact .nil
    | cons q t' => exact .cons r ih
theorem Vals.eraseIdx : ∀ {xs : List V} {us : List Value} (i : Nat), Vals xs us → Vals (xs.eraseIdx i) (us.eraseIdx i)
  | _, _, _, .nil => .nil
  | _, _, 0, .cons _ t => t
  | _, _, i + 1, .cons r t => .cons r (Vals.eraseIdx i t)
theorem Vals.rep {xs : List V} {us : List Value} (h : Vals xs us) : ∀ k : Nat, Vals (List.replicate k xs).flatten (List.replicate k us).flatten
  | 0 => .nil
  | k + 1 => by
    rw [List.replicate_succ, List.replicate_succ, List.flatten_cons, List.flatten_cons]
    exact Vals.append h (Vals.rep h k)
theorem len_erase {α : Type} : ∀ (l : List α) (i : Nat), (l.eraseIdx i).length ≤ l.length
  | [], _ => Nat.le_refl _
  | _ :: _, 0 => Nat.le_succ _
  | _ :: r, i + 1 => Nat.succ_le_succ (len_erase r i)
theorem foldl_rep (its : List Value) : ∀ (k : Nat) (acc : List Value),
    List.foldl (fun x1 x2 => x1 ++ x2) acc.toArray (List.replicate k its.toArray) = (acc ++ (List.replicate k its).flatten).toArray
  | 0, acc => by simp
  | k + 1, acc => by
    have e : acc.toArray ++ its.toArray = (acc ++ its).toArray := by simp
    have e2 : (acc ++ its) ++ (List.replicate k its).flatten = acc ++ (List.replicate (k + 1) its).flatten := by
      rw [List.replicate_succ, List.flatten_cons, List.append_assoc]
    rw [← e2, ← foldl_rep its k (acc ++ its), ← e, List.replicate_succ, List.foldl_cons]
section
variable {X : Cx} {pins : List (Addr × Obj)} {σ : St} {H : Hp} {s : Shared} {l b : Addr} {xs ys zs : List V}
theorem Inv.lset {its its' : List Value} {n : Nat} {f : Array Value → Array Value} {t' : Nat} (I : Inv X pins σ H s) (hH : H l = some (.lst xs))
    (e : s.heap.get? l = some { cls := .type "list", data := .seq its.toArray n }) (hf : f its.toArray = its'.toArray) (hv : Vals ys its') (hz : ys.length ≤ sizeLine) :
    Inv X pins σ (upd H l (.lst ys)) { s with heap := s.heap.update l (Obj.mapSeq f), toks := t' } := by
  have q := PySem.IsL.update e f
  rw [hf] at q
  refine I.write (x := l) (e := l) (by rw [hH]; exact trivial) (.inl rfl) (fun b' u hb hu => (Heap.get?_update_other s.heap (Obj.mapSeq f) (Ne.symm hb)).trans hu) ⟨_, q⟩ ?_
  exact ⟨hz, its', _, hv, q⟩
theorem Inv.fresh (I : Inv X pins σ H s) : H s.heap.objs.size = none := I.hok.fresh (Nat.le_refl _)
theorem Inv.lstM (I : Inv X pins σ H s) (hH : H l = some (.lst xs)) : xs.length ≤ sizeLine ∧ ∃ (its : List Value) (n : Nat), Vals xs its ∧ xs.length = its.length ∧ s.heap.get? l = some { cls := .type "list", data := .seq its.toArray n } := by
  obtain ⟨z, its, n, r, e⟩ := I.hok l _ hH
  exact ⟨z, its, n, r, r.length, e⟩
end
section
variable {X : Cx}
def rAppend : V → List V → Hp → VK → Prop := fun x vs H Q => ∃ l xs y, x = .ref l ∧ vs = [y] ∧ H l = some (.lst xs) ∧ xs.length < sizeLine ∧ Q .non (upd H l (.lst (xs ++ [y])))
theorem mt_append : MtM X "list.append" rAppend := by
  intro pins s σ H x vs v us Q I rx rv h
  obtain ⟨l, xs, y, rfl, rfl, hH, hz, q⟩ := h
  cases rx
  obtain ⟨u, rfl, ru⟩ := rv.one
  obtain ⟨z, its, n, r, hl, e⟩ := I.lstM hH
  refine call_meets F.slot_list_append ⟨_, e, rfl⟩ F.entry_list_append (F.args_list_append_2 _ _) (PySem.list_append l its.toArray n u (by rw [List.size_toArray]; omega)) ⟨e, ?_⟩
  refine ⟨.non, _, I.lset (its' := its ++ [u]) hH e (by simp) (r.append (.cons ru .nil)) ?_, rfl, q⟩
  rw [List.length_append, List.length_singleton]
  omega
def rPopAt : V → List V → Hp → VK → Prop := fun x vs H Q => ∃ l xs i k y, x = .ref l ∧ vs = [.int i] ∧ H l = some (.lst xs) ∧ -(2 ^ 63) ≤ i ∧ i < 2 ^ 63 ∧ seqIndex? i xs.length = some k ∧ xs[k]? = some y ∧ Q y (upd H l (.lst (xs.eraseIdx k)))
theorem mt_popAt : MtM X "list.pop" rPopAt := by
  intro pins s σ H x vs v us Q I rx rv h
  obtain ⟨l, xs, i, k, y, rfl, rfl, hH, h1, h2, hk, hy, q⟩ := h
  cases rx
  obtain ⟨u, rfl, ru⟩ := rv.one
  obtain ⟨t, rfl⟩ := ru
  obtain ⟨z, its, n, r, hl, e⟩ := I.lstM hH
  obtain ⟨w, hw, rw'⟩ := r.get hy
  refine call_meets F.slot_list_pop ⟨_, e, rfl⟩ F.entry_list_pop (F.args_list_pop_2 _ _)
    (MeetsSeq.list_pop_at l its.toArray n i t k w (fitsIndex_both h1 h2) (by rw [List.size_toArray, ← hl]; exact hk) (by rw [← Array.getElem?_toList]; exact hw) (by rw [List.size_toArray]; omega)) ⟨e, ?_⟩
  refine ⟨y, _, I.lset (its' := its.eraseIdx k) hH e ?_ (r.eraseIdx k) ?_, rw', q⟩
  · show its.toArray.eraseIdxIfInBounds k = (its.eraseIdx k).toArray
    rw [List.eraseIdxIfInBounds_toArray]
  · have := len_erase xs k
    omega
theorem len_rep {α : Type} (xs : List α) (k : Nat) : (List.replicate k xs).flatten.length = k * xs.length := by
  induction k with
  | zero => simp
  | succ k ih => rw [List.replicate_succ, List.flatten_cons, List.length_append, ih, Nat.succ_mul, Nat.add_comm]
end
section
variable {prog : Program} {w : World} {A : Around} {E : Value → Shared → Prop} {s : Shared}
end
section
variable {X : Cx}
end
end L2
namespace Att
open PySem PySem.W PySem.Calls PyProof.Rows
theorem ints_of_wellAll {P : Params} {h : Heap} : ∀ (ns : List Int) (vs : List Value), WellAll P h vs (ns.map WData.int) → IntsAre vs ns := by
  intro ns
  induction ns with
  | nil =>
    intro vs w
    rw [List.map_nil] at w
    cases w
    exact .nil
  | cons n ns ih =>
    intro vs w
    rw [List.map_cons] at w
    cases w with
    | cons a b =>
      cases a
      exact .cons _ _ (ih _ b)
theorem script_of {l : OpenLaw} {n : Nat} (hn : l.most = some n) {P : Params} {h : Heap} {args : List WData} {vals : List Value}
    (hpre : l.row.toRowW.claim.pre args = true) (hwl : WellAll P h vals args) :
    ∃ a vs ns, vals = [Value.ref a] ∧ args = [WData.list (ns.map WData.int)] ∧ h.get? a = some { cls := .type "list", data := .seq vs.toArray } ∧ IntsAre vs ns ∧ ns.length ≤ n := by
  have hsh : WShape.hasAll [] args [.list .int] = true := (pre_splitW hpre).1
  have hc : l.pre.holds [] { args := args } = true := (pre_splitW hpre).2
  obtain ⟨d, r, rfl, h1, h2⟩ := hasAllW_cons hsh
  obtain rfl := hasAllW_nil h2
  obtain ⟨xs, rfl, h3⟩ := hasW_list h1
  obtain ⟨ns, rfl⟩ := items_int h3
  have hlen : ns.length ≤ n := by
    unfold OpenLaw.pre at hc
    have h4 : (WTm.not (.lt (.lit (.int (n : Int))) (.len (.arg 0)))).holds [] { args := [.list (ns.map .int)] } = true := by
      have h4 := (holds_andW hc).1
      rw [hn] at h4
      exact h4
    have h5 := condW_of h4 (w_not (w_lt w_lit (w_len_list (w_arg rfl))))
    rw [List.length_map] at h5
    refine Nat.le_of_not_lt fun q => ?_
    have q' : (n : Int) < ((ns.length : Nat) : Int) := by omega
    first
      | (rw [decide_eq_true q'] at h5; exact absurd h5 (by decide))
      | (simp at h5; omega)
  cases hwl with
  | cons w1 w2 =>
    cases w2
    cases w1 with
    | list ho hall => exact ⟨_, _, ns, rfl, rfl, ho, ints_of_wellAll ns _ hall, hlen⟩
theorem post_true (l : OpenLaw) (args : List WData) : l.row.toRowW.claim.post args (.bool true) args = true :=
  postW_of (r := l.row.toRowW) (X := (true == true))
    (show WShape.has [] (.bool true) .bool = true by first | rfl | decide | simp [WShape.has, WShape.arms, WShape.armsAll])
    (show (WTm.eq .res (.lit (.bool true))).value [] { args := args, res := some (.bool true), after := args } = some (.bool (true == true)) from w_eq_bool (w_res rfl) w_lit) rfl
theorem attach_call {l : OpenLaw} {n : Nat} {q : Program} {loose : List Str} {XP : (Str → Option Value) → Heap → Prop} {YP : World → Heap → Prop} {d : DefRec}
    (hn : l.most = some n) (hdf : d.params.defaults = [])
    (call : ∀ (w : World) (s₀ s₁ : Shared) (mg mb : Str → Option Value) (fa : Addr) (o : Obj) (pm cd doc : Value) (a : Addr) (vs : List Value) (ns : List Int),
      Ground q loose [] XP w s₀ mg mb s₁.heap → YP w s₁.heap →
      s₁.heap.get? fa = some o → o.data = .func (docDef d.name d.params d.body d.scope pm cd doc) → s₁.heap.CodeRec cd d.name → mg d.name = some (.ref fa) →
      s₁.heap.get? a = some { cls := .type "list", data := .seq vs.toArray } → IntsAre vs ns → ns.length ≤ n → s₁.gens = #[] →
      codeAny (model l.prog w) callerA (.call (.ref fa) ⟨[.ref a], []⟩) (fun r s' => r = .ok (.ret (.bool true)) ∧ OldK s₁.heap s'.heap ∧ s'.os = s₁.os ∧ AllBare s'.gens) s₁) :
    WalkO q loose XP YP l.row.toRowW d [] (fun f vs => PySem.call f vs) := by
  intro w s₀ s₁ mg mb G Y fa o pm cd doc dV kV ho hd hcd hD hmg hg args vals as hpre hlay hrd hwl hlo
  obtain rfl : dV = .none := Dflts.none hD hdf
  obtain rfl : kV = .none := Dflts.noKw hD
  obtain ⟨a, vs, ns, rfl, rfl, hobj, hints, hlen⟩ := script_of hn hpre hwl
  refine enter_call (codeAny_mono (call w s₀ s₁ mg mb fa o pm cd doc a vs ns G Y ho (fd_plain hd) hcd hmg hobj hints hlen hg) fun r s' hq => ?_)
  obtain ⟨rfl, h2, h3, h4⟩ := hq
  exact ⟨.inl ⟨.bool true, .bool true, [], rfl, fun _ => rfl, .bool true, post_true l _, fun _ => ⟨List.Pairwise.nil, fun _ hm => (nomatch hm)⟩⟩, h2, h3, h4⟩
section
variable {prog : Program} {w : World} {A : Around} {E : Value → Shared → Prop} {s : Shared} {K : Frag}
end
end Att
namespace L2
open PySem PySem.Spec PyProof.Rows
theorem vals_ints : ∀ {vs : List Value} {ns : List Int}, IntsAre vs ns → Vals (ns.map V.int) vs
  | _, _, .nil => .nil
  | _, _, .cons n t h => .cons ⟨t, rfl⟩ (vals_ints h)
def Only (H : Hp) : Prop := ∀ b, H b = none ∨ ∃ o xs, H b = some (.frz o (.lst xs))
theorem law_call {P : Program} {w : World} {K : PySem.W.Frag} {mg mb : Str → Option Value} {CX : CXT} {k : Nat} {fa a : Addr} {fd : FuncData} {x : Str} {sp : Sp} {s₁ : Shared} {vs : List Value} {ns : List Int}
    (KX : K.In s₁.heap) (hns : s₁.heap.Ns mainGlobals mg) (hb : s₁.heap.Ns builtinsNs mb) (hbb : ∀ x : Str, x ≠ "__name__" → mb x = bootBuiltins x) (hlim : s₁.heap.NoLimit) (hg : s₁.gens = #[])
    (ha : s₁.heap.get? a = some { cls := .type "list", data := .seq vs.toArray }) (hi : IntsAre vs ns) (hl : ns.length ≤ sizeLine) (hr : Room k callerA)
    (F : ∀ base : Heap, K.In base → base.Ns mainGlobals mg → FnOk P w K mg base CX k fa fd [x] sp) (hbind : ∀ (s : Shared) (u : Value), BindsTo s fd ⟨[u], []⟩ [(x, u)])
    (hsp : ∀ H : Hp, Only H → SqL K H a (ns.map V.int) → sp [.ref a] H (fun v _ => v = .bl true) fun _ _ _ => False)
    (hCX : ∀ H e s', CX [] H s₁ (fun _ _ _ => False) e s' → False) :
    codeAny (model P w) callerA (.call (.ref fa) ⟨[.ref a], []⟩) (fun r s' => r = .ok (.ret (.bool true)) ∧ OldK s₁.heap s'.heap ∧ s'.os = s₁.os ∧ AllBare s'.gens) s₁ := by
  have rv := vals_ints hi
  have lenV := hi.length
  have core : ∀ H : Hp, Only H → SqL K H a (ns.map V.int) → HOk P w H s₁.heap → (∀ b, H b ≠ none → b = a) → (H a ≠ none → K.lookup a = none) →
      codeAny (model P w) callerA (.call (.ref fa) ⟨[.ref a], []⟩) (fun r s' => r = .ok (.ret (.bool true)) ∧ OldK s₁.heap s'.heap ∧ s'.os = s₁.os ∧ AllBare s'.gens) s₁ := by
    intro H hO hS hok hA hK
    have base_of : ∀ {b : Addr} {o : Obj}, s₁.heap.get? b = some o → H b = none → (hidT s₁.heap H).get? b = some o := fun e n => hidT_get e n
    have noA : ∀ {b : Addr} {o : Obj} {es : Array DictEntry} {ep : Nat}, s₁.heap.get? b = some o → o.data = .dict es ep → H b = none := fun {b o es ep} e d => by
      cases q : H b with
      | none => rfl
      | some u =>
        have e' : b = a := hA b (by rw [q]; simp)
        subst e'
        rw [ha] at e; cases e
        have d' : Data.seq vs.toArray _ = Data.dict es ep := d
        cases d'
    have nsK : ∀ {b : Addr} {m : Str → Option Value}, s₁.heap.Ns b m → (hidT s₁.heap H).Ns b m := fun {b m} ⟨o, es, ep, e, d, r⟩ => ⟨o, es, ep, base_of e (noA e d), d, r⟩
    have hKb : K.In (hidT s₁.heap H) := fun b o e => base_of (KX b o e) (by
      cases q : H b with
      | none => rfl
      | some u =>
        have e' : b = a := hA b (by rw [q]; simp)
        subst e'
        rw [hK (by rw [q]; simp)] at e; cases e)
    have hM : Mod K mg (hidT s₁.heap H) := ⟨hKb, nsK hns, ⟨mb, nsK hb, hbb⟩, let ⟨mc, h1, h2⟩ := hlim; ⟨mc, nsK h1, h2⟩⟩
    have e0 : Env0 P w K mg (hidT s₁.heap H) callerA [] s₁ H := ⟨rfl, hM, fun b o e => of_hidT e, Nat.le_of_eq (hidT_size _ _), trivial, fun b hb => absurd (show b ∈ ([] : List Addr) from hb) (by simp), hok, .of_eq hg⟩
    refine codeAny_mono ((F _ hKb (nsK hns)).run callerA [] s₁ H ⟨[.ref a], []⟩ [.ref a] [.ref a] _ _ hr e0 (hbind s₁ (.ref a)) (.cons rfl .nil) (hsp H hO hS)) fun r s' h => ?_
    cases r with
    | error e => exact (hCX H e s' h).elim
    | ok fl =>
      cases fl with
      | next => exact False.elim h
      | brk => exact False.elim h
      | cont => exact False.elim h
      | ret u =>
        obtain ⟨v, H', os, bare, un, hok', r', q⟩ := h
        have q' : v = .bl true := q
        subst q'
        obtain rfl : u = Value.bool true := r'
        refine ⟨rfl, OldK.of_keep fun b o e => ?_, os, bare⟩
        cases q : H b with
        | none => exact un.keep b o e q (by intro z; exact absurd (show b ∈ ([] : List Addr) from z) (by simp)) (by simp)
        | some u =>
          rcases hO b with z | ⟨ob, xs, z⟩
          · rw [q] at z; cases z
          · have z2 := un.frzs b ob _ z
            obtain ⟨e1, _⟩ := hok b _ z
            obtain ⟨e2, _⟩ := hok' b _ z2
            rw [e] at e1; cases e1
            exact e2
  cases hk : K.lookup a with
  | some o =>
    have e := KX a o hk
    rw [ha] at e
    cases e
    refine core (fun _ => none) (fun _ => .inl rfl) (.inr ⟨_, vs.toArray, _, hk, rfl, rfl, rfl, by rw [List.size_toArray, lenV]; exact hl, by simpa using rv⟩) (fun b u z => by have z' : (none : Option HO) = some u := z; cases z') (fun b z => absurd rfl z) fun z => absurd rfl z
  | none =>
    refine core (fun b => if b = a then some (.frz { cls := .type "list", data := .seq vs.toArray } (.lst (ns.map V.int))) else none) (fun b => ?_) (.inl (.inr ⟨{ cls := .type "list", data := .seq vs.toArray }, if_pos rfl⟩)) (fun b u z => ?_) (fun b z => ?_) fun _ => hk
    · by_cases hb : b = a
      · exact .inr ⟨_, _, if_pos hb⟩
      · exact .inl (if_neg hb)
    · by_cases hb : b = a
      · have z' := (if_pos hb).symm.trans z
        cases z'
        subst hb
        exact ⟨ha, by rw [List.length_map]; exact hl, vs, _, rv, ha⟩
      · have z' := (if_neg hb).symm.trans z
        cases z'
    · by_cases hb : b = a
      · exact hb
      · exact absurd (if_neg hb) z
end L2
namespace L2
open PySem PySem.Spec PyProof.Rows
abbrev KOf {K : PySem.W.Frag} {h : Heap} (_ : K.In h) : PySem.W.Frag := K
theorem walk_of {l : PySem.W.OpenLaw} {n k : Nat} {q : Program} {loose : List Str} {XP : (Str → Option Value) → Heap → Prop} {YP : World → Heap → Prop} {d : DefRec} {K : Params → PySem.W.Frag} {CX : World → CXT} {sp : World → Sp} {x : Str}
    (hn : l.most = some n) (hn2 : n ≤ sizeLine) (hdf : d.params.defaults = []) (hr : Room k callerA)
    (hY : ∀ (w : World) (h : Heap), YP w h → (K w.params).In h)
    (F : ∀ (w : World) (mg : Str → Option Value) (fa : Addr) (h : Heap), (K w.params).In h → h.Ns mainGlobals mg → mg d.name = some (.ref fa) →
      ∃ fd : FuncData, (∀ (s : Shared) (u : Value), BindsTo s fd ⟨[u], []⟩ [(x, u)]) ∧
        ∀ base : Heap, (K w.params).In base → base.Ns mainGlobals mg → FnOk l.prog w (K w.params) mg base (CX w) k fa fd [x] (sp w))
    (hsp : ∀ (w : World) (H : Hp) (a : Addr) (ns : List Int), ns.length ≤ n → Only H → SqL (K w.params) H a (ns.map V.int) → sp w [.ref a] H (fun v _ => v = .bl true) fun _ _ _ => False)
    (hCX : ∀ (w : World) (H : Hp) (s : Shared) (e : Value) (s' : Shared), CX w [] H s (fun _ _ _ => False) e s' → False) :
    PySem.W.WalkO q loose XP YP l.row.toRowW d [] (fun f vs => PySem.call f vs) := by
  refine Att.attach_call hn hdf fun w s₀ s₁ mg mb fa o pm cd doc a vs ns G Y ho hd hcd hmg hobj hints hlen hg => ?_
  have KX := hY w _ Y
  obtain ⟨fd, hb, hF⟩ := F w mg fa _ KX G.T.g hmg
  exact law_call KX G.T.g G.T.b G.T.builtins G.T.nolimit hg hobj hints (Nat.le_trans hlen hn2) hr hF hb (fun H hO hS => hsp w H a ns hlen hO hS) fun H e s' => hCX w H s₁ e s'
end L2
/- THE LAST THEOREM (shape; LID, My.* are yours):
   My.Adr: a structure of the addresses that your layer names (classes, functions); My.Txt K t: a structure (Prop) of the equations over K;
   My.txt_mk : {K} {implicit addresses ..} (e1 : nsIn K mainGlobals "law" = some (some (.ref f))) (e2 : K.lookup f = some ⟨oc, od, .func (fnOf "law" "law" params body scope dV kV doc pm an cdv ct), sl⟩) (e3 : codeIn K cdv "law" = true) .. : ∃ t, My.Txt K t
set_option maxRecDepth 100000 in
set_option maxHeartbeats 0 in
theorem PySem.Challenge.cw_LID_holds : PySem.Challenge.rw_LID.Holds := by
  w_on; o_law; k_head; (case hw => w_witness2)
  k_fill
  refine L2.walk_of (l := PySem.Challenge.rw_LID) (n := 63) (k := 40) (x := "script") (CX := fun w => ..) (sp := fun _ => My.sp_law) rfl (by decide) rfl ⟨rfl, by decide, by decide⟩ (fun w h Y => PySem.W.kIn_of Y) ?F ?S ?C
  case F =>
    intro w mg fa h KX G hmg
    have T : ∃ t, My.Txt (L2.KOf KX) t := by
      dsimp only [L2.KOf]                          -- K must stand as «<heap const> w.params» for k_is
      refine' My.txt_mk ?e1 ?e2 ?e3 ..
      (case e1 => PySem.W.k_is)                    -- in the order: a name -> its address -> its object -> its parts
      (case e2 => PySem.W.k_is)
      ..
    obtain ⟨t, T⟩ := T
    have e0 := hmg.symm.trans (PySem.W.mg_of KX G T.law)
    cases e0                                       -- fa is the law's own address
    exact ⟨_, fun s u => .of_eq rfl, fun base kb nb => My.law_fn T kb nb⟩     -- if «.of_eq rfl» comes too early: refine' ⟨_, ?b, fun base kb nb => My.law_fn T kb nb⟩; exact fun s u => .of_eq rfl
  case S => exact fun w H a ns hl hO hS => ..
  case C => exact ..
(the tactic k_is has no namespace: write k_is) -/
namespace L2
open PySem PySem.Spec PyProof.Rows
def defArgs (s : Stmt) : Arguments := match s with
  | .FunctionDef _ a _ _ _ _ _ _ _ _ => a
  | _ => { posonlyargs := [], args := [], vararg := none, kwonlyargs := [], kw_defaults := [], kwarg := none, defaults := [] }
def defBody (s : Stmt) : List Stmt := match s with
  | .FunctionDef _ _ b _ _ _ _ _ _ _ => b
  | _ => []
def defScope (s : Stmt) : Scope := match s with
  | .FunctionDef _ _ _ _ _ _ sc _ _ _ => sc
  | _ => { kind := .function, names := [], isGenerator := false, isCoroutine := false }
abbrev CX0 : CXT := fun _ _ _ _ _ _ => False
abbrev E0 : XK := fun _ _ _ => False
theorem pass0 {X : Cx} : Passes CX0 X E0 := fun _ _ _ _ _ _ _ h => h.elim
structure Fun (K : PySem.W.Frag) (x qual : Str) (st : Stmt) (f : Addr) (fd : FuncData) : Prop where
  ex : ∃ (oc : Value) (od : Option Addr) (kV doc pm : Value) (an : Option Addr) (cdv ct : Value) (osl : Array (Option Value)),
    fd = PySem.W.fnOf x qual (defArgs st) (defBody st) (defScope st) .none kV doc pm an cdv ct ∧ K.lookup f = some ⟨oc, od, .func fd, osl⟩ ∧ PySem.W.codeIn K cdv qual = true
  kp : PySem.W.keepIn K (.ref f) = true
section
variable {P : Program} {w : World} {K : PySem.W.Frag} {mg : Str → Option Value} {base : Heap}
theorem Fun.ok {x qual : Str} {st : Stmt} {f : Addr} {fd : FuncData} {N ps : List Str} {k : Nat} {sp : Sp} (F : Fun K x qual st f fd) (S : FnScope N ps (defScope st)) (len : ∀ vs H Q E, sp vs H Q E → vs.length = ps.length)
    (hbody : ∀ (cdv : Value) (A : Around) (outer : List Env) (s : Shared) (H : Hp) (vs : List V) (Q : VK) (E : XK), Room k (A.deeper (envOfC qual (defScope st) s.heap.objs.size f cdv)) → sp vs H Q E →
      ∃ t, PSs (cxOf CX0 P w K mg base N qual (defScope st) f cdv A outer s H E).nox (defBody st) t ∧ t { nx := fun _ H' => Q .non H', rt := Q } (start N vs) H) : FnOk P w K mg base CX0 (k + 1) f fd ps sp := by
  obtain ⟨oc, od, kV, doc, pm, an, cdv, ct, osl, rfl, lk, hcd⟩ := F.ex
  refine fn_of lk hcd S len fun A outer s H vs Q E hr hsp => ?_
  obtain ⟨t, h, q⟩ := hbody cdv A outer s H vs Q E hr hsp
  exact ⟨t, h.nox, q⟩
theorem Fun.binds {x qual : Str} {st : Stmt} {f : Addr} {fd : FuncData} {ps : List Str} (F : Fun K x qual st f fd)
    (h : ∀ (kV doc pm : Value) (an : Option Addr) (cdv ct : Value) (us : List Value), us.length = ps.length → bindArgs (PySem.W.fnOf x qual (defArgs st) (defBody st) (defScope st) .none kV doc pm an cdv ct) ⟨us, []⟩ = pure (ps.zip us)) : Binds K fd ps [] := by
  obtain ⟨oc, od, kV, doc, pm, an, cdv, ct, osl, rfl, lk, hcd⟩ := F.ex
  exact .all (h kV doc pm an cdv ct)
theorem fun_mk {x qual : Str} {st : Stmt} {f : Addr} {oc : Value} {od an : Option Addr} {osl : Array (Option Value)} {kV doc pm cdv ct : Value} (l : K.lookup f = some ⟨oc, od, .func (PySem.W.fnOf x qual (defArgs st) (defBody st) (defScope st) .none kV doc pm an cdv ct), osl⟩)
    (c : PySem.W.codeIn K cdv qual = true) (k : PySem.W.keepIn K (.ref f) = true) : Fun K x qual st f (PySem.W.fnOf x qual (defArgs st) (defBody st) (defScope st) .none kV doc pm an cdv ct) := ⟨⟨oc, od, kV, doc, pm, an, cdv, ct, osl, rfl, l, c⟩, k⟩
end
theorem hu_of {A : Around} {k : Nat} (hr : Room k A) : A.units + 1 < cLine := Nat.lt_of_le_of_lt (Nat.add_le_add_left (by decide : 1 ≤ 64) _) hr.units
section
variable {X : Cx}
theorem pv (i : Nat) {x : Str} {pos : Pos} (hN : X.N[i]? = some x := by rfl) (hv : Vis X.env.scope x := by first | exact Or.inl rfl | exact Or.inr (Or.inl rfl) | exact Or.inr (Or.inr rfl)) (hd : (x == ("__debug__" : Str)) = false := by decide)
    (hcd : (x == ("__classdict__" : Str)) = false := by decide) : PE X (.Name x pos) (tVar i) := pe_var hN hv hd hcd
end
def Same (H H' : Hp) : Prop := ∀ b o, H b = some o → H' b = some o
theorem Same.refl (H : Hp) : Same H H := fun _ _ h => h
theorem Same.trans {H H1 H2 : Hp} (a : Same H H1) (b : Same H1 H2) : Same H H2 := fun c o h => b c o (a c o h)
theorem Same.free {H H' : Hp} (e : Same H H') {l : Addr} (h : H' l = Option.none) : H l = Option.none := by
  cases q : H l with
  | none => rfl
  | some o =>
    rw [e l o q] at h
    cases h
theorem Same.seq {K : PySem.W.Frag} {H H' : Hp} {a : Addr} {xs : List V} (e : Same H H') (h : SqL K H a xs) : SqL K H' a xs := by
  rcases h with (h | ⟨o, h⟩) | h
  · exact .inl (.inl (e _ _ h))
  · exact .inl (.inr ⟨o, e _ _ h⟩)
  · exact .inr h
end L2
namespace PU
open PySem L2
abbrev D := PySem.PyData
abbrev Dl := List (Option D)
abbrev Fe := Dl → Option D
abbrev Fb := Dl → Option Bool
abbrev Fa := Dl → Option (List D)
def opq (a : Addr) : D := .dict [(PyData.int ((a : Nat) : Int), PyData.none)]
def eVar (i : Nat) : Fe := fun δ => (δ[i]?).bind id
def eC (d : D) : Fe := fun _ => some d
def aNil : Fa := fun _ => some []
def aCons (f : Fe) (g : Fa) : Fa := fun δ => (f δ).bind fun x => (g δ).bind fun xs => some (x :: xs)
def fit (n : Nat) : Bool := decide (n ≤ 16777216)
def eOp (o : D → D → Option D) (f g : Fe) : Fe := fun δ => (f δ).bind fun x => (g δ).bind fun y => o x y
def eUn (o : D → Option D) (f : Fe) : Fe := fun δ => (f δ).bind o
def oI (C : Int → Int → Bool) (r : Int → Int → D) : D → D → Option D
  | .int i, .int j => if C i j then some (r i j) else none
  | _, _ => none
def oAdd : D → D → Option D
  | .int i, .int j => some (.int (i + j))
  | .tuple l, .tuple m => if fit (l.length + m.length) then some (.tuple (l ++ m)) else none
  | .list l, .list m => if fit (l.length + m.length) then some (.list (l ++ m)) else none
  | _, _ => none
def oSub : D → D → Option D := oI (fun _ _ => true) fun i j => .int (i - j)
def cMul (i j : Int) : Bool := (decide (-(2 ^ 64) < i) && decide (i < 2 ^ 64)) || (decide (-(2 ^ 64) < j) && decide (j < 2 ^ 64))
def oMul : D → D → Option D
  | .int i, .int j => if cMul i j then some (.int (i * j)) else none
  | .tuple l, .int k => if decide (2 ≤ k) && decide (k ≤ 1000) && !l.isEmpty && fit (l.length * k.toNat) then some (.tuple (List.replicate k.toNat l).flatten) else none
  | _, _ => none
def cDiv (_ j : Int) : Bool := decide (0 < j) && decide (j < 1073741824)
def oDiv : D → D → Option D := oI cDiv fun i j => .int (i / j)
def cMod (_ j : Int) : Bool := decide (0 < j)
def oMod : D → D → Option D := oI cMod fun i j => .int (i % j)
def oNeg : D → Option D
  | .int i => some (.int (-i))
  | _ => none
def oLt : D → D → Option D := oI (fun _ _ => true) fun i j => .bool (decide (i < j))
def isB : D → Option Bool
  | .bool b => some b
  | _ => none
def cB (f : Fe) : Fb := fun δ => (f δ).bind isB
def eAnd (f g : Fe) : Fe := fun δ => (f δ).bind fun x => (isB x).bind fun t => if t then g δ else some (.bool false)
def eNot (f : Fe) : Fe := fun δ => (f δ).bind fun x => (isB x).bind fun t => some (.bool (!t))
def cOr (p q : Fb) : Fb := fun δ => (p δ).bind fun t => if t then some true else q δ
def cNot (p : Fb) : Fb := fun δ => (p δ).bind fun t => some (!t)
def eIf (p : Fb) (f g : Fe) : Fe := fun δ => (p δ).bind fun t => if t then f δ else g δ
def tru : D → Option Bool
  | .none => some false
  | .bool b => some b
  | .int i => some (i != 0)
  | .list l => some (!l.isEmpty)
  | .tuple l => some (!l.isEmpty)
  | _ => none
def cT (f : Fe) : Fb := fun δ => (f δ).bind tru
def mkT (l : List D) : Option D := if fit l.length then some (.tuple l) else none
def mkL (l : List D) : Option D := if fit l.length then some (.list l) else none
def eTup (g : Fa) : Fe := fun δ => (g δ).bind mkT
def eLst (g : Fa) : Fe := fun δ => (g δ).bind mkL
def oIx : D → D → Option D
  | .list l, .int i => atI l i
  | .tuple l, .int i => atI l i
  | _, _ => none
def eCall (F : List D → Option D) (g : Fa) : Fe := fun δ => (g δ).bind F
def fLen : List D → Option D
  | [.list l] => some (.int l.length)
  | [.tuple l] => some (.int l.length)
  | _ => none
def fTuple : List D → Option D
  | [.list l] => some (.tuple l)
  | [.tuple l] => some (.tuple l)
  | _ => none
def fList : List D → Option D
  | [.list l] => some (.list l)
  | [.tuple l] => some (.list l)
  | _ => none
def fAbs : List D → Option D
  | [.int i] => some (.int (if i < 0 then -i else i))
  | _ => none
abbrev Fi := Dl → Option (List D)
abbrev Fg := D → Dl → Option Dl
def isSeq : D → Option (List D)
  | .list l => some l
  | .tuple l => some l
  | _ => none
def iSeq (f : Fe) : Fi := fun δ => (f δ).bind isSeq
def rngD (lo : Int) (n : Nat) : List D := (List.range n).map fun (i : Nat) => PyData.int (lo + i)
def cR (i : Int) : Bool := decide (-(2 ^ 62) ≤ i) && decide (i < 2 ^ 62)
def rngOf : List D → Option (List D)
  | [.int j] => if cR j then some (rngD 0 j.toNat) else none
  | [.int i, .int j] => if cR i && cR j then some (rngD i (j - i).toNat) else none
  | _ => none
def iRng (g : Fa) : Fi := fun δ => (g δ).bind rngOf
def gN (i : Nat) : Fg := fun d δ => some (δ.set i (some d))
def g2 (i j : Nat) : Fg := fun d δ => match d with
  | .tuple [x, y] => some ((δ.set i (some x)).set j (some y))
  | _ => none
def selD (sel : List (Option Nat)) (δ : Dl) : Dl := sel.map fun o => o.bind fun j => (δ[j]?).bind id
def lcF (gf : Fg) (ct : Fb) (fe : Fe) (δ : Dl) : List D → Option (List D)
  | [] => some []
  | d :: ds => (gf d δ).bind fun δ1 => (ct δ1).bind fun t => if t then (fe δ1).bind fun y => (lcF gf ct fe δ ds).bind fun ys => some (y :: ys) else lcF gf ct fe δ ds
def eLc (fi : Fi) (sel : List (Option Nat)) (gf : Fg) (ct : Fb) (fe : Fe) : Fe := fun δ => (fi δ).bind fun ds => if fit ds.length then (lcF gf ct fe (selD sel δ) ds).bind fun ys => some (.list ys) else none
def cTrue : Fb := fun _ => some true
inductive Fl where
  | nx (δ : Dl) | rt (d : D) | bk (δ : Dl) | ct (δ : Dl)
abbrev Fs := Dl → Option Fl
def sNext : Fs := fun δ => some (.nx δ)
def sSeq (f g : Fs) : Fs := fun δ => (f δ).bind fun r => match r with
  | .nx δ' => g δ'
  | .rt d => some (.rt d)
  | .bk δ' => some (.bk δ')
  | .ct δ' => some (.ct δ')
def sRet (f : Fe) : Fs := fun δ => (f δ).bind fun d => some (.rt d)
def sSet (i : Nat) (f : Fe) : Fs := fun δ => (f δ).bind fun d => some (.nx (δ.set i (some d)))
def sIf (p : Fb) (f g : Fs) : Fs := fun δ => (p δ).bind fun t => if t then f δ else g δ
def forF (gf : Fg) (body : Fs) : List D → Dl → Option Fl
  | [], δ => some (.nx δ)
  | x :: r, δ => (gf x δ).bind fun δ1 => (body δ1).bind fun fl => match fl with
    | .nx δ2 => forF gf body r δ2
    | .ct δ2 => forF gf body r δ2
    | .bk δ2 => some (.nx δ2)
    | .rt d => some (.rt d)
def sFor (fi : Fi) (gf : Fg) (body : Fs) : Fs := fun δ => (fi δ).bind fun ds => forF gf body ds δ
def startD (n : Nat) (ds : List D) : Dl := ds.map some ++ List.replicate (n - ds.length) none
def finish : Option Fl → Option D
  | some (.rt d) => some d
  | some (.nx _) => some .none
  | _ => none
def dataOf (n : Nat) (B : Fs) : List D → Option D := fun ds => finish (B (startD n ds))
def isInt : D → Option Int
  | .int i => some i
  | _ => none
def allOf {α : Type} (h : D → Option α) : List D → Option (List α)
  | [] => some []
  | d :: ds => (h d).bind fun x => (allOf h ds).bind fun xs => some (x :: xs)
def fSum : List D → Option D
  | [d] => (isSeq d).bind fun l => (allOf isInt l).bind fun ns => some (.int ns.sum)
  | _ => none
def kindOf : D → String
  | .none => "NoneType"
  | .bool _ => "bool"
  | .int _ => "int"
  | .str _ => "str"
  | .list _ => "list"
  | .tuple _ => "tuple"
  | .dict _ => "dict"
def noD : D → Bool
  | .dict _ => false
  | _ => true
def isK (T : String) (d : D) : Bool := kindOf d == T || (T == "int" && kindOf d == "bool")
def eIs (T : String) (f : Fe) : Fe := fun δ => (f δ).bind fun d => if noD d then some (.bool (isK T d)) else none
def oEq (x y : D) : Option D := if SeqAt.shaped x && SeqAt.shaped y then some (.bool (PyData.eqv x y)) else none
def oNe (x y : D) : Option D := if SeqAt.shaped x && SeqAt.shaped y then some (.bool (!PyData.eqv x y)) else none
abbrev Fp := Dl → Option (Option Int)
def oNone : Fp := fun _ => some none
def oSome (f : Fe) : Fp := fun δ => (f δ).bind fun d => (isInt d).bind fun i => some (some i)
def cutD {α : Type} (xs : List α) (lo hi : Option Int) : List α := (xs.drop (HT.sIx xs.length 0 lo)).take (HT.sIx xs.length xs.length hi - HT.sIx xs.length 0 lo)
def slD (x : D) (lo hi : Option Int) : Option D := match x with
  | .list l => some (.list (cutD l lo hi))
  | .tuple l => some (.tuple (cutD l lo hi))
  | _ => none
def eSl (f : Fe) (lo hi : Fp) : Fe := fun δ => (f δ).bind fun x => (lo δ).bind fun l => (hi δ).bind fun u => slD x l u
def enumD (l : List D) : List D := (l.zipIdx).map fun p => PyData.tuple [.int (p.2 : Int), p.1]
def iEnum (f : Fe) : Fi := fun δ => (f δ).bind fun d => (isSeq d).bind fun l => some (enumD l)
abbrev Fo := Dl → List D → Option (Fl × List D)
def oSeq (f g : Fo) : Fo := fun δ ds => (f δ ds).bind fun r => match r with
  | (.nx δ', ds') => g δ' ds'
  | (.rt d, ds') => some (.rt d, ds')
  | (.bk d, ds') => some (.bk d, ds')
  | (.ct d, ds') => some (.ct d, ds')
def oLift (f : Fs) : Fo := fun δ ds => (f δ).bind fun r => some (r, ds)
def oClose (o : Nat) (f : Fs) : Fo := fun δ ds => (f (δ.set o (some (.list ds)))).bind fun r => match r with
  | .rt d => some (.rt d, [])
  | _ => none
def oApp (o : Nat) (f : Fe) : Fo := fun δ ds => (f δ).bind fun d => if fit (ds.length + 1) then some (.nx δ, ds ++ [d]) else none
def forO (gf : Fg) (body : Fo) : List D → Dl → List D → Option (Fl × List D)
  | [], δ, ds => some (.nx δ, ds)
  | x :: r, δ, ds => (gf x δ).bind fun δ1 => (body δ1 ds).bind fun fl => match fl with
    | (.nx δ2, ds2) => forO gf body r δ2 ds2
    | (.ct δ2, ds2) => forO gf body r δ2 ds2
    | (.bk δ2, ds2) => some (.nx δ2, ds2)
    | (.rt d, ds2) => some (.rt d, ds2)
def oFor (fi : Fi) (gf : Fg) (body : Fo) : Fo := fun δ ds => (fi δ).bind fun es => forO gf body es δ ds
def zipD (l m : List D) : List D := (l.zip m).map fun p => PyData.tuple [p.1, p.2]
def iZip (f g : Fe) : Fi := fun δ => (f δ).bind fun x => (isSeq x).bind fun l => (g δ).bind fun y => (isSeq y).bind fun m => some (zipD l m)
mutual
def noDict : D → Bool
  | .dict _ => false
  | .list l => noDicts l
  | .tuple l => noDicts l
  | .none => true
  | .bool _ => true
  | .int _ => true
  | .str _ => true
def noDicts : List D → Bool
  | [] => true
  | d :: ds => noDict d && noDicts ds
end
def flatD : D → Bool
  | .none => true
  | .bool _ => true
  | .int _ => true
  | .str _ => true
  | _ => false
def oNin (x y : D) : Option D := (isInt x).bind fun i => (isSeq y).bind fun l => (allOf isInt l).bind fun ns => some (.bool (!ns.contains i))
def oIndex : D → D → Option D
  | .list l, .int i => (allOf isInt l).bind fun ns => if ns.contains i then some (.int (ns.idxOf i : Nat)) else none
  | .tuple l, .int i => (allOf isInt l).bind fun ns => if ns.contains i then some (.int (ns.idxOf i : Nat)) else none
  | _, _ => none
def minF (x : Int) : List Int → Int
  | [] => x
  | y :: r => minF (if y < x then y else x) r
def maxF (x : Int) : List Int → Int
  | [] => x
  | y :: r => maxF (if y > x then y else x) r
def fMin : List D → Option D
  | [.int i, .int j] => some (.int (if j < i then j else i))
  | [.list l] => (allOf isInt l).bind fun ns => match ns with
    | x :: r => some (.int (minF x r))
    | [] => none
  | [.tuple l] => (allOf isInt l).bind fun ns => match ns with
    | x :: r => some (.int (minF x r))
    | [] => none
  | _ => none
def fMax : List D → Option D
  | [.int i, .int j] => some (.int (if j > i then j else i))
  | [.list l] => (allOf isInt l).bind fun ns => match ns with
    | x :: r => some (.int (maxF x r))
    | [] => none
  | [.tuple l] => (allOf isInt l).bind fun ns => match ns with
    | x :: r => some (.int (maxF x r))
    | [] => none
  | _ => none
def fInt : List D → Option D
  | [.int i] => some (.int i)
  | [.bool b] => some (.int (if b then 1 else 0))
  | _ => none
def stepD {α : Type} (k : Nat) (l : List α) : List α := (List.range ((l.length + k - 1) / k)).filterMap fun (i : Nat) => l[i * k]?
def eSl3 (f : Fe) (lo hi : Fp) (k : Nat) : Fe := fun δ => (f δ).bind fun x => (lo δ).bind fun l => (hi δ).bind fun u => match x with
  | .list xs => some (.list (stepD k (cutD xs l u)))
  | _ => none
def vw (o : Nat) (δ : Dl) (ds : List D) : Dl := δ.set o (some (.list ds))
def oSetV (o i : Nat) (f : Fe) : Fo := fun δ ds => (f (vw o δ ds)).bind fun d => if flatD d then some (.nx (δ.set i (some d)), ds) else none
def whO (o : Nat) (c : Fb) (body : Fo) : Nat → Dl → List D → Option (Fl × List D)
  | 0, _, _ => none
  | n + 1, δ, ds => (c (vw o δ ds)).bind fun t => if t then (body δ ds).bind fun fl => match fl with
    | (.nx δ2, ds2) => whO o c body n δ2 ds2
    | (.ct δ2, ds2) => whO o c body n δ2 ds2
    | (.bk δ2, ds2) => some (.nx δ2, ds2)
    | (.rt d, ds2) => some (.rt d, ds2)
    else some (.nx δ, ds)
def oWh (n o : Nat) (c : Fb) (body : Fo) : Fo := fun δ ds => whO o c body n δ ds
open Classical in
noncomputable def oOpen (o : Nat) (fa : Fa) (fo : Fo) : Fs := fun δ =>
  if h : o < δ.length ∧ ∃ d ds0, fa δ = some ds0 ∧ fit ds0.length = true ∧ ∀ p : Addr, ∃ ds, fo (δ.set o (some (opq p))) ds0 = some (.rt d, ds) then some (.rt (Classical.choose h.2)) else none
def encR (r : List Int) : D := .tuple (r.map PyData.int)
def encT (t : List (List Int)) : D := .tuple (t.map encR)
def encL (r : List Int) : D := .list (r.map PyData.int)
def encG (g : List (List Int)) : D := .list (g.map encL)
def encN (l : List Nat) : D := .list (l.map fun (m : Nat) => PyData.int (m : Int))
def encP (l : List (Nat × Nat)) : D := .list (l.map fun (p : Nat × Nat) => PyData.tuple [.int (p.1 : Int), .int (p.2 : Int)])
def g3 (i j k : Nat) : Fg := fun d δ => match d with
  | .tuple [x, y, z] => some (((δ.set i (some x)).set j (some y)).set k (some z))
  | _ => none
def sAsg (gf : Fg) (f : Fe) : Fs := fun δ => (f δ).bind fun d => (gf d δ).bind fun δ' => some (.nx δ')
def oIsN : D → Option D
  | .none => some (.bool true)
  | .int _ => some (.bool false)
  | .tuple _ => some (.bool false)
  | _ => none
def dVals : List (PySem.Str × Fe) → Dl → Option (List D)
  | [], _ => some []
  | p :: r, δ => (p.2 δ).bind fun x => (dVals r δ).bind fun xs => some (x :: xs)
def eDsel (fs : List (PySem.Str × Fe)) (g : Fe) : Fe := fun δ => (dVals fs δ).bind fun xs => (g δ).bind fun d => match d with
  | .str k => ((fs.map (·.1)).zip xs).lookup k
  | _ => none
end PU
namespace L2
open PySem PySem.Spec PyProof.Rows
section
variable {κ : Type} [DecidableEq κ]
def valV (kvs : List (κ × V)) (k : κ) : Option V := (kvs.find? fun kv => decide (kv.1 = k)).map (·.2)
def putK (kvs : List (κ × V)) (k : κ) (v : V) : List (κ × V) :=
  if (kvs.any fun kv => decide (kv.1 = k)) = true then kvs.map (fun kv => if kv.1 = k then (kv.1, v) else kv) else kvs ++ [(k, v)]
def dropK (kvs : List (κ × V)) (k : κ) : List (κ × V) := kvs.filter fun kv => decide (kv.1 ≠ k)
theorem valV_pos {p : κ × V} {r : List (κ × V)} {k : κ} (e : p.1 = k) : valV (p :: r) k = some p.2 := by simp [valV, List.find?_cons, e]
theorem valV_neg {p : κ × V} {r : List (κ × V)} {k : κ} (e : ¬ p.1 = k) : valV (p :: r) k = valV r k := by simp [valV, List.find?_cons, e]
theorem valV_any (k : κ) : ∀ kvs : List (κ × V), (kvs.any fun kv => decide (kv.1 = k)) = (valV kvs k).isSome
  | [] => rfl
  | p :: r => by
    rw [List.any_cons]
    by_cases e : p.1 = k
    · simp only [valV_pos e, decide_eq_true e, Bool.true_or, Option.isSome_some]
    · rw [valV_neg e, decide_eq_false e, Bool.false_or]; exact valV_any k r
theorem length_putK (kvs : List (κ × V)) (k : κ) (v : V) : (putK kvs k v).length ≤ kvs.length + 1 := by
  unfold putK
  split
  · rw [List.length_map]; omega
  · rw [List.length_append, List.length_cons, List.length_nil]; omega
theorem RelO.isSome_eq {o : Option V} {u : Option Value} (r : RelO o u) : o.isSome = u.isSome := by
  cases o with
  | none => cases u with
    | none => rfl
    | some _ => exact (show False from r).elim
  | some _ => cases u with
    | none => exact (show False from r).elim
    | some _ => rfl
theorem RelO.getD {o : Option V} {u : Option Value} {d : V} {d' : Value} (r : RelO o u) (rd : RelV d d') : RelV (o.getD d) (u.getD d') := by
  cases o with
  | none => cases u with
    | none => exact rd
    | some _ => exact (show False from r).elim
  | some _ => cases u with
    | none => exact (show False from r).elim
    | some _ => exact r
theorem KV.val {kvs : List (κ × V)} {vs : List (κ × Value)} (r : KV kvs vs) (k : κ) : RelO (valV kvs k) (valueAt vs k) := by
  unfold KV at r
  induction r with
  | nil => exact True.intro
  | @cons p q ps qs h t ih =>
    obtain ⟨h1, h2⟩ := h
    by_cases e : p.1 = k
    · have e' : q.1 = k := h1.symm.trans e
      have b : valueAt (q :: qs) k = some q.2 := by simp [valueAt, List.find?_cons, e']
      rw [valV_pos e, b]; exact h2
    · have e' : ¬ q.1 = k := fun z => e (h1.trans z)
      have b : valueAt (q :: qs) k = valueAt qs k := by simp [valueAt, List.find?_cons, e']
      rw [valV_neg e, b]; exact ih
theorem KV.any {kvs : List (κ × V)} {vs : List (κ × Value)} (r : KV kvs vs) (k : κ) : (kvs.any fun kv => decide (kv.1 = k)) = vs.any fun kv => decide (kv.1 = k) := by
  unfold KV at r
  induction r with
  | nil => rfl
  | cons h t ih => rw [List.any_cons, List.any_cons, ih, h.1]
theorem KV.repl {kvs : List (κ × V)} {vs : List (κ × Value)} (r : KV kvs vs) (k : κ) {y : V} {u : Value} (ry : RelV y u) :
    KV (kvs.map fun kv => if kv.1 = k then (kv.1, y) else kv) (vs.map fun kv => if kv.1 = k then (kv.1, u) else kv) := by
  unfold KV at r ⊢
  induction r with
  | nil => exact .nil
  | @cons p q ps qs h t ih =>
    rw [List.map_cons, List.map_cons]
    refine .cons ?_ ih
    obtain ⟨h1, h2⟩ := h
    by_cases e : p.1 = k
    · rw [if_pos e, if_pos (h1.symm.trans e)]; exact ⟨h1, ry⟩
    · rw [if_neg e, if_neg (fun z => e (h1.trans z))]; exact ⟨h1, h2⟩
theorem KV.put {kvs : List (κ × V)} {vs : List (κ × Value)} (r : KV kvs vs) (k : κ) {y : V} {u : Value} (ry : RelV y u) : KV (putK kvs k y) (stored vs k u) := by
  unfold putK stored
  rw [r.any k]
  by_cases e : (vs.any fun kv => decide (kv.1 = k)) = true
  · rw [if_pos e, if_pos e]; exact r.repl k ry
  · rw [if_neg e, if_neg e]; exact Paired.snoc r ⟨rfl, ry⟩
theorem KV.drop {kvs : List (κ × V)} {vs : List (κ × Value)} (r : KV kvs vs) (k : κ) : KV (dropK kvs k) (without vs k) := by
  unfold KV at r ⊢
  unfold dropK without
  induction r with
  | nil => exact .nil
  | @cons p q ps qs h t ih =>
    obtain ⟨h1, h2⟩ := h
    rw [List.filter_cons, List.filter_cons]
    by_cases e : p.1 = k
    · have a : ¬ decide (p.1 ≠ k) = true := by simp [e]
      have b : ¬ decide (q.1 ≠ k) = true := by simp [h1.symm.trans e]
      rw [if_neg a, if_neg b]; exact ih
    · have e' : ¬ q.1 = k := fun z => e (h1.trans z)
      have a : decide (p.1 ≠ k) = true := by simp [e]
      have b : decide (q.1 ≠ k) = true := by simp [e']
      rw [if_pos a, if_pos b]; exact .cons ⟨h1, h2⟩ ih
theorem KV.keys {kvs : List (κ × V)} {vs : List (κ × Value)} (r : KV kvs vs) : kvs.map (·.1) = vs.map (·.1) := by
  unfold KV at r
  induction r with
  | nil => rfl
  | cons h t ih => rw [List.map_cons, List.map_cons, ih, h.1]
theorem KV.length {kvs : List (κ × V)} {vs : List (κ × Value)} (r : KV kvs vs) : kvs.length = vs.length := Paired.length r
end
theorem kV_is {P : Program} {w : World} {k : Key} {u : Value} (r : RelV (kV k) u) : (mixKind P w).is k u = true := by
  cases k with
  | inl i => obtain ⟨t, e⟩ := (show ∃ t, u = Value.int i t from r); subst e; exact mixKind_int P w i t
  | inr x => obtain ⟨t, e⟩ := (show ∃ t, u = Value.str x t from r); subst e; exact mixKind_str P w x t
theorem items_are {P : Program} {w : World} : ∀ {ks : List Key} {us : List Value}, Vals (ks.map kV) us → ItemsAre (mixKind P w) ks us
  | [], _, r => by rw [List.map_nil] at r; cases r; exact .nil
  | k :: ks, _, r => by
    rw [List.map_cons] at r
    cases r with
    | cons h t => exact .cons (kV_is h) (items_are t)
abbrev KT (H : Hp) : List (List Key × V) → List (List Key × Addr × Value) → Prop := Paired fun p q => p.1 = q.1 ∧ H q.2.1 = some (.tup (p.1.map kV)) ∧ RelV p.2 q.2.2
theorem KT.val {H : Hp} {kvs : List (List Key × V)} {xs : List (List Key × Addr × Value)} (r : KT H kvs xs) (k : List Key) : RelO (valV kvs k) ((atKey xs k).map (·.2)) := by
  induction r with
  | nil => exact True.intro
  | @cons p q ps qs h t ih =>
    obtain ⟨h1, _, h2⟩ := h
    by_cases e : p.1 = k
    · have e' : q.1 = k := h1.symm.trans e
      have b : atKey (q :: qs) k = some q.2 := by simp [atKey, List.find?_cons, e']
      rw [valV_pos e, b]; exact h2
    · have e' : ¬ q.1 = k := fun z => e (h1.trans z)
      have b : atKey (q :: qs) k = atKey qs k := by simp [atKey, List.find?_cons, e']
      rw [valV_neg e, b]; exact ih
theorem KT.repl {H : Hp} {kvs : List (List Key × V)} {xs : List (List Key × Addr × Value)} (r : KT H kvs xs) (k : List Key) {y : V} {u : Value} (ry : RelV y u) :
    KT H (kvs.map fun kv => if kv.1 = k then (kv.1, y) else kv) (xs.map (putAt k u)) := by
  induction r with
  | nil => exact .nil
  | @cons p q ps qs h t ih =>
    rw [List.map_cons, List.map_cons]
    refine .cons ?_ ih
    obtain ⟨h1, h2, h3⟩ := h
    unfold putAt
    by_cases e : p.1 = k
    · rw [if_pos e, if_pos (h1.symm.trans e)]; exact ⟨h1, h2, ry⟩
    · rw [if_neg e, if_neg (fun z => e (h1.trans z))]; exact ⟨h1, h2, h3⟩
theorem KT.put {H : Hp} {kvs : List (List Key × V)} {xs : List (List Key × Addr × Value)} (r : KT H kvs xs) (k : List Key) {b : Addr} {y : V} {u : Value} (hb : H b = some (.tup (k.map kV))) (ry : RelV y u) :
    KT H (putK kvs k y) (storedH xs k b u) := by
  have e : (kvs.any fun kv => decide (kv.1 = k)) = (atKey xs k).isSome := by
    rw [valV_any, (r.val k).isSome_eq, Option.isSome_map]
  unfold putK storedH
  rw [e]
  by_cases q : (atKey xs k).isSome = true
  · rw [if_pos q, if_pos q]; exact r.repl k ry
  · rw [if_neg q, if_neg q]; exact Paired.snoc r ⟨rfl, hb, ry⟩
theorem KT.keeps {H H' : Hp} {kvs : List (List Key × V)} {xs : List (List Key × Addr × Value)} (r : KT H kvs xs) (ht : ∀ b ys, H b = some (.tup ys) → H' b = some (.tup ys)) : KT H' kvs xs :=
  Paired.mapP r fun _ _ z => ⟨z.1, ht _ _ z.2.1, z.2.2⟩
section
variable {P : Program} {w : World} {H : Hp} {h : Heap} {a : Addr}
theorem rd_of {u : HO} (ok : HOk P w H h) (e : Rd H a u) : ObjOk P w H h a u := e.ok ok
theorem dk_rd {kvs : List (Key × V)} (ok : HOk P w H h) (e : Rd H a (.dK kvs)) : kvs.length ≤ sizeLine ∧ (a == sysModules) = false ∧ ∃ vs, KV kvs vs ∧ h.DictOf (mixKind P w) a vs :=
  show ObjOk P w H h a (.dK kvs) from rd_of ok e
theorem dk_of {kvs : List (Key × V)} (ok : HOk P w H h) (e : H a = some (.dK kvs)) : kvs.length ≤ sizeLine ∧ (a == sysModules) = false ∧ ∃ vs, KV kvs vs ∧ h.DictOf (mixKind P w) a vs := dk_rd ok (.inl e)
theorem key_of {ks : List Key} (ok : HOk P w H h) (e : H a = some (.tup (ks.map kV))) : (tupleKind (mixKind P w)).is h ks a := by
  obtain ⟨_, its, r, o, h1, _, h2, n, h3⟩ := (show ObjOk P w H h a (.tup (ks.map kV)) from ok a _ e)
  exact ⟨o, its.toArray, n, h1, h2, h3, by simpa using items_are r⟩
theorem dt_rd {kvs : List (List Key × V)} (ok : HOk P w H h) (e : Rd H a (.dT kvs)) : kvs.length ≤ sizeLine ∧ (a == sysModules) = false ∧
    ∃ xs, KT H kvs xs ∧ h.DictOfH (tupleKind (mixKind P w)) a xs := by
  obtain ⟨z, y, xs, r, o, es, ep, h1, h2, h3, h4, h5⟩ := (show ObjOk P w H h a (.dT kvs) from rd_of ok e)
  refine ⟨z, y, xs, r, o, es, ep, h1, h2, h3, h4, fun x hx => ?_, h5⟩
  have all : ∀ {l : List (List Key × V)} {m : List (List Key × Addr × Value)}, KT H l m → ∀ x ∈ m, (tupleKind (mixKind P w)).is h x.1 x.2.1 := by
    intro l m q
    induction q with
    | nil => intro x hx; exact nomatch hx
    | @cons p q ps qs hq t ih =>
      intro x hx
      rcases List.mem_cons.mp hx with e | hx
      · subst e
        exact key_of ok (by rw [← hq.1]; exact hq.2.1)
      · exact ih x hx
  exact all r x hx
theorem dt_of {kvs : List (List Key × V)} (ok : HOk P w H h) (e : H a = some (.dT kvs)) : kvs.length ≤ sizeLine ∧ (a == sysModules) = false ∧
    ∃ xs, KT H kvs xs ∧ h.DictOfH (tupleKind (mixKind P w)) a xs := dt_rd ok (.inl e)
end
def DGet (H : Hp) (a : Addr) (y : V) (r : Option V) : Prop :=
  (∃ kvs k, Rd H a (.dK kvs) ∧ y = kV k ∧ r = valV kvs k) ∨ ∃ kvs k b, Rd H a (.dT kvs) ∧ y = .ref b ∧ H b = some (.tup (k.map kV)) ∧ r = valV kvs k
def DPut (H : Hp) (a : Addr) (y v : V) (H' : Hp) : Prop :=
  (∃ kvs k, H a = some (.dK kvs) ∧ y = kV k ∧ kvs.length < sizeLine ∧ H' = upd H a (.dK (putK kvs k v))) ∨
  ∃ kvs k b, H a = some (.dT kvs) ∧ y = .ref b ∧ H b = some (.tup (k.map kV)) ∧ kvs.length < sizeLine ∧ H' = upd H a (.dT (putK kvs k v))
theorem DGet.k {H : Hp} {a : Addr} {kvs : List (Key × V)} {k : Key} (e : H a = some (.dK kvs)) : DGet H a (kV k) (valV kvs k) := .inl ⟨kvs, k, .inl e, rfl, rfl⟩
theorem DGet.t {H : Hp} {a b : Addr} {kvs : List (List Key × V)} {k : List Key} (e : H a = some (.dT kvs)) (eb : H b = some (.tup (k.map kV))) : DGet H a (.ref b) (valV kvs k) := .inr ⟨kvs, k, b, .inl e, rfl, eb, rfl⟩
theorem DPut.k {H : Hp} {a : Addr} {kvs : List (Key × V)} {k : Key} {v : V} (e : H a = some (.dK kvs)) (hl : kvs.length < sizeLine) : DPut H a (kV k) v (upd H a (.dK (putK kvs k v))) := .inl ⟨kvs, k, e, rfl, hl, rfl⟩
theorem DPut.t {H : Hp} {a b : Addr} {kvs : List (List Key × V)} {k : List Key} {v : V} (e : H a = some (.dT kvs)) (eb : H b = some (.tup (k.map kV))) (hl : kvs.length < sizeLine) :
    DPut H a (.ref b) v (upd H a (.dT (putK kvs k v))) := .inr ⟨kvs, k, b, e, rfl, eb, hl, rfl⟩
section
variable {X : Cx} {pins : List (Addr × Obj)} {σ : St} {H : Hp} {s : Shared} {a : Addr} {y v : V} {u r : Value} {o : Option V} {A : Around} {E : Value → Shared → Prop}
theorem Inv.big (I : Inv X pins σ H s) : sysModules < s.heap.objs.size := by
  have h : mainGlobals < s.heap.objs.size := (I.mod.glob.keeps I.bk).lt
  exact Nat.lt_trans (by decide) h
theorem d_getItem {Q : Value → Shared → Prop} (hu : A.units + 1 < cLine) (I : Inv X pins σ H s) (g : DGet H a y (some v)) (ry : RelV y u) (h : ∀ w' s', Inv X pins σ H s' → RelV v w' → Q w' s') :
    wpAny (model X.prog X.w) A (getItem (.ref a) u) Q E s := by
  rcases g with ⟨kvs, k, e, ey, l⟩ | ⟨kvs, k, b, e, ey, eb, l⟩
  · subst ey
    obtain ⟨z, hd, vs, rel, dd⟩ := dk_rd I.hok e
    obtain ⟨w', hw, rw'⟩ := RelO.some_of (v := v) (o := valueAt vs k) (by rw [l]; exact rel.val k)
    exact wpAny_getItem_of (kV_is ry) dd.mapOf hw (h w' _ (I.tok _) rw')
  · subst ey
    cases (show u = Value.ref b from ry)
    obtain ⟨z, hd, xs, rel, dd⟩ := dt_rd I.hok e
    obtain ⟨w', hw, rw'⟩ := RelO.some_of (v := v) (o := (atKey xs k).map (·.2)) (by rw [l]; exact rel.val k)
    obtain ⟨p, hp, hp2⟩ := Option.map_eq_some_iff.mp hw
    refine wpAny_getItem_heap (tupleKind_room_in1 hu) (key_of I.hok eb) dd hp ?_
    rw [hp2]
    exact h w' _ (I.tok _) rw'
theorem d_notIn {Q : Value → Shared → Prop} (hu : A.units + 1 < cLine) (I : Inv X pins σ H s) (g : DGet H a y o) (ry : RelV y u) (h : ∀ s', Inv X pins σ H s' → Q (.bool (!o.isSome)) s') :
    wpAny (model X.prog X.w) A (compareOp .NotIn u (.ref a)) Q E s := by
  rcases g with ⟨kvs, k, e, ey, l⟩ | ⟨kvs, k, b, e, ey, eb, l⟩
  · subst ey
    obtain ⟨z, hd, vs, rel, dd⟩ := dk_rd I.hok e
    refine wpAny_notIn_of (kV_is ry) hd dd.mapOf ?_
    rw [← (rel.val k).isSome_eq, ← l]
    exact h _ (I.tok _)
  · subst ey
    cases (show u = Value.ref b from ry)
    obtain ⟨z, hd, xs, rel, dd⟩ := dt_rd I.hok e
    refine wpAny_notIn_heap (tupleKind_room_in1 hu) (key_of I.hok eb) hd dd ?_
    have q := (rel.val k).isSome_eq
    rw [Option.isSome_map] at q
    rw [← q, ← l]
    exact h _ (I.tok _)
theorem d_write {h' : Heap} {t' : Nat} {ob : HO} (I : Inv X pins σ H s) (mu : Mut (H a)) (hs : Heap.SameBut a s.heap h') (he : ∃ q, h'.get? a = some q) (new : ObjOk X.prog X.w (upd H a ob) h' a ob) :
    Inv X pins σ (upd H a ob) { s with heap := h', toks := t' } :=
  I.write (x := a) (e := a) mu (.inl rfl) (fun b q hb z => (hs.2 b hb).trans z) he new
theorem dk_new {P : Program} {w : World} {H' : Hp} {h' : Heap} {kvs : List (Key × V)} {vs : List (Key × Value)} (z : kvs.length ≤ sizeLine) (hd : (a == sysModules) = false) (rel : KV kvs vs) (dd : h'.DictOf (mixKind P w) a vs) :
    ObjOk P w H' h' a (.dK kvs) := ⟨z, hd, vs, rel, dd⟩
theorem d_setItem {H' : Hp} {Q : Unit → Shared → Prop} (hu : A.units + 1 < cLine) (I : Inv X pins σ H s) (g : DPut H a y v H') (ry : RelV y u) (rv : RelV v r) (h : ∀ s', Inv X pins σ H' s' → Q () s') :
    wpAny (model X.prog X.w) A (setItem (.ref a) u r) Q E s := by
  rcases g with ⟨kvs, k, e, ey, l, eH⟩ | ⟨kvs, k, b, e, ey, eb, l, eH⟩
  · subst ey eH
    obtain ⟨z, hd, vs, rel, dd⟩ := dk_of I.hok e
    have hz : vs.length ≤ sizeLine := by rw [← rel.length]; exact z
    have hl : (putK kvs k v).length ≤ sizeLine := by have := length_putK kvs k v; omega
    refine wpAny_setItem_pairs (hsz := hz) (kV_is ry) dd fun h' dd' hs => h _ ?_
    have he : ∃ q, h'.get? a = some q := let ⟨q, _, _, hq, _⟩ := dd'; ⟨q, hq⟩
    exact d_write I (by rw [e]; exact True.intro) hs he (dk_new hl hd (rel.put k rv) dd')
  · subst ey eH
    cases (show u = Value.ref b from ry)
    obtain ⟨z, hd, xs, rel, dd⟩ := dt_of I.hok e
    have hz : xs.length ≤ sizeLine := by rw [← Paired.length rel]; exact z
    have hl : (putK kvs k v).length ≤ sizeLine := by have := length_putK kvs k v; omega
    refine wpAny_setItem_heap (hsz := hz) (tupleKind_room_in1 hu) (key_of I.hok eb) dd fun h' dd' hs => h _ ?_
    obtain ⟨q, es, ep, hq, h2, h3, h4, _, h5⟩ := dd'
    refine d_write I (by rw [e]; exact True.intro) hs ⟨q, hq⟩ ⟨hl, hd, _, (rel.put k eb rv).keeps fun c ys ec => ?_, q, es, ep, hq, h2, h3, h4, h5⟩
    rw [upd_ne (ne_of ec e (fun z => nomatch z))]
    exact ec
end
section
variable {X : Cx} {pins : List (Addr × Obj)} {σ : St} {H : Hp} {s : Shared} {a : Addr} {kvs : List (Key × V)} {k : Key} {u : Value} {A : Around} {E : Value → Shared → Prop}
end
def NoSl (i : Expr) : Prop := ∀ ov iv, subscripted i false ov iv = operate [ov, iv] (getItem ov iv)
theorem subD_of {prog : Program} {w : World} {A : Around} {E : Value → Shared → Prop} {s : Shared} {env : Env} {value slice : Expr} {pos : Pos} {T id : String} {Q : Value → Shared → Prop}
    (hl : typeLookup (.type T) "__getitem__" = pure (some (.builtin id))) (hs : NoSl slice)
    (h : wpAny (model prog w) A (eval value env) (fun o s₁ => wpAny (model prog w) A (eval slice env) (fun i s₂ => s₂.TypeIs o T ∧ wpAny (model prog w) A (getItem o i) Q E s₂) E s₁) E s) :
    wpAny (model prog w) A (eval (.Subscript value slice pos) env) Q E s := by
  refine Subscript_ (wpAny_mono h (fun o s₁ h₁ => wpAny_mono h₁ (fun i s₂ h₂ => ?_) fun _ _ x => x) fun _ _ x => x)
  obtain ⟨hT, h₂⟩ := h₂
  unfold subscriptTail
  refine wpAny_bind ?_
  rw [getitemInPython_of_ne hT.not_modules]
  refine wpAny_bind (wpAny_specialOf hT hl ?_)
  have fin : wpAny (model prog w) A (subscripted slice false o i) (fun r s₃ => wpAny (model prog w) A (letTemporaryGo value o r >>= fun _ => pure r) Q E s₃) E s₂ := by
    rw [hs o i]
    exact wpAny_operating (wpAny_mono h₂ (fun r s₃ h₃ => wpAny_bind (wpAny_letTemporaryGo (wpAny_pure h₃))) fun _ _ x => x)
  first
    | exact wpAny_pure (wpAny_bind fin)
    | exact wpAny_bind (wpAny_pure (wpAny_bind fin))
    | exact wpAny_bind fin
theorem dict_typeIs {X : Cx} {pins : List (Addr × Obj)} {σ : St} {H : Hp} {s : Shared} {a : Addr} {y : V} {o : Option V} (I : Inv X pins σ H s) (g : DGet H a y o) : s.TypeIs (.ref a) "dict" := by
  rcases g with ⟨kvs, k, e, _, _⟩ | ⟨kvs, k, b, e, _, _, _⟩
  · obtain ⟨_, _, vs, _, dd⟩ := dk_rd I.hok e
    exact dd.typeIs
  · obtain ⟨_, _, xs, _, dd⟩ := dt_rd I.hok e
    exact dd.typeIs
def tDGet (td ty : TE) : TE := fun σ H Q => td σ H fun x H1 => ty σ H1 fun y H2 => ∃ a v, x = .ref a ∧ DGet H2 a y (some v) ∧ Q v H2
def tDNotIn (ty td : TE) : TE := fun σ H Q => ty σ H fun y H1 => td σ H1 fun x H2 => ∃ a o, x = .ref a ∧ DGet H2 a y o ∧ Q (.bl (!o.isSome)) H2
def sDPut (td ty tv : TE) : TS := fun D σ H => tv σ H fun v H1 => td σ H1 fun x H2 => ty σ H2 fun y H3 => ∃ a H4, x = .ref a ∧ DPut H3 a y v H4 ∧ D.nx σ H4
section
variable {X : Cx} {o i e value : Expr} {pos pos' tpos : Pos} {td ty tv : TE}
theorem pe_dget (hu : X.A.units + 1 < cLine) (ho : PE X o td) (hi : PE X i ty) (hs : NoSl i) : PE X (.Subscript o i pos) (tDGet td ty) := by
  intro pins s σ H Q I h
  refine subD_of PySem.F.slot_dict_getitem.lookup hs (thn (ho pins s σ H _ I h) fun u s1 ⟨x, H1, I1, rx, q1⟩ => thn (hi pins s1 σ H1 _ I1 q1) fun iv s2 ⟨y, H2, I2, ry, a, v, ex, g, q2⟩ => ?_)
  subst ex
  obtain rfl : u = Value.ref a := rx
  exact ⟨dict_typeIs I2 g, d_getItem hu I2 g ry fun w' s3 I3 rw' => ⟨v, H2, I3, rw', q2⟩⟩
theorem pc_dnotin (hu : X.A.units + 1 < cLine) (hi : PE X i ty) (ho : PE X o td) : PC X .NotIn i o (tDNotIn ty td) := by
  intro pins s σ H Q I h
  refine thn (hi pins s σ H _ I h) fun iv s1 ⟨y, H1, I1, ry, q1⟩ => thn (ho pins s1 σ H1 _ I1 q1) fun u s2 ⟨x, H2, I2, rx, a, ov, ex, g, q2⟩ => ?_
  subst ex
  obtain rfl : u = Value.ref a := rx
  exact d_notIn hu I2 g ry fun s3 I3 => ⟨.bl (!ov.isSome), H2, I3, rfl, q2⟩
theorem ps_dput (hu : X.A.units + 1 < cLine) (ho : PE X o td) (hi : PE X i ty) (hv : PE X value tv) (hs : swapsWith value (some (.Subscript o i pos')) pos.line X.env = pure false) :
    PS X (.Assign [.Subscript o i pos'] value pos) (sDPut td ty tv) := by
  intro pins s σ H D I h
  refine wpAny_Assign_Subscript (thn (hv pins s σ H _ I h) fun r s1 ⟨v, H1, I1, rv, q1⟩ => thn (ho pins s1 σ H1 _ I1 q1) fun u s2 ⟨x, H2, I2, rx, q2⟩ => thn (hi pins s2 σ H2 _ I2 q2) fun iv s3 ⟨y, H3, I3, ry, a, H4, ex, g, q3⟩ => ?_) hs
  subst ex
  obtain rfl : u = Value.ref a := rx
  exact d_setItem hu I3 g ry rv fun s4 I4 => ⟨σ, H4, I4, q3⟩
end
theorem dk_empty {P : Program} {w : World} {H : Hp} (h : Heap) (hb : sysModules < h.objs.size) : ObjOk P w H (h.push { cls := .type "dict", data := .dict #[] }) h.objs.size (.dK []) :=
  ⟨Nat.zero_le _, beq_eq_false_iff_ne.mpr (Ne.symm (Nat.ne_of_lt hb)), [], .nil, Heap.DictOf.new h⟩
section
variable {X : Cx} {pos : Pos}
end
def tPairs : List (TE × TE) → St → Hp → (List (V × V) → Hp → Prop) → Prop
  | [], _, H, Q => Q [] H
  | (tk, tv) :: r, σ, H, Q => tk σ H fun x H1 => tv σ H1 fun y H2 => tPairs r σ H2 fun ps H3 => Q ((x, y) :: ps) H3
abbrev VV : List (V × V) → List (Value × Value) → Prop := Paired fun p q => RelV p.1 q.1 ∧ RelV p.2 q.2
def PPs (X : Cx) (pos : Pos) (keys : List (Option Expr)) (values : List Expr) (trs : List (TE × TE)) : Prop :=
  ∀ (pins : List (Addr × Obj)) (s : Shared) (σ : St) (H : Hp) (Q : List (V × V) → Hp → Prop), Inv X pins σ H s → tPairs trs σ H Q →
    wpAny (model X.prog X.w) X.A (evalPairs (pairTrees keys values X.env pos)) (fun vs s' => ∃ ps H', Inv X pins σ H' s' ∧ VV ps vs ∧ Q ps H') X.xe s
theorem pps_nil {X : Cx} {pos : Pos} : PPs X pos [] [] [] := fun pins s σ H Q I h => pairTrees_nil_walk ⟨[], H, I, .nil, h⟩
theorem pps_cons {X : Cx} {pos : Pos} {k v : Expr} {ks : List (Option Expr)} {vs : List Expr} {tk tv : TE} {trs : List (TE × TE)} (hk : PE X k tk) (hv : PE X v tv) (hr : PPs X pos ks vs trs) :
    PPs X pos (some k :: ks) (v :: vs) ((tk, tv) :: trs) := fun pins s σ H Q I h =>
  pairTrees_cons_walk (thn (hk pins s σ H _ I h) fun u s1 ⟨x, H1, I1, rx, q1⟩ => thn (hv pins s1 σ H1 _ I1 q1) fun w2 s2 ⟨y, H2, I2, ry, q2⟩ =>
    thn (hr pins s2 σ H2 _ I2 q2) fun ws s3 ⟨ps, H3, I3, rel, q3⟩ => ⟨(x, y) :: ps, H3, I3, .cons ⟨rx, ry⟩ rel, q3⟩)
def mergeK (kvs more : List (Key × V)) : List (Key × V) := more.foldl (fun acc kv => putK acc kv.1 kv.2) kvs
theorem KV.merge : ∀ {more : List (Key × V)} {rs : List (Key × Value)} {kvs : List (Key × V)} {vs : List (Key × Value)}, KV more rs → KV kvs vs → KV (mergeK kvs more) (merged vs rs) := by
  intro more rs kvs vs r
  unfold KV at r
  induction r generalizing kvs vs with
  | nil => intro q; exact q
  | @cons p q ps qs h t ih =>
    intro r0
    have e : KV (putK kvs p.1 p.2) (stored vs q.1 q.2) := by
      have := r0.put p.1 h.2
      rw [← h.1]; exact this
    exact ih e
theorem length_mergeK : ∀ (more kvs : List (Key × V)), (mergeK kvs more).length ≤ kvs.length + more.length
  | [], kvs => by show kvs.length ≤ kvs.length + 0; omega
  | p :: r, kvs => by
    have h1 := length_mergeK r (putK kvs p.1 p.2)
    have h2 := length_putK kvs p.1 p.2
    show (mergeK (putK kvs p.1 p.2) r).length ≤ _
    rw [List.length_cons]; omega
theorem carries_of {P : Program} {w : World} : ∀ {kvs : List (Key × V)} {ws : List (Value × Value)}, VV (kvs.map fun kv => (kV kv.1, kv.2)) ws → ∃ rs, Carries (mixKind P w) ws rs ∧ KV kvs rs
  | [], _, r => by rw [List.map_nil] at r; cases r; exact ⟨[], True.intro, .nil⟩
  | p :: kvs, _, r => by
    rw [List.map_cons] at r
    cases r with
    | @cons a b as bs h t =>
      obtain ⟨rs, c, q⟩ := carries_of (P := P) (w := w) t
      obtain ⟨b1, b2⟩ := b
      exact ⟨(p.1, b2) :: rs, ⟨kV_is h.1, rfl, c⟩, .cons ⟨rfl, h.2⟩ q⟩
def tDisp (trs : List (TE × TE)) : TE := fun σ H Q => ∀ p, H p = none → tPairs trs σ (upd H p (.dK [])) fun ps H2 => H2 p = some (.dK []) ∧ ∃ kvs : List (Key × V), ps = kvs.map (fun kv => (kV kv.1, kv.2)) ∧ kvs.length ≤ 15 ∧ Q (.ref p) (upd H2 p (.dK (mergeK [] kvs)))
theorem pe_disp {X : Cx} {pos : Pos} {keys : List (Option Expr)} {values : List Expr} {trs : List (TE × TE)} (h : PPs X pos keys values trs) (hall : keys.all (·.isSome) = true) (hl : keys.length = values.length) (h0 : keys ≠ [])
    (h15 : keys.length ≤ 15) : PE X (.Dict keys values pos) (tDisp trs) := by
  intro pins s σ H Q I q
  have hn := I.hok.fresh (Nat.le_refl s.heap.objs.size)
  have I1 := I.laid (a := s.heap.objs.size) (o := .dK []) (h' := s.heap.push { cls := .type "dict", data := .dict #[] }) (t' := s.toks) (fun _ _ q => Heap.get?_push_of_some _ q) (Nat.le_refl _) (dk_empty s.heap I.big)
  refine wpAny_Dict_walk (knd := mixKind X.prog X.w) hall hl h0 h15 (thn (h pins _ σ _ _ I1 (q _ hn)) fun ws s2 ⟨ps, H2, I2, rel, e, kvs, ep, lk, q2⟩ => ?_)
  subst ep
  obtain ⟨rs, c, rk⟩ := carries_of (P := X.prog) (w := X.w) rel
  obtain ⟨z, hd, vs0, r0, dd⟩ := dk_of I2.hok e
  cases r0
  refine ⟨rs, c, dd, fun h' dd' hs => ⟨.ref s.heap.objs.size, _, ?_, rfl, q2⟩⟩
  have hz : (mergeK [] kvs).length ≤ sizeLine := by
    have h1 := length_mergeK kvs []
    rw [List.length_nil] at h1
    rw [sizeLine_eq]; omega
  have he : ∃ q, h'.get? s.heap.objs.size = some q := let ⟨q, _, _, hq, _⟩ := dd'; ⟨q, hq⟩
  exact d_write I2 (by rw [e]; exact True.intro) hs he (dk_new hz hd (rk.merge .nil) dd')
section
variable {X : Cx}
end
end L2
namespace L2
open PySem PySem.Spec PyProof.Rows
def closL (env : Env) : List (Str × NameKind) → List (Str × Addr) → List (Str × Addr)
  | [], acc => acc
  | (n, k) :: r, acc => closL env r (if (k == NameKind.free) = true then (n, (env.cells.lookup n).getD 0) :: acc else acc)
theorem closL_run {env : Env} (f : Str × NameKind → List (Str × Addr) → Sem (ForInStep (List (Str × Addr))))
    (hf : ∀ n k cs, f (n, k) cs = if (k == NameKind.free) = true then (do let a ← cellOf env n; pure (.yield ((n, a) :: cs))) else pure (.yield cs)) :
    ∀ (names : List (Str × NameKind)) (acc : List (Str × Addr)), (∀ y ∈ names, y.2 = .free → ∃ c, env.cells.lookup y.1 = some c) → (forIn names acc f : Sem (List (Str × Addr))) = pure (closL env names acc)
  | [], acc, _ => by rw [List.forIn_nil]; rfl
  | (n, k) :: r, acc, h => by
    rw [List.forIn_cons, hf]
    have hr : ∀ y ∈ r, y.2 = .free → ∃ c, env.cells.lookup y.1 = some c := fun y hy => h y (List.mem_cons_of_mem _ hy)
    unfold closL
    by_cases hk : (k == NameKind.free) = true
    · obtain ⟨c, hc⟩ := h (n, k) List.mem_cons_self (by simpa using hk)
      have e : cellOf env n = pure c := by unfold cellOf; rw [hc]
      rw [if_pos hk, if_pos hk, e, hc]
      exact closL_run f hf r _ hr
    · rw [if_neg hk, if_neg hk]
      exact closL_run f hf r _ hr
theorem closL_eq {scope : Scope} {env : Env} (h : ∀ y ∈ scope.names, y.2 = .free → ∃ c, env.cells.lookup y.1 = some c) : closureFor scope env = pure (closL env scope.names []) := by
  simp only [closureFor]
  rw [closL_run (env := env) _ (fun n k cs => by by_cases hk : (k == NameKind.free) = true <;> simp [hk]) scope.names [] h]
  rfl
theorem closL_get {env : Env} {x : Str} {c : Addr} : ∀ {names : List (Str × NameKind)} {acc : List (Str × Addr)}, (∀ y ∈ names, y.2 = .free → ∃ c, env.cells.lookup y.1 = some c) → (closL env names acc).lookup x = some c →
    acc.lookup x = some c ∨ (env.cells.lookup x = some c ∧ (x, NameKind.free) ∈ names)
  | [], acc, _, e => .inl e
  | (n, k) :: r, acc, h, e => by
    have hr : ∀ y ∈ r, y.2 = .free → ∃ c, env.cells.lookup y.1 = some c := fun y hy => h y (List.mem_cons_of_mem _ hy)
    unfold closL at e
    rcases closL_get hr e with q | ⟨q1, q2⟩
    · by_cases hk : (k == NameKind.free) = true
      · rw [if_pos hk] at q
        have hk' : k = NameKind.free := by simpa using hk
        obtain ⟨c', hc⟩ := h (n, k) List.mem_cons_self hk'
        have hc' : env.cells.lookup n = some c' := hc
        rw [List.lookup_cons] at q
        cases hx : (x == n) with
        | true =>
          rw [hx] at q
          have xn : x = n := by simpa using hx
          subst xn
          rw [hc'] at q
          refine .inr ⟨?_, by rw [hk']; exact List.mem_cons_self⟩
          rw [hc']
          exact q
        | false =>
          rw [hx] at q
          exact .inl q
      · rw [if_neg hk] at q
        exact .inl q
    · exact .inr ⟨q1, List.mem_cons_of_mem _ q2⟩
theorem lookup_some_cons {x n : Str} {c : Addr} {acc : List (Str × Addr)} (h : ∃ d, acc.lookup x = some d) : ∃ d, ((n, c) :: acc).lookup x = some d := by
  rw [List.lookup_cons]
  cases (x == n) with
  | true => exact ⟨_, rfl⟩
  | false => exact h
theorem closL_has {env : Env} {x : Str} : ∀ {names : List (Str × NameKind)} {acc : List (Str × Addr)}, ((x, NameKind.free) ∈ names ∨ ∃ c, acc.lookup x = some c) → ∃ c, (closL env names acc).lookup x = some c
  | [], acc, h => by
    rcases h with h | h
    · cases h
    · exact h
  | (n, k) :: r, acc, h => by
    unfold closL
    refine closL_has ?_
    rcases h with h | h
    · rcases List.mem_cons.mp h with e | h
      · cases e
        refine .inr ?_
        rw [if_pos (by decide), List.lookup_cons]
        rw [show (x == x) = true by simp]
        exact ⟨_, rfl⟩
      · exact .inl h
    · refine .inr ?_
      by_cases hk : (k == NameKind.free) = true
      · rw [if_pos hk]; exact lookup_some_cons h
      · rw [if_neg hk]; exact h
theorem cellsFrom_get {x : Str} {c : Addr} : ∀ {names : List (Str × NameKind)} {h : Heap} {acc : List (Str × Addr)}, (cellsFrom h.objs.size names acc).lookup x = some c →
    acc.lookup x = some c ∨ (h.objs.size ≤ c ∧ (pushCells h names).IsCell c none)
  | [], _, _, e => .inl e
  | (n, k) :: r, h, acc, e => by
    unfold cellsFrom at e
    unfold pushCells
    by_cases hk : (k == NameKind.cell) = true
    · rw [if_pos hk] at e ⊢
      rw [← Heap.size_push h { cls := .type "cell", data := .cell none }] at e
      rcases cellsFrom_get e with q | ⟨q1, q2⟩
      · rw [List.lookup_cons] at q
        cases hx : (x == n) with
        | true =>
          rw [hx] at q
          cases q
          rw [Heap.size_push] at e
          exact .inr ⟨Nat.le_refl _, ⟨_, pushCells_keeps _ _ _ _ (Heap.get?_push_size _ rfl), rfl⟩⟩
        | false =>
          rw [hx] at q
          exact .inl q
      · rw [Heap.size_push] at q1
        exact .inr ⟨by omega, q2⟩
    · rw [if_neg hk] at e ⊢
      exact cellsFrom_get e
def OneName (cs : List (Str × Addr)) : Prop := ∀ x y c, cs.lookup x = some c → cs.lookup y = some c → x = y
theorem cellsFrom_one : ∀ {names : List (Str × NameKind)} {n : Nat} {acc : List (Str × Addr)}, (∀ x c, acc.lookup x = some c → c < n) → OneName acc → OneName (cellsFrom n names acc)
  | [], _, _, _, h => h
  | (m, k) :: r, n, acc, hb, h => by
    unfold cellsFrom
    by_cases hk : (k == NameKind.cell) = true
    · rw [if_pos hk]
      refine cellsFrom_one (fun x c e => ?_) fun x y c e1 e2 => ?_
      · rw [List.lookup_cons] at e
        cases hx : (x == m) with
        | true => rw [hx] at e; cases e; exact Nat.lt_succ_self _
        | false => rw [hx] at e; exact Nat.lt_succ_of_lt (hb x c e)
      · rw [List.lookup_cons] at e1 e2
        cases hx : (x == m) with
        | true =>
          rw [hx] at e1
          cases e1
          cases hy : (y == m) with
          | true =>
            have h1 : x = m := by simpa using hx
            have h2 : y = m := by simpa using hy
            rw [h1, h2]
          | false =>
            rw [hy] at e2
            exact absurd (hb y _ e2) (Nat.lt_irrefl _)
        | false =>
          rw [hx] at e1
          cases hy : (y == m) with
          | true =>
            rw [hy] at e2
            cases e2
            exact absurd (hb x _ e1) (Nat.lt_irrefl _)
          | false =>
            rw [hy] at e2
            exact h x y c e1 e2
    · rw [if_neg hk]
      exact cellsFrom_one hb h
theorem lc_env {M : Model} {A : Around} {E : Value → Shared → Prop} {s : Shared} {scope : Scope} {env : Env} {cl : List (Str × Addr)} {Q : Env → Shared → Prop}
    (h : Q { scope := scope, locals := s.heap.objs.size, globals := env.globals, cells := cellsFrom (s.heap.objs.size + 1) scope.names cl, qual := env.qual, func := none, code := env.code, frame := env.frame, builtins := env.builtins }
      { s with heap := pushCells (s.heap.push { cls := .type "dict", data := .dict #[] }) scope.names }) :
    wpAny M A (newFunctionEnv scope env.globals cl [] env.qual none .none (some env)) Q E s := by
  simp only [newFunctionEnv, Option.isSome_some, if_true]
  refine wpAny_bind (wpAny_alloc ?_)
  refine wpAny_bind (wpAny_layCells _ (fun name kind cells => by cases hkc : kind == NameKind.cell <;> simp [hkc]) _ _ _ _ ?_)
  rw [show ({ s with heap := s.heap.push { cls := .type "dict", data := .dict #[] } } : Shared).heap.objs.size = s.heap.objs.size + 1 from Heap.size_push ..]
  simp only [List.forIn_nil]
  exact wpAny_bind (wpAny_pure (wpAny_pure h))
theorem lc_turns {prog : Program} {w : World} {A : Around} {R : Result → Shared → Prop} {s : Shared} {elt target iter : Expr} {ifs : List Expr} {scope : Scope} {pos : Pos} {it acc : Value} {env : Env} (I : Nat → Shared → Prop)
    (turn : ∀ n s, I n s → wpAny (model prog w) A (pyNext it) (fun r s1 => match r with
      | none => R (.ok .next) s1
      | some v => wpAny (model prog w) A (letOwnedTupleGo target it v) (fun _ s2 => wpAny (model prog w) A (assign target env v) (fun _ s3 =>
          wpAny (model prog w) A (forIn ifs true fun c r => if r = true then do let ok ← isTrue c env (eval c env); pure (ForInStep.yield ok) else pure (ForInStep.yield r)) (fun ok s4 =>
            if ok = true then wpAny (model prog w) A (eval elt env) (fun x s5 => wpAny (model prog w) A (call (.builtin "list.append") [acc, x]) (fun _ s6 => ∃ m, m < n ∧ I m s6) (fun _ _ => False) s5) (fun _ _ => False) s4
            else ∃ m, m < n ∧ I m s4) (fun _ _ => False) s3) (fun _ _ => False) s2) (fun _ _ => False) s1) (fun _ _ => False) s)
    (n : Nat) (h : I n s) : codeAny (model prog w) A (.compLoop (.ListComp elt [⟨target, iter, ifs, 0⟩] scope pos) 0 it acc env) R s := by
  refine codeAny_loop rfl I (fun n s hI => ?_) n h
  show wpAny _ A ((compTurn (.ListComp elt [⟨target, iter, ifs, 0⟩] scope pos) 0 it acc env).onRaise (fun x => do noteFrame x env; theTreesLotGoes x)) _ _ s
  refine wpAny_noted ?_
  rw [compTurn_list]
  have no : ∀ {Q : Value → Shared → Prop} (e : Value) (s' : Shared), False → Q e s' := fun _ _ z => z.elim
  refine wpAny_bind (wpAny_standAt (wpAny_bind (wpAny_mono (turn n s hI) (fun r s1 h1 => ?_) no)))
  cases r with
  | none => exact wpAny_pure h1
  | some v =>
    refine wpAny_bind (wpAny_mono h1 (fun _ s2 h2 => ?_) no)
    refine wpAny_bind (wpAny_mono h2 (fun _ s3 h3 => wpAny_bind (wpAny_mono h3 (fun ok s4 h4 => ?_) no)) no)
    cases ok with
    | false => exact wpAny_pure ⟨rfl, h4⟩
    | true => exact wpAny_bind (wpAny_bind (wpAny_mono h4 (fun x s5 h5 => wpAny_bind (wpAny_mono h5 (fun _ s6 h6 => wpAny_pure (wpAny_pure ⟨rfl, h6⟩)) no)) no))
def selSt (sel : List (Option Nat)) (σ : St) : St := sel.map fun o => o.bind fun j => (σ[j]?).bind id
def lcEnv (X : Cx) (scope : Scope) (C : Addr) : Env := compEnvC scope (cellsFrom (C + 1) scope.names (closL X.env scope.names [])) C X.env
def lcCx (X : Cx) (N : List Str) (scope : Scope) (C : Addr) (fp : List Addr) (s : Shared) (H : Hp) : Cx :=
  { X with N := N, s₀ := s, H₀ := H, env := lcEnv X scope C, outer := X.stack, ex := fp, fn := fun x => decide (scope.names.lookup x = some .cell), pn := [], xe := fun _ _ => False }
def selOk (XN : List Str) (names : List (Str × NameKind)) (N : List Str) (sel : List (Option Nat)) : Bool :=
  (N.zip sel).all fun p => match p.2 with
    | none => true
    | some j => decide (XN[j]? = some p.1) && decide ((p.1, NameKind.free) ∈ names)
structure LcScope (XN : List Str) (XS : List (Str × NameKind)) (N : List Str) (sel : List (Option Nat)) (scope : Scope) : Prop where
  kind : scope.kind = .function
  locs : ∀ y ∈ scope.names, y.2 = .local → scope.names.lookup y.1 = some .local
  frees : ∀ y ∈ scope.names, y.2 = .free → scope.names.lookup y.1 = some .free ∧ (XS.lookup y.1 = some .cell ∨ XS.lookup y.1 = some .free)
  apart : ∀ y ∈ scope.names, y.2 = .cell → ¬ (y.1, NameKind.free) ∈ scope.names
  nd : N.Nodup
  len : sel.length = N.length
  sel : selOk XN scope.names N sel = true
theorem LcScope.sels {XN : List Str} {XS : List (Str × NameKind)} {N : List Str} {sel : List (Option Nat)} {scope : Scope} (S : LcScope XN XS N sel scope) (i j : Nat) (x : Str) (h1 : N[i]? = some x) (h2 : sel[i]? = some (some j)) :
    XN[j]? = some x ∧ (x, NameKind.free) ∈ scope.names := by
  have hz : (N.zip sel)[i]? = some (x, some j) := by rw [List.getElem?_zip_eq_some]; exact ⟨h1, h2⟩
  have hm := List.all_eq_true.mp S.sel _ (List.mem_of_getElem? hz)
  have hm' : (decide (XN[j]? = some x) && decide ((x, NameKind.free) ∈ scope.names)) = true := hm
  rw [Bool.and_eq_true] at hm'
  exact ⟨of_decide_eq_true hm'.1, of_decide_eq_true hm'.2⟩
theorem relabel_free {env : Env} {x : Str} : ∀ {names : List (Str × NameKind)}, names.lookup x = some .free →
    (names.map fun (n, k) => if (k == NameKind.free && env.scope.kind == .function && env.kindOf n == some .cell) then (n, NameKind.cell) else (n, k)).lookup x = some .cell ∨
    (names.map fun (n, k) => if (k == NameKind.free && env.scope.kind == .function && env.kindOf n == some .cell) then (n, NameKind.cell) else (n, k)).lookup x = some .free
  | [], h => by simp at h
  | (n, k') :: r, h => by
    have ih := @relabel_free env x r
    show List.lookup x ((if (k' == NameKind.free && env.scope.kind == .function && env.kindOf n == some .cell) = true then (n, NameKind.cell) else (n, k')) :: _) = _ ∨ List.lookup x ((if (k' == NameKind.free && env.scope.kind == .function && env.kindOf n == some .cell) = true then (n, NameKind.cell) else (n, k')) :: _) = _
    rw [List.lookup_cons] at h
    by_cases hc : (k' == NameKind.free && env.scope.kind == .function && env.kindOf n == some .cell) = true
    · rw [if_pos hc, List.lookup_cons]
      cases hx : (x == n) with
      | true => exact .inl rfl
      | false => rw [hx] at h; exact ih h
    · rw [if_neg hc, List.lookup_cons]
      cases hx : (x == n) with
      | true => rw [hx] at h; exact .inr h
      | false => rw [hx] at h; exact ih h
theorem relabel_get {env : Env} {x : Str} {k : NameKind} : ∀ {names : List (Str × NameKind)},
    (names.map fun (n, k) => if (k == NameKind.free && env.scope.kind == .function && env.kindOf n == some .cell) then (n, NameKind.cell) else (n, k)).lookup x = some k →
    names.lookup x = some k ∨ (k = .cell ∧ names.lookup x = some .free)
  | [], h => by simp at h
  | (n, k') :: r, h => by
    have ih := @relabel_get env x k r
    have h' : List.lookup x ((if (k' == NameKind.free && env.scope.kind == .function && env.kindOf n == some .cell) = true then (n, NameKind.cell) else (n, k')) :: _) = some k := h
    by_cases hc : (k' == NameKind.free && env.scope.kind == .function && env.kindOf n == some .cell) = true
    · rw [if_pos hc, List.lookup_cons] at h'
      rw [List.lookup_cons]
      cases hx : (x == n) with
      | true =>
        rw [hx] at h'
        cases h'
        rw [Bool.and_eq_true, Bool.and_eq_true] at hc
        have : k' = .free := by simpa using hc.1.1
        rw [this]
        exact .inr ⟨rfl, rfl⟩
      | false =>
        rw [hx] at h'
        exact ih h'
    · rw [if_neg hc, List.lookup_cons] at h'
      rw [List.lookup_cons]
      cases hx : (x == n) with
      | true => rw [hx] at h'; exact .inl h'
      | false => rw [hx] at h'; exact ih h'
abbrev TW := St → Hp → (Bool → Hp → Prop) → Prop
def PIf (X : Cx) (ifs : List Expr) (t : TW) : Prop :=
  ∀ (pins : List (Addr × Obj)) (s : Shared) (σ : St) (H : Hp) (Q : Bool → Hp → Prop), Inv X pins σ H s → t σ H Q →
    wpAny (model X.prog X.w) X.A (forIn ifs true fun c r => if r = true then do let ok ← isTrue c X.env (eval c X.env); pure (ForInStep.yield ok) else pure (ForInStep.yield r)) (TP X pins σ Q) X.xe s
theorem pif_nil {X : Cx} : PIf X [] (fun _ H Q => Q true H) := fun _ _ _ H _ I h => by
  rw [List.forIn_nil]
  exact wpAny_pure ⟨H, I, h⟩
theorem pif_one {X : Cx} {c : Expr} {t : TT} (hc : PT X c t) : PIf X [c] t := fun pins s σ H Q I h => by
  rw [List.forIn_cons]
  simp only [if_true, List.forIn_nil]
  exact wpAny_bind (wpAny_bind (thn (hc pins s σ H Q I h) fun b s1 q => wpAny_pure (wpAny_pure q)))
def KeepSt (σ σ' : St) : Prop := σ'.length = σ.length ∧ ∀ (i : Nat) v, σ[i]? = some (some v) → σ'[i]? = some (some v)
def tLc (wi : TI) (sel : List (Option Nat)) (g : TG) (tt : TW) (te : TE) : TE := fun σ H Q => wi σ H fun J H1 =>
  ∃ W : Nat → Nat → List V → Hp → Prop, (∃ m, W 0 m [] H1) ∧ ∀ i m ys H2, W i m ys H2 →
    (J.stop i H2 ∧ ∀ l, H2 l = none → Q (.ref l) (upd H2 l (.lst ys))) ∨
    (J.go i H2 ∧ ys.length < sizeLine ∧ ∀ x H3, J.yld i H2 x H3 → g x (selSt sel σ) H3 fun σ4 H4 => KeepSt (selSt sel σ) σ4 ∧ tt σ4 H4 fun b H5 =>
      if b = true then te σ4 H5 fun y H6 => ∃ m', m' < m ∧ W (i + 1) m' (ys ++ [y]) H6 else ∃ m', m' < m ∧ W (i + 1) m' ys H5)
section
variable {X : Cx} {pins : List (Addr × Obj)} {σ : St} {H : Hp} {s : Shared}
theorem HOk.track {P : Program} {w : World} {H : Hp} {h : Heap} {a : Addr} {o : HO} (x : HOk P w H h) (hn : H a = none) (new : ObjOk P w (upd H a o) h a o) : HOk P w (upd H a o) h := fun b u e => by
  by_cases hb : b = a
  · subst hb; rw [upd_same] at e; cases e; exact new
  · rw [upd_ne hb] at e
    exact (x b u e).stay (fun c v _ q => q) (fun c q => by rw [upd_ne (ne_of_none q hn)]; exact q) fun c xs q => by rw [upd_ne (ne_of_none q hn)]; exact q
theorem Un.track {fs ex : List Addr} {H H' : Hp} {h h' : Heap} {a : Addr} {o : HO} (u : Un fs ex H H' h h') (ha : h.get? a = none) (hn : H' a = none) : Un fs ex H (upd H' a o) h h' := by
  have ne : ∀ b ob, h.get? b = some ob → b ≠ a := fun b ob e z => by subst z; rw [ha] at e; cases e
  exact ⟨u.keep, u.slot, fun b ob e n hx => by rw [upd_ne (ne b ob e)]; exact u.free b ob e n hx, u.there,
    fun b xs e => by rw [upd_ne (ne_of_none (u.tups b xs e) hn)]; exact u.tups b xs e, fun b ob v e => by rw [upd_ne (ne_of_none (u.frzs b ob v e) hn)]; exact u.frzs b ob v e,
    fun b ps e => by obtain ⟨m, q⟩ := u.tbls b ps e; exact ⟨m, by rw [upd_ne (ne_of_none q hn)]; exact q⟩⟩
theorem nlt {a b : Addr} (h : a < b) : @LT.lt Nat instLTNat a b := h
theorem lc_start {N : List Str} {sel : List (Option Nat)} {scope : Scope} {fp : List Addr} {D C : Addr} {s4 : Shared} {XS : List (Str × NameKind)} (S : LcScope X.N XS N sel scope) (hXS : X.env.scope.names = XS) (I : Inv X pins σ H s) (ff : ∀ b ∈ fp, FpOk X pins H b) (fo : ∀ b ∈ fp, ∃ o, s.heap.get? b = some o)
    (hD : (D : Nat) = s.heap.objs.size) (hC : (C : Nat) = s.heap.objs.size + 1)
    (h4 : s4 = { s with heap := pushCells ((s.heap.push { cls := .type "list", data := .seq #[] }).push { cls := .type "dict", data := .dict #[] }) scope.names }) :
    Inv (lcCx X N scope C fp s H) (X.pn ++ pins ++ [(D, { cls := .type "list", data := .seq #[] })]) (selSt sel σ) H s4 := by
  have k0 : ∀ b o, s.heap.get? b = some o → s4.heap.get? b = some o := fun b o e => by
    rw [h4]; exact pushCells_keeps _ _ _ _ (Heap.get?_push_of_some _ (Heap.get?_push_of_some _ e))
  have sz1 : (s.heap.push { cls := .type "list", data := .seq #[] }).objs.size = s.heap.objs.size + 1 := Heap.size_push ..
  have sz2 : ((s.heap.push { cls := .type "list", data := .seq #[] }).push { cls := .type "dict", data := .dict #[] }).objs.size = s.heap.objs.size + 1 + 1 := by rw [Heap.size_push, sz1]
  have hfr : ∀ y ∈ scope.names, y.2 = .free → ∃ c, X.env.cells.lookup y.1 = some c := fun y hy e => I.ok.has y.1 (by show X.env.scope.names.lookup y.1 = _ ∨ X.env.scope.names.lookup y.1 = _; rw [hXS]; exact (S.frees y hy e).2)
  have old : ∀ x c, (closL X.env scope.names []).lookup x = some c → X.env.cells.lookup x = some c ∧ (x, NameKind.free) ∈ scope.names := fun x c e => by
    rcases closL_get hfr e with q | q
    · cases q
    · exact q
  have oldlt : ∀ x c, X.env.cells.lookup x = some c → c < s.heap.objs.size := fun x c e => by
    obtain ⟨v, o, ho, _⟩ := I.cell x c e
    exact Heap.lt_size ho
  have cs : ∀ x c, (lcEnv X scope C).cells.lookup x = some c → (X.env.cells.lookup x = some c ∧ (x, NameKind.free) ∈ scope.names) ∨ (C < c ∧ s4.heap.IsCell c none) := fun x c e => by
    have e' : (cellsFrom (C + 1) scope.names (closL X.env scope.names [])).lookup x = some c := e
    rw [hC, ← sz2] at e'
    rcases cellsFrom_get e' with q | ⟨q1, q2⟩
    · exact .inl (old x c q)
    · rw [sz2] at q1
      exact .inr ⟨by rw [hC]; (delta Addr at *; omega), by rw [h4]; exact q2⟩
  have fsub : ∀ b ∈ frs X.stack, H b = none := I.stkFree
  have fne : ∀ b ∈ fp, b < s.heap.objs.size := fun b hb => by obtain ⟨o, e⟩ := fo b hb; exact Heap.lt_size e
  have fstk : ∀ b ∈ fp, b ∉ frs X.stack := fun b hb z => by
    obtain ⟨_, f1, f2, _⟩ := ff b hb
    rcases List.mem_cons.mp (I.stkSub b z) with e | e
    · exact f1 e
    · exact f2 e
  have hCn : H C = none := I.hok.fresh (by rw [hC]; omega)
  have hDn : H D = none := I.hok.fresh (by rw [hD]; exact Nat.le_refl _)
  have nstk : ∀ b, s.heap.objs.size ≤ b → b ∉ frs X.stack := fun b hb z => by
    rcases List.mem_cons.mp (I.stkSub b z) with e | e
    · have := nlt I.lt; (delta Addr at *; omega)
    · exact I.nofs hb e
  have kin : ∀ x, (lcEnv X scope C).kindOf x = some .cell ∨ (lcEnv X scope C).kindOf x = some .free → scope.names.lookup x = some .cell ∨ scope.names.lookup x = some .free := fun x h => by
    rcases h with h | h
    · rcases relabel_get h with q | ⟨_, q⟩
      · exact .inl q
      · exact .inr q
    · rcases relabel_get h with q | ⟨q, _⟩
      · exact .inr q
      · cases q
  refine ⟨⟨I.ok.mod, S.kind, I.ok.glob, I.ok.blt, by show s.heap.objs.size ≤ C; (delta Addr at *; omega), ?inj, ?has, ?cab, I.ok.hd, I.ok.frames, .inl rfl, ?exf, I.bs, Nat.le_trans I.ok.bsz I.sz, ?noex, fstk, I.stack, fsub⟩, by rw [h4]; rfl, by rw [h4]; exact I.bare, Un.kept k0, ?loc, ?cell, hCn, ?freeC, ?pin, I.hok.kept k0, ?len⟩
  case inj =>
    intro x y c e1 e2
    refine cellsFrom_one (n := C + 1) (fun x c e => ?_) (fun x y c e1 e2 => I.ok.inj x y c (old x c e1).1 (old y c e2).1) x y c e1 e2
    have := nlt (oldlt x c (old x c e).1)
    (delta Addr at *; omega)
  case has =>
    intro x hx
    show ∃ c, (cellsFrom (C + 1) scope.names (closL X.env scope.names [])).lookup x = some c
    refine Option.isSome_iff_exists.mp (PySem.W.cellsFrom_some scope.names (C + 1) _ ?_)
    rcases kin x hx with q | q
    · exact .inl q
    · exact .inr (Option.isSome_iff_exists.mpr (closL_has (.inl (PySem.mem_of_lookup q))))
  case cab =>
    intro x c hx e
    have hx' : scope.names.lookup x = some .cell := of_decide_eq_true hx
    show s.heap.objs.size ≤ c
    rcases cs x c e with ⟨_, q⟩ | ⟨q, _⟩
    · have := (S.frees _ q rfl).1
      rw [hx'] at this
      cases this
    · (delta Addr at *; omega)
  case exf =>
    intro b hb
    have hlt := nlt (fne b hb)
    refine ⟨by show b ≠ C; (delta Addr at *; omega), fun x c e => ?_⟩
    obtain ⟨_, _, _, _, f4, _⟩ := ff b hb
    rcases cs x c e with ⟨q, _⟩ | ⟨q, _⟩
    · exact f4 x c q
    · (delta Addr at *; omega)
  case noex =>
    intro b o e hb
    obtain ⟨_, _, _, f3, _⟩ := ff b hb
    rcases f3 with z | z
    · exact I.ok.noex b o e z
    · have := nlt (Heap.lt_size (I.ok.bs b o e).1)
      (delta Addr at *; omega)
  case loc =>
    have hns : s4.heap.Ns C fun _ => none := by
      rw [h4, hC, ← sz1]
      exact (Heap.Ns.new _ (.type "dict")).keeps (pushCells_keeps _ _)
    refine ⟨_, hns, fun i x v e1 e2 e3 => ?_⟩
    unfold selSt at e2
    rw [List.getElem?_map] at e2
    cases q : sel[i]? with
    | none => rw [q] at e2; cases e2
    | some o =>
      rw [q] at e2
      cases o with
      | none => cases e2
      | some j =>
        have e2' : (σ[j]?).bind id = some v := Option.some.inj e2
        cases qj : σ[j]? with
        | none => rw [qj] at e2'; cases e2'
        | some ov =>
          rw [qj] at e2'
          have ev : ov = some v := e2'
          subst ev
          obtain ⟨n1, n2⟩ := S.sels i j x e1 q
          obtain ⟨sf, se⟩ := S.frees _ n2 rfl
          rw [← hXS] at se
          have vis : Vis X.env.scope x := by
            rcases se with z | z
            · exact .inr (.inl z)
            · exact .inr (.inr z)
          obtain ⟨m, _, hl⟩ := I.loc
          obtain ⟨u, ru, lk⟩ := hl j x v n1 qj vis
          refine ⟨u, ru, .inr ?_⟩
          have hcell : ∃ c, X.env.cells.lookup x = some c ∧ s.heap.IsCell c (some u) := by
            rcases lk with ⟨z, _⟩ | ⟨_, c, z1, z2⟩
            · exfalso
              have z' : X.env.scope.names.lookup x = some .local := z
              have se' : X.env.scope.names.lookup x = some .cell ∨ X.env.scope.names.lookup x = some .free := se
              rcases se' with q' | q' <;> (rw [z'] at q'; cases q')
            · exact ⟨c, z1, z2⟩
          obtain ⟨c, z1, z2⟩ := hcell
          obtain ⟨c', hc'⟩ : ∃ c, (lcEnv X scope C).cells.lookup x = some c := by
            show ∃ c, (cellsFrom (C + 1) scope.names (closL X.env scope.names [])).lookup x = some c
            exact Option.isSome_iff_exists.mp (PySem.W.cellsFrom_some scope.names (C + 1) _ (.inr (Option.isSome_iff_exists.mpr (closL_has (.inl n2)))))
          have hnc : ∀ d, (lcEnv X scope C).cells.lookup x = some d → d = c := fun d hd => by
            have e' : (cellsFrom (C + 1) scope.names (closL X.env scope.names [])).lookup x = some d := hd
            have nocell : ∀ (names : List (Str × NameKind)) (n : Nat) (acc : List (Str × Addr)), (∀ y ∈ names, y.1 = x → y.2 ≠ .cell) → (cellsFrom n names acc).lookup x = acc.lookup x := by
              intro names
              induction names with
              | nil => intro n acc _; rfl
              | cons y r ih =>
                intro n acc hy
                obtain ⟨m', k'⟩ := y
                unfold cellsFrom
                have hr : ∀ y ∈ r, y.1 = x → y.2 ≠ .cell := fun y h => hy y (List.mem_cons_of_mem _ h)
                by_cases hk : (k' == NameKind.cell) = true
                · rw [if_pos hk, ih _ _ hr, List.lookup_cons]
                  have hne : (x == m') = false := by
                    cases hx : (x == m') with
                    | false => rfl
                    | true =>
                      have h1 : x = m' := by simpa using hx
                      exact absurd (by simpa using hk) (hy (m', k') List.mem_cons_self h1.symm)
                  rw [hne]
                · rw [if_neg hk, ih _ _ hr]
            rw [nocell scope.names (C + 1) _ (fun y hy hyx hyc => ?_)] at e'
            · have := (old x d e').1
              rw [z1] at this
              exact (Option.some.inj this).symm
            · exact S.apart y hy hyc (by rw [hyx]; exact n2)
          have hk : (lcEnv X scope C).kindOf x = some .cell ∨ (lcEnv X scope C).kindOf x = some .free := relabel_free sf
          refine ⟨hk, c, by show (lcEnv X scope C).cells.lookup x = some c; rw [hc', hnc c' hc'], ?_⟩
          exact z2.keeps k0
  case cell =>
    intro x c e
    rcases cs x c e with ⟨q, _⟩ | ⟨_, q⟩
    · obtain ⟨v, hv⟩ := I.cell x c q
      exact ⟨v, hv.keeps k0⟩
    · exact ⟨none, q⟩
  case freeC =>
    intro x c e
    rcases cs x c e with ⟨q, _⟩ | ⟨q, _⟩
    · exact I.freeC x c q
    · exact I.hok.fresh (by (delta Addr at *; omega))
  case pin =>
    intro p hp
    have hp' : p ∈ X.pn ++ pins ++ [(D, { cls := .type "list", data := .seq #[] })] := hp
    rcases List.mem_append.mp hp' with z | z
    · obtain ⟨e, n, n1, n2, d⟩ := I.pin p z
      have hlt := Heap.lt_size e
      refine ⟨k0 _ _ e, n, by show p.1 ≠ C; (delta Addr at *; omega), fun hb => ?_, d⟩
      rcases List.mem_cons.mp (I.stkSub p.1 hb) with e' | e'
      · exact n1 e'
      · exact n2 e'
    · have e : p = (D, { cls := .type "list", data := .seq #[] }) := by simpa using z
      subst e
      refine ⟨?_, hDn, by show D ≠ C; (delta Addr at *; omega), nstk D (by (delta Addr at *; omega)), fun v q => nomatch q⟩
      rw [h4, hD]
      exact pushCells_keeps _ _ _ _ (Heap.get?_push_of_some _ (Heap.get?_push_size _ rfl))
  case len =>
    show (selSt sel σ).length = N.length
    unfold selSt
    rw [List.length_map, S.len]
theorem FpOk.of {X : Cx} {pins : List (Addr × Obj)} {H H' : Hp} {b : Addr} (f : FpOk X pins H b) (h : H' b = none) : FpOk X pins H' b := ⟨h, f.2⟩
theorem lc_end {N : List Str} {scope : Scope} {fp : List Addr} {D C : Addr} {s' : Shared} {σ' : St} {H' : Hp} {ys : List V} {its : List Value} {n : Nat} (I : Inv X pins σ H s) (ff : ∀ b ∈ fp, FpOk X pins H b) (hD : (D : Nat) = s.heap.objs.size)
    (J : Inv (lcCx X N scope C fp s H) (X.pn ++ pins ++ [(D, { cls := .type "list", data := .seq its.toArray n })]) σ' H' s') (r : Vals ys its) (hz : ys.length ≤ sizeLine) : Inv X pins σ (upd H' D (.lst ys)) s' := by
  obtain ⟨e, hn, _⟩ := J.pin (D, { cls := .type "list", data := .seq its.toArray n }) (by show _ ∈ [] ++ _; simp)
  have hg : s.heap.get? D = none := Heap.get?_none_of_le (by rw [hD]; exact Nat.le_refl _)
  refine I.call' (ch := fp) J.os (Un.track J.base hg hn) (J.hok.track hn ⟨hz, its, n, r, e⟩) J.bare fun b hb => ?_
  obtain ⟨_, f1, _, f3, f4, f5⟩ := ff b hb
  exact ⟨f3, f1, f4, f5⟩
theorem lc_block {N : List Str} {sel : List (Option Nat)} {scope : Scope} {XS : List (Str × NameKind)} {tg iter elt : Expr} {ifs : List Expr} {pos : Pos} {g : TG} {tt : TW} {te : TE} {it : Addr} {fp : List Addr} {tn : Nat → Heap → Prop} {Jt : It} {E : Value → Shared → Prop}
    {Q : VK} (S : LcScope X.N XS N sel scope) (hXS : X.env.scope.names = XS) (hc : X.calm = true)
    (hg : ∀ C fp s H, PG (lcCx X N scope C fp s H) tg g) (ht : ∀ C fp s H, PIf (lcCx X N scope C fp s H) ifs tt) (he : ∀ C fp s H, PE (lcCx X N scope C fp s H) elt te)
    (I : Inv X pins σ H s) (T : Turn X.prog X.w X.K tg Jt fp it tn) (st : tn 0 s.heap) (ff : ∀ b ∈ fp, FpOk X pins H b)
    (W : Nat → Nat → List V → Hp → Prop) (m0 : Nat) (w0 : W 0 m0 [] H)
    (turn : ∀ i m ys H2, W i m ys H2 → (Jt.stop i H2 ∧ ∀ l, H2 l = none → Q (.ref l) (upd H2 l (.lst ys))) ∨
      (Jt.go i H2 ∧ ys.length < sizeLine ∧ ∀ x H3, Jt.yld i H2 x H3 → g x (selSt sel σ) H3 fun σ4 H4 => KeepSt (selSt sel σ) σ4 ∧ tt σ4 H4 fun b H5 =>
        if b = true then te σ4 H5 fun y H6 => ∃ m', m' < m ∧ W (i + 1) m' (ys ++ [y]) H6 else ∃ m', m' < m ∧ W (i + 1) m' ys H5)) :
    wpAny (model X.prog X.w) X.A (newList []) (fun acc s3 => wpAny (model X.prog X.w) X.A (newFunctionEnv scope X.env.globals (closL X.env scope.names []) [] X.env.qual none .none (some X.env)) (fun cenv s4 =>
      codeAny (model X.prog X.w) X.A (.compStart (.ListComp elt [⟨tg, iter, ifs, 0⟩] scope pos) 0 (.ref it) acc { cenv with scope := relabel scope X.env }) (fun r s' =>
        ∃ D ys H', acc = .ref D ∧ r = .ok .next ∧ Inv X pins σ (upd H' D (.lst ys)) s' ∧ H' D = none ∧ (∃ m, s'.heap.Ns cenv.locals m) ∧ FpOk X pins (upd H' D (.lst ys)) cenv.locals ∧ Q (.ref D) (upd H' D (.lst ys))) s4) E s3) E s := by
  refine wpAny_newObj_type (lc_env ?_)
  have sz1 : (s.heap.push { cls := .type "list", data := .seq ([] : List Value).toArray }).objs.size = s.heap.objs.size + 1 := Heap.size_push ..
  generalize h4 : ({ s with heap := pushCells ((s.heap.push { cls := .type "list", data := .seq ([] : List Value).toArray }).push { cls := .type "dict", data := .dict #[] }) scope.names } : Shared) = s4
  have fo : ∀ b ∈ fp, ∃ o, s.heap.get? b = some o := fun b hb => by obtain ⟨o, e, _⟩ := T.obj 0 _ st b hb; exact ⟨o, e⟩
  have fne : ∀ b ∈ fp, b < s.heap.objs.size := fun b hb => by obtain ⟨o, e⟩ := fo b hb; exact Heap.lt_size e
  generalize hD : s.heap.objs.size = D
  have hC : (s.heap.push { cls := .type "list", data := .seq ([] : List Value).toArray }).objs.size = D + 1 := by rw [sz1, hD]
  have B0 : Inv (lcCx X N scope (D + 1) fp s H) (X.pn ++ pins ++ [(D, { cls := .type "list", data := .seq #[] })]) (selSt sel σ) H s4 := lc_start S hXS I ff fo hD.symm (by rw [hD]) h4.symm
  have k4 : ∀ b o, s.heap.get? b = some o → s4.heap.get? b = some o := fun b o e => by
    rw [← h4]; exact pushCells_keeps _ _ _ _ (Heap.get?_push_of_some _ (Heap.get?_push_of_some _ e))
  have st4 : tn 0 s4.heap := T.keep _ _ _ st fun b _ o e => k4 b o e
  have fpL : ∀ (pl : List (Addr × Obj)) (H2 : Hp), (∀ p ∈ pl, p.1 = D ∨ p ∈ X.pn ++ pins) → (∀ b ∈ fp, H2 b = none) → ∀ b ∈ fp, FpOk (lcCx X N scope (D + 1) fp s H) pl H2 b := fun pl H2 hpl hn b hb => by
    obtain ⟨x1, x2⟩ := B0.ok.exf b hb
    refine ⟨hn b hb, x1, B0.ok.exfs b hb, .inl hb, x2, fun p hp => ?_⟩
    have hp' : p ∈ [] ++ pl := hp
    rw [List.nil_append] at hp'
    have hlt := nlt (fne b hb)
    rcases hpl p hp' with z | z
    · (delta Addr at *; omega)
    · obtain ⟨_, _, _, _, _, f5⟩ := ff b hb
      exact f5 p z
  have loop : codeAny (model X.prog X.w) X.A (.compLoop (.ListComp elt [⟨tg, iter, ifs, 0⟩] scope pos) 0 (.ref it) (.ref D) (lcEnv X scope (D + 1))) (fun r s' =>
      ∃ D' ys H', Value.ref D = .ref D' ∧ r = .ok .next ∧ Inv X pins σ (upd H' D' (.lst ys)) s' ∧ H' D' = none ∧ (∃ m, s'.heap.Ns (D + 1) m) ∧ FpOk X pins (upd H' D' (.lst ys)) (D + 1) ∧ Q (.ref D') (upd H' D' (.lst ys))) s4 := by
    refine lc_turns (fun n s' => ∃ i ys its k H2, Inv (lcCx X N scope (D + 1) fp s H) (X.pn ++ pins ++ [(D, { cls := .type "list", data := .seq its.toArray k })]) (selSt sel σ) H2 s' ∧ tn i s'.heap ∧ (∀ b ∈ fp, H2 b = none) ∧ Vals ys its ∧ ys.length ≤ sizeLine ∧ W i n ys H2) ?_ m0
      ⟨0, [], [], 0, H, B0, st4, fun b hb => (ff b hb).1, .nil, Nat.zero_le _, w0⟩
    rintro n s1 ⟨i, ys, its, k, H2, J, st1, fn1, rv, hz, w1⟩
    have pl0 : ∀ p ∈ X.pn ++ pins ++ [(D, ({ cls := .type "list", data := .seq its.toArray k } : Obj))], p.1 = D ∨ p ∈ X.pn ++ pins := fun p hp => by
      rcases List.mem_append.mp hp with z | z
      · exact .inr z
      · have : p = _ := List.mem_singleton.mp z
        exact .inl (by rw [this])
    rcases turn i n ys H2 w1 with ⟨stop, q⟩ | ⟨go, hlt, step⟩
    · refine thn (T.done (lcCx X N scope (D + 1) fp s H) rfl rfl rfl hc i _ s1 _ H2 (fun _ _ => False) J (fpL _ H2 pl0 fn1) st1 stop) fun r s2 ⟨hr, J2⟩ => ?_
      subst hr
      have hDn : H2 D = none := (J2.pin (D, { cls := .type "list", data := .seq its.toArray k }) (by show _ ∈ [] ++ _; simp)).2.1
      have I2 : Inv X pins σ (upd H2 D (.lst ys)) s2 := lc_end I ff hD.symm J2 rv hz
      have hCn : (upd H2 D (.lst ys)) (D + 1) = none := by rw [upd_ne (by (delta Addr at *; omega))]; exact J2.free
      obtain ⟨m, hns, _⟩ := J2.loc
      refine ⟨D, ys, H2, rfl, rfl, I2, hDn, ⟨m, hns⟩, (I.fpOk (H' := upd H2 D (.lst ys)) (by omega) hCn), q D hDn⟩
    · refine thn (T.item (lcCx X N scope (D + 1) fp s H) rfl rfl rfl hc i _ s1 _ H2 (fun _ _ => False) J (fpL _ H2 pl0 fn1) st1 go) fun r s2 ⟨u, hr, h2⟩ => ?_
      subst hr
      refine thn h2 fun _ s3 ⟨x, H3, J3, r3, y3, st3, fr3⟩ => ?_
      have J3' := J3.pinned (fpL _ H3 pl0 fr3) (T.obj _ _ st3)
      refine thn (hg (D + 1) fp s H _ s3 _ H3 x u _ J3' r3 (step x H3 y3)) fun _ s4' ⟨σ4, H4, J4, kp, q4⟩ => ?_
      refine thn (ht (D + 1) fp s H _ s4' σ4 H4 _ J4 q4) fun ok s5 ⟨H5, J5, q5⟩ => ?_
      have back : ∀ {H6 : Hp} {s6 : Shared}, Inv (lcCx X N scope (D + 1) fp s H) (X.pn ++ pins ++ [(D, { cls := .type "list", data := .seq its.toArray k })] ++ pinsAt fp s3.heap) σ4 H6 s6 → tn (i + 1) s6.heap ∧ (∀ b ∈ fp, H6 b = none) ∧ Inv (lcCx X N scope (D + 1) fp s H) (X.pn ++ pins ++ [(D, { cls := .type "list", data := .seq its.toArray k })]) (selSt sel σ) H6 s6 := fun {H6 s6} J6 => by
        refine ⟨T.keep _ _ _ st3 fun b hb o e => (J6.pin (b, o) (List.mem_append_right _ (List.mem_append_right _ (mem_pinsAt hb e)))).1, fun b hb => ?_, J6.unpinned.weak kp.1.symm kp.2⟩
        obtain ⟨o, e, d⟩ := T.obj _ _ st3 b hb
        exact (J6.pin (b, o) (List.mem_append_right _ (List.mem_append_right _ (mem_pinsAt hb e)))).2.1
      cases ok with
      | false =>
        rw [if_neg Bool.false_ne_true] at q5 ⊢
        obtain ⟨m', hm, w5⟩ := q5
        obtain ⟨b1, b2, b3⟩ := back J5
        exact ⟨m', hm, i + 1, ys, its, k, H5, b3, b1, b2, rv, hz, w5⟩
      | true =>
        rw [if_pos rfl] at q5 ⊢
        refine thn (he (D + 1) fp s H _ s5 σ4 H5 _ J5 q5) fun y s6 ⟨yv, H6, J6, r6, m', hm, w6⟩ => ?_
        obtain ⟨b1, b2, b3⟩ := back J6
        obtain ⟨pe, pn, p1, p2, p3⟩ := b3.pin (D, { cls := .type "list", data := .seq its.toArray k }) (by show _ ∈ [] ++ _; simp)
        have hlen := rv.length
        refine wpAny_list_append_plain (hsz := by rw [List.size_toArray]; omega) ⟨k, pe⟩ fun h7 hl7 sb7 => ?_
        obtain ⟨k', e7⟩ := hl7
        have e7' : h7.get? D = some { cls := .type "list", data := .seq (its ++ [y]).toArray k' } := by rw [e7]; simp
        have hDC : D ≠ D + 1 := by omega
        have P0 : Inv (lcCx X N scope (D + 1) fp s H) (X.pn ++ pins) (selSt sel σ) H6 s6 := b3.pins_of fun p hp => b3.pin p (List.mem_append_right _ (List.mem_append_left _ hp))
        have J7 : Inv (lcCx X N scope (D + 1) fp s H) (X.pn ++ pins) (selSt sel σ) H6 { s6 with heap := h7 } := by
          refine P0.turned (it := D) (t' := s6.toks) (fun b o hb e => (sb7.2 b hb).trans e) pn p1 (.inr (by show s.heap.objs.size ≤ D; omega)) (fun z c ez hcd => ?_) fun p hp hpd => ?_
          · obtain ⟨v, o, ho, hdat⟩ := b3.cell z c ez
            rw [hcd, pe] at ho
            cases ho
            exact p3 v hdat
          · have hp' : p ∈ [] ++ (X.pn ++ pins) := hp
            rw [List.nil_append] at hp'
            have := nlt (Heap.lt_size (I.pin p hp').1)
            have h9 : @Eq Nat p.1 D := hpd
            (delta Addr at *; omega)
        have J8 : Inv (lcCx X N scope (D + 1) fp s H) (X.pn ++ pins ++ [(D, { cls := .type "list", data := .seq (its ++ [y]).toArray k' })]) (selSt sel σ) H6 { s6 with heap := h7 } := by
          refine J7.pins_of fun p hp => ?_
          rcases List.mem_append.mp hp with z | z
          · exact J7.pin p (List.mem_append_right _ z)
          · have : p = _ := List.mem_singleton.mp z
            subst this
            exact ⟨e7', pn, p1, p2, fun v q => nomatch q⟩
        refine ⟨m', hm, i + 1, ys ++ [yv], its ++ [y], k', H6, J8, T.keep _ _ _ b1 fun b hb o e => (sb7.2 b (by have := nlt (fne b hb); (delta Addr at *; omega))).trans e, b2, rv.append (.cons r6 .nil), ?_, w6⟩
        rw [List.length_append, List.length_singleton]
        omega
  rw [hC]
  exact codeAny_compStart_list loop (thn (T.self X.A 0 s4 _ _ st4 loop) fun _ _ z => z)
end
section
variable {X : Cx} {N : List Str} {sel : List (Option Nat)} {scope : Scope} {XS : List (Str × NameKind)} {tg iter elt : Expr} {ifs : List Expr} {pos : Pos} {wi : TI} {g : TG} {tt : TW} {te : TE}
theorem Inv.letgo {pins : List (Addr × Obj)} {σ : St} {H : Hp} {s : Shared} {C : Addr} {h' : Heap} (I : Inv X pins σ H s) (f : FpOk X pins H C) (hs : Heap.SameBut C s.heap h') : Inv X pins σ H { s with heap := h' } :=
  I.turned (it := C) (t' := s.toks) (fun b o hb e => (hs.2 b hb).trans e) f.1 f.2.1 f.2.2.2.1 f.2.2.2.2.1 f.2.2.2.2.2
theorem lc_frees (S : LcScope X.N XS N sel scope) (hXS : X.env.scope.names = XS) {pins : List (Addr × Obj)} {σ : St} {H : Hp} {s : Shared} (I : Inv X pins σ H s) : ∀ y ∈ scope.names, y.2 = .free → ∃ c, X.env.cells.lookup y.1 = some c := fun y hy e =>
  I.ok.has y.1 (by show X.env.scope.names.lookup y.1 = _ ∨ X.env.scope.names.lookup y.1 = _; rw [hXS]; exact (S.frees y hy e).2)
theorem pe_lc (S : LcScope X.N XS N sel scope) (hXS : X.env.scope.names = XS) (hc : X.calm = true) (hi : PI X tg iter wi)
    (hg : ∀ C fp s H, PG (lcCx X N scope C fp s H) tg g) (ht : ∀ C fp s H, PIf (lcCx X N scope C fp s H) ifs tt) (he : ∀ C fp s H, PE (lcCx X N scope C fp s H) elt te)
    (hs : ∀ x, foldedSetIterable iter X.env x = pure x := by intro _; rfl) : PE X (.ListComp elt [⟨tg, iter, ifs, 0⟩] scope pos) (tLc wi sel g tt te) := by
  intro pins s σ H Q I h
  rw [eval_ListComp]
  refine wpAny_comprehension_free (use := none) (cl := closL X.env scope.names []) rfl hs (closL_eq (lc_frees S hXS I)) S.kind S.locs ?_
  refine thn (hi pins s σ H _ I h) fun v s1 h1 => thn h1 fun itv s2 h2 => ?_
  obtain ⟨it, fp, tn, J, H2, e, I2, T, st2, f2, W, ⟨m0, w0⟩, turn⟩ := h2
  subst e
  refine thn (lc_block S hXS hc hg ht he I2 T st2 f2 W m0 w0 turn) fun acc s3 h3 => thn h3 fun cenv s4 h4 => codeAny_mono h4 fun r s' hr => ?_
  obtain ⟨D, ys, H', rfl, rfl, I', hD, ⟨m, hm⟩, fc, q⟩ := hr
  exact ⟨m, hm, fun h' sb => ⟨.ref D, _, I'.letgo fc sb, rfl, q⟩⟩
theorem ps_setLc {i : Nat} {x : Str} {spos px : Pos} (S : LcScope X.N XS N sel scope) (hXS : X.env.scope.names = XS) (hc : X.calm = true) (hN : X.N.Nodup) (hix : X.N[i]? = some x) (hx : X.env.scope.names.lookup x = some .local) (hi : PI X tg iter wi)
    (hg : ∀ C fp s H, PG (lcCx X N scope C fp s H) tg g) (ht : ∀ C fp s H, PIf (lcCx X N scope C fp s H) ifs tt) (he : ∀ C fp s H, PE (lcCx X N scope C fp s H) elt te)
    (hsw : swapsWith (.ListComp elt [⟨tg, iter, ifs, 0⟩] scope pos) (some (.Name x px)) spos.line X.env = pure true)
    (hs : ∀ x, foldedSetIterable iter X.env x = pure x := by intro _; rfl) : PS X (.Assign [.Name x px] (.ListComp elt [⟨tg, iter, ifs, 0⟩] scope pos) spos) (tAsg (tLc wi sel g tt te) (gName i)) := by
  intro pins s σ H Dn I h
  rw [exec_Assign_Name_used _ _ _ _ hsw]
  refine wpAny_bind (wpAny_standAt (wpAny_bind ?_))
  show wpAny _ X.A (do let _ ← comprehension (.ListComp elt [⟨tg, iter, ifs, 0⟩] scope pos) scope X.env _ (newList []) false (eval iter X.env) (some (assign (.Name x px) X.env))) _ _ s
  refine wpAny_bind (wpAny_mono (wpAny_comprehension_free (use := some (assign (.Name x px) X.env)) (cl := closL X.env scope.names []) (Q := fun _ s' => SP X pins Dn .next s') rfl hs (closL_eq (lc_frees S hXS I)) S.kind S.locs ?_) (fun _ s' hq => wpAny_pure (wpAny_pure hq)) fun _ _ e => e)
  refine thn (hi pins s σ H _ I h) fun v s1 h1 => thn h1 fun itv s2 h2 => ?_
  obtain ⟨it, fp, tn, J, H2, e, I2, T, st2, f2, W, ⟨m0, w0⟩, turn⟩ := h2
  subst e
  refine thn (lc_block (Q := fun x H1 => gName i x σ H1 Dn.nx) S hXS hc hg ht he I2 T st2 f2 W m0 w0 turn) fun acc s3 h3 => thn h3 fun cenv s4 h4 => codeAny_mono h4 fun r s' hr => ?_
  obtain ⟨D, ys, H', rfl, rfl, I', hD, ⟨m, hm⟩, fc, q⟩ := hr
  show wpAny _ X.A (assign (.Name x px) X.env (.ref D)) _ _ _
  refine wpAny_assign_Name (store_ok2 I' hN hix (.inl hx) (v := .ref D) rfl (fun s5 I5 ⟨a, sb, ha⟩ => ?_) (.inr hx))
  have hne : cenv.locals ≠ a := by
    rcases ha with z | z
    · rw [z]; exact fc.2.1
    · exact fun w => fc.2.2.2.2.1 x a z w.symm
  exact ⟨m, hm.sameBut sb hne, fun h' sb' => ⟨_, _, I5.letgo fc sb', q⟩⟩
end
def rm (H : Hp) (a : Addr) : Hp := fun b => if b = a then none else H b
theorem rm_same {H : Hp} {a : Addr} : rm H a a = none := by unfold rm; rw [if_pos rfl]
theorem rm_ne {H : Hp} {a b : Addr} (h : b ≠ a) : rm H a b = H b := by unfold rm; rw [if_neg h]
theorem rm_some {H : Hp} {a b : Addr} {o : HO} (h : rm H a b = some o) : b ≠ a ∧ H b = some o := by
  by_cases e : b = a
  · subst e; rw [rm_same] at h; cases h
  · rw [rm_ne e] at h; exact ⟨e, h⟩
theorem rm_upd {H : Hp} {a : Addr} {o : HO} (h : H a = none) : rm (upd H a o) a = H := by
  funext b
  by_cases e : b = a
  · subst e; rw [rm_same, h]
  · rw [rm_ne e, upd_ne e]
theorem same_rm (H : Hp) (a : Addr) : Same (rm H a) H := fun _ _ h => (rm_some h).2
end L2
namespace PU
open PySem PySem.Spec L2
open PyProof.Rows hiding St
mutual
def Rep (K : PySem.W.Frag) (H : Hp) : D → V → Prop
  | .none, v => v = .non
  | .bool b, v => v = .bl b
  | .int i, v => v = .int i
  | .str x, v => v = .str x
  | .tuple ds, v => ∃ a xs, v = .ref a ∧ SqT K H a xs ∧ Reps K H ds xs
  | .list ds, v => ∃ a xs, v = .ref a ∧ SqL K H a xs ∧ Reps K H ds xs
  | .dict kvs, v => ∃ a : Addr, kvs = [(PyData.int ((a : Nat) : Int), PyData.none)] ∧ v = .ref a
def Reps (K : PySem.W.Frag) (H : Hp) : List D → List V → Prop
  | [], xs => xs = []
  | d :: ds, xs => ∃ v vs, xs = v :: vs ∧ Rep K H d v ∧ Reps K H ds vs
end
section
variable {K : PySem.W.Frag} {H H' H1 H2 : Hp}
theorem sqT_mono (e : Same H H') {a : Addr} {xs : List V} (h : SqT K H a xs) : SqT K H' a xs := by
  rcases h with (h | ⟨o, h⟩) | h
  · exact .inl (.inl (e _ _ h))
  · exact .inl (.inr ⟨o, e _ _ h⟩)
  · exact .inr h
mutual
theorem Rep.mono (e : Same H H') : ∀ {d : D} {v : V}, Rep K H d v → Rep K H' d v
  | .none, _, h => by unfold Rep at h ⊢; exact h
  | .bool _, _, h => by unfold Rep at h ⊢; exact h
  | .int _, _, h => by unfold Rep at h ⊢; exact h
  | .str _, _, h => by unfold Rep at h ⊢; exact h
  | .tuple ds, _, h => by
    unfold Rep at h ⊢
    obtain ⟨a, xs, h1, h2, h3⟩ := h
    exact ⟨a, xs, h1, sqT_mono e h2, Reps.mono e h3⟩
  | .list ds, _, h => by
    unfold Rep at h ⊢
    obtain ⟨a, xs, h1, h2, h3⟩ := h
    exact ⟨a, xs, h1, e.seq h2, Reps.mono e h3⟩
  | .dict _, _, h => by unfold Rep at h ⊢; exact h
theorem Reps.mono (e : Same H H') : ∀ {ds : List D} {vs : List V}, Reps K H ds vs → Reps K H' ds vs
  | [], _, h => by unfold Reps at h ⊢; exact h
  | _ :: _, _, h => by
    unfold Reps at h ⊢
    obtain ⟨v, vs, h1, h2, h3⟩ := h
    exact ⟨v, vs, h1, Rep.mono e h2, Reps.mono e h3⟩
end
theorem Reps.nil : Reps K H [] [] := by unfold Reps; rfl
theorem Reps.cons {d : D} {v : V} {ds : List D} {vs : List V} (h : Rep K H d v) (t : Reps K H ds vs) : Reps K H (d :: ds) (v :: vs) := by unfold Reps; exact ⟨v, vs, rfl, h, t⟩
theorem Reps.uncons {d : D} {ds : List D} {xs : List V} (h : Reps K H (d :: ds) xs) : ∃ v vs, xs = v :: vs ∧ Rep K H d v ∧ Reps K H ds vs := by unfold Reps at h; exact h
theorem Reps.unnil {xs : List V} (h : Reps K H [] xs) : xs = [] := by unfold Reps at h; exact h
theorem Reps.length : ∀ {ds : List D} {vs : List V}, Reps K H ds vs → vs.length = ds.length
  | [], _, h => by rw [h.unnil]; rfl
  | _ :: _, _, h => by
    obtain ⟨v, vs, rfl, _, h3⟩ := h.uncons
    rw [List.length_cons, List.length_cons, Reps.length h3]
theorem Reps.get : ∀ {ds : List D} {vs : List V} {i : Nat} {x : V}, Reps K H ds vs → vs[i]? = some x → ∃ d, ds[i]? = some d ∧ Rep K H d x
  | [], _, _, _, h, e => by rw [h.unnil] at e; simp at e
  | d :: ds, _, i, x, h, e => by
    obtain ⟨v, vs, rfl, h2, h3⟩ := h.uncons
    cases i with
    | zero =>
      rw [List.getElem?_cons_zero] at e ⊢
      cases e
      exact ⟨d, rfl, h2⟩
    | succ i =>
      rw [List.getElem?_cons_succ] at e ⊢
      exact Reps.get h3 e
theorem Reps.getD : ∀ {ds : List D} {vs : List V} {i : Nat} {d : D}, Reps K H ds vs → ds[i]? = some d → ∃ x, vs[i]? = some x ∧ Rep K H d x
  | [], _, _, _, _, e => by simp at e
  | d0 :: ds, _, i, d, h, e => by
    obtain ⟨v, vs, rfl, h2, h3⟩ := h.uncons
    cases i with
    | zero =>
      rw [List.getElem?_cons_zero] at e ⊢
      cases e
      exact ⟨v, rfl, h2⟩
    | succ i =>
      rw [List.getElem?_cons_succ] at e ⊢
      exact Reps.getD h3 e
theorem Reps.append : ∀ {ds es : List D} {vs us : List V}, Reps K H ds vs → Reps K H es us → Reps K H (ds ++ es) (vs ++ us)
  | [], _, _, _, h, t => by rw [h.unnil]; exact t
  | _ :: _, _, _, _, h, t => by
    obtain ⟨v, vs, rfl, h2, h3⟩ := h.uncons
    exact Reps.cons h2 (Reps.append h3 t)
theorem Reps.drop : ∀ {ds : List D} {vs : List V} (n : Nat), Reps K H ds vs → Reps K H (ds.drop n) (vs.drop n)
  | _, _, 0, h => h
  | [], _, n + 1, h => by rw [h.unnil]; exact Reps.nil
  | _ :: _, _, n + 1, h => by
    obtain ⟨v, vs, rfl, h2, h3⟩ := h.uncons
    exact Reps.drop n h3
theorem Reps.take : ∀ {ds : List D} {vs : List V} (n : Nat), Reps K H ds vs → Reps K H (ds.take n) (vs.take n)
  | _, _, 0, h => by rw [List.take_zero, List.take_zero]; exact Reps.nil
  | [], _, n + 1, h => by rw [h.unnil]; exact Reps.nil
  | _ :: _, _, n + 1, h => by
    obtain ⟨v, vs, rfl, h2, h3⟩ := h.uncons
    rw [List.take_succ_cons, List.take_succ_cons]
    exact Reps.cons h2 (Reps.take n h3)
theorem Reps.rep {ds : List D} {vs : List V} (h : Reps K H ds vs) : ∀ n : Nat, Reps K H (List.replicate n ds).flatten (List.replicate n vs).flatten
  | 0 => Reps.nil
  | n + 1 => by
    rw [List.replicate_succ, List.replicate_succ, List.flatten_cons, List.flatten_cons]
    exact h.append (Reps.rep h n)
theorem rep_int {i : Int} {v : V} (h : Rep K H (.int i) v) : v = .int i := by unfold Rep at h; exact h
theorem rep_bool {b : Bool} {v : V} (h : Rep K H (.bool b) v) : v = .bl b := by unfold Rep at h; exact h
theorem rep_none {v : V} (h : Rep K H .none v) : v = .non := by unfold Rep at h; exact h
theorem rep_str {x : Str} {v : V} (h : Rep K H (.str x) v) : v = .str x := by unfold Rep at h; exact h
theorem rep_tup {ds : List D} {v : V} (h : Rep K H (.tuple ds) v) : ∃ a xs, v = .ref a ∧ SqT K H a xs ∧ Reps K H ds xs := by unfold Rep at h; exact h
theorem rep_lst {ds : List D} {v : V} (h : Rep K H (.list ds) v) : ∃ a xs, v = .ref a ∧ SqL K H a xs ∧ Reps K H ds xs := by unfold Rep at h; exact h
theorem rep_opq {a : Addr} {v : V} (h : Rep K H (opq a) v) : v = .ref a := by
  unfold opq Rep at h
  obtain ⟨b, e, rfl⟩ := h
  have e1 := (List.cons.inj e).1
  have e2 : PyData.int ((a : Nat) : Int) = PyData.int ((b : Nat) : Int) := (Prod.mk.inj e1).1
  injection e2 with e3
  have e4 : @Eq Nat a b := Int.ofNat.inj e3
  rw [show a = b from e4]
theorem Rep.ofOpq (a : Addr) : Rep K H (opq a) (.ref a) := by unfold opq Rep; exact ⟨a, rfl, rfl⟩
theorem Rep.ofInt (i : Int) : Rep K H (.int i) (.int i) := by unfold Rep; rfl
theorem Rep.ofBool (b : Bool) : Rep K H (.bool b) (.bl b) := by unfold Rep; rfl
theorem Rep.ofNone : Rep K H .none .non := by unfold Rep; rfl
theorem Rep.ofStr (x : Str) : Rep K H (.str x) (.str x) := by unfold Rep; rfl
theorem Rep.ofTup {a : Addr} {xs : List V} {ds : List D} (h : SqT K H a xs) (t : Reps K H ds xs) : Rep K H (.tuple ds) (.ref a) := by unfold Rep; exact ⟨a, xs, rfl, h, t⟩
theorem Rep.ofLst {a : Addr} {xs : List V} {ds : List D} (h : SqL K H a xs) (t : Reps K H ds xs) : Rep K H (.list ds) (.ref a) := by unfold Rep; exact ⟨a, xs, rfl, h, t⟩
theorem same_upd {p : Addr} (h : H p = none) (o : HO) : Same H (upd H p o) := fun b u q => by rw [upd_ne (ne_of_none q h)]; exact q
theorem Rep.newTup {p : Addr} {xs : List V} {ds : List D} (h : H p = none) (t : Reps K H ds xs) : Rep K (upd H p (.tup xs)) (.tuple ds) (.ref p) := Rep.ofTup (SqT.of upd_same) (t.mono (same_upd h _))
theorem Rep.newLst {p : Addr} {xs : List V} {ds : List D} (h : H p = none) (t : Reps K H ds xs) : Rep K (upd H p (.lst xs)) (.list ds) (.ref p) := Rep.ofLst (SqL.of upd_same) (t.mono (same_upd h _))
theorem reps_ints : ∀ {ns : List Int} {vs : List V}, Reps K H (ns.map PyData.int) vs → vs = ns.map V.int
  | [], _, h => h.unnil
  | _ :: _, _, h => by
    obtain ⟨v, vs, rfl, h2, h3⟩ := Reps.uncons h
    rw [rep_int h2, reps_ints h3]; rfl
theorem reps_of_ints : ∀ (ns : List Int), Reps K H (ns.map PyData.int) (ns.map V.int)
  | [] => Reps.nil
  | i :: r => Reps.cons (Rep.ofInt i) (reps_of_ints r)
end
structure RepSt (K : PySem.W.Frag) (H : Hp) (δ : Dl) (σ : St) : Prop where
  len : δ.length = σ.length
  get : ∀ (i : Nat) (d : D), δ[i]? = some (some d) → ∃ v, σ[i]? = some (some v) ∧ Rep K H d v
section
variable {K : PySem.W.Frag} {H H' : Hp} {δ : Dl} {σ : St}
theorem RepSt.mono (r : RepSt K H δ σ) (e : Same H H') : RepSt K H' δ σ := ⟨r.len, fun i d h => let ⟨v, h1, h2⟩ := r.get i d h; ⟨v, h1, h2.mono e⟩⟩
theorem RepSt.set (r : RepSt K H δ σ) {d : D} {v : V} (h : Rep K H d v) (i : Nat) : RepSt K H (δ.set i (some d)) (σ.set i (some v)) := by
  refine ⟨by rw [List.length_set, List.length_set]; exact r.len, fun j e q => ?_⟩
  by_cases hj : i = j
  · subst hj
    by_cases hl : i < δ.length
    · rw [List.getElem?_set_self hl] at q
      cases q
      exact ⟨v, by rw [List.getElem?_set_self (by rw [← r.len]; exact hl)], h⟩
    · rw [List.getElem?_eq_none (by rw [List.length_set]; omega)] at q
      cases q
  · rw [List.getElem?_set_ne hj] at q ⊢
    exact r.get j e q
end
def tP (K : PySem.W.Frag) (f : Fe) : TE := fun σ H Q => ∃ δ d, RepSt K H δ σ ∧ f δ = some d ∧ ∀ v H', Same H H' → Rep K H' d v → Q v H'
def tPT (K : PySem.W.Frag) (f : Fb) : TT := fun σ H Q => ∃ δ b, RepSt K H δ σ ∧ f δ = some b ∧ ∀ H', Same H H' → Q b H'
def tPA (K : PySem.W.Frag) (f : Fa) : TA := fun σ H Q => ∃ δ ds, RepSt K H δ σ ∧ f δ = some ds ∧ ∀ vs H', Same H H' → Reps K H' ds vs → Q vs H'
structure Pu (X : Cx) (e : Expr) (f : Fe) : Prop where
  un : PE X e (tP X.K f)
structure PuT (X : Cx) (e : Expr) (f : Fb) : Prop where
  un : PT X e (tPT X.K f)
structure PuA (X : Cx) (es : List Expr) (f : Fa) : Prop where
  un : PA X es (tPA X.K f)
theorem bind_some {α β : Type} {o : Option α} {g : α → Option β} {b : β} (h : o.bind g = some b) : ∃ a, o = some a ∧ g a = some b := by
  cases o with
  | none => cases h
  | some a => exact ⟨a, rfl, h⟩
section
variable {X : Cx} {a b c : Expr} {es : List Expr} {pos : Pos} {f g k : Fe} {fa : Fa} {p q : Fb}
theorem PE.imp {e : Expr} {t : TE} {f : Fe} (h : PE X e t) (w : ∀ σ H Q, tP X.K f σ H Q → t σ H Q) : Pu X e f := Pu.mk fun pins s σ H Q I q => h pins s σ H Q I (w σ H Q q)
theorem PT.imp {e : Expr} {t : TT} {f : Fb} (h : PT X e t) (w : ∀ σ H Q, tPT X.K f σ H Q → t σ H Q) : PuT X e f := PuT.mk fun pins s σ H Q I q => h pins s σ H Q I (w σ H Q q)
theorem PA.imp {e : List Expr} {t : TA} {f : Fa} (h : PA X e t) (w : ∀ σ H Q, tPA X.K f σ H Q → t σ H Q) : PuA X e f := PuA.mk fun pos pins s σ H Q I q => h pos pins s σ H Q I (w σ H Q q)
theorem pu_var (i : Nat) {x : Str} (hN : X.N[i]? = some x := by rfl) (hv : Vis X.env.scope x := by first | exact Or.inl rfl | exact Or.inr (Or.inl rfl) | exact Or.inr (Or.inr rfl)) (hd : (x == ("__debug__" : Str)) = false := by decide)
    (hcd : (x == ("__classdict__" : Str)) = false := by decide) : Pu X (.Name x pos) (eVar i) := PE.imp (pe_var hN hv hd hcd) fun σ H Q ⟨δ, d, r, e, q⟩ => by
  unfold eVar at e
  obtain ⟨o, e1, e2⟩ := bind_some e
  have e3 : o = some d := e2
  subst e3
  obtain ⟨v, h1, h2⟩ := r.get i d e1
  exact ⟨v, h1, q v H (Same.refl H) h2⟩
theorem pu_int {i : Int} {j : Nat} : Pu X (.Constant (.int i) j pos) (eC (.int i)) := PE.imp pe_int fun σ H Q ⟨_, _, _, e, q⟩ => by
  cases e
  exact q _ H (Same.refl H) (Rep.ofInt i)
theorem pu_bl {i : Bool} {j : Nat} : Pu X (.Constant (.bool i) j pos) (eC (.bool i)) := PE.imp pe_bl fun σ H Q ⟨_, _, _, e, q⟩ => by
  cases e
  exact q _ H (Same.refl H) (Rep.ofBool i)
theorem pu_non {j : Nat} : Pu X (.Constant .none j pos) (eC .none) := PE.imp pe_non fun σ H Q ⟨_, _, _, e, q⟩ => by
  cases e
  exact q _ H (Same.refl H) Rep.ofNone
theorem pu_str {x : Str} {j : Nat} : Pu X (.Constant (.str x) j pos) (eC (.str x)) := PE.imp pe_str fun σ H Q ⟨_, _, _, e, q⟩ => by
  cases e
  exact q _ H (Same.refl H) (Rep.ofStr x)
theorem pua_nil : PuA X [] aNil := PA.imp pa_nil fun σ H Q ⟨_, _, _, e, q⟩ => by
  cases e
  exact q _ H (Same.refl H) Reps.nil
theorem pua_cons (ha : Pu X a f) (hr : PuA X es fa) (hs : starEach (a :: es) X.env = (false, eval a X.env) :: starEach es X.env := by rfl) : PuA X (a :: es) (aCons f fa) :=
  PA.imp (pa_cons ha.un hr.un hs) fun σ H Q ⟨δ, ds, r, e, q⟩ => by
  obtain ⟨x, e1, e⟩ := bind_some e
  obtain ⟨xs, e2, e⟩ := bind_some e
  cases e
  exact ⟨δ, x, r, e1, fun v H1 s1 h1 => ⟨δ, xs, r.mono s1, e2, fun vs H2 s2 h2 => q _ _ (s1.trans s2) (Reps.cons (h1.mono s2) h2)⟩⟩
theorem oI_some {C : Int → Int → Bool} {r : Int → Int → D} {x y d : D} (h : oI C r x y = some d) : ∃ i j, x = .int i ∧ y = .int j ∧ C i j = true ∧ d = r i j := by
  unfold oI at h
  split at h
  · rename_i i j
    by_cases hc : C i j = true
    · rw [if_pos hc] at h
      cases h
      exact ⟨i, j, rfl, rfl, hc, rfl⟩
    · rw [if_neg hc] at h; cases h
  · cases h
theorem op_of {r : R2} {o : D → D → Option D} (w : ∀ x y d, o x y = some d → ∀ (H : Hp) (vx vy : V) (Q : VK), Rep X.K H x vx → Rep X.K H y vy → (∀ v H', Same H H' → Rep X.K H' d v → Q v H') → r vx vy H Q) :
    ∀ (σ : St) (H : Hp) (Q : VK), tP X.K (eOp o f g) σ H Q → tOp r (tP X.K f) (tP X.K g) σ H Q := fun σ H Q ⟨δ, d, r, e, q⟩ => by
  obtain ⟨x, e1, e⟩ := bind_some e
  obtain ⟨y, e2, e⟩ := bind_some e
  exact ⟨δ, x, r, e1, fun v H1 s1 h1 => ⟨δ, y, r.mono s1, e2, fun u H2 s2 h2 => w x y d e H2 v u Q (h1.mono s2) h2 fun v' H' s' h' => q v' H' ((s1.trans s2).trans s') h'⟩⟩
theorem int_of {C : Int → Int → Prop} {C' : Int → Int → Bool} {r : Int → Int → V} {r' : Int → Int → D} (hC : ∀ i j, C' i j = true → C i j) (hr : ∀ i j H, Rep X.K H (r' i j) (r i j)) :
    ∀ x y d, oI C' r' x y = some d → ∀ (H : Hp) (vx vy : V) (Q : VK), Rep X.K H x vx → Rep X.K H y vy → (∀ v H', Same H H' → Rep X.K H' d v → Q v H') → rI C r vx vy H Q := by
  intro x y d e H vx vy Q hx hy q
  obtain ⟨i, j, rfl, rfl, hc, rfl⟩ := oI_some e
  exact ⟨i, j, rep_int hx, rep_int hy, hC i j hc, q _ H (Same.refl H) (hr i j H)⟩
theorem int_of0 {r : Int → Int → V} {r' : Int → Int → D} (hr : ∀ i j H, Rep X.K H (r' i j) (r i j)) :
    ∀ x y d, oI (fun _ _ => true) r' x y = some d → ∀ (H : Hp) (vx vy : V) (Q : VK), Rep X.K H x vx → Rep X.K H y vy → (∀ v H', Same H H' → Rep X.K H' d v → Q v H') → rI0 r vx vy H Q := by
  intro x y d e H vx vy Q hx hy q
  obtain ⟨i, j, rfl, rfl, hc, rfl⟩ := oI_some e
  exact ⟨i, j, rep_int hx, rep_int hy, q _ H (Same.refl H) (hr i j H)⟩
theorem pu_sub (ha : Pu X a f) (hb : Pu X b g) : Pu X (.BinOp a .Sub b pos) (eOp oSub f g) := PE.imp (pe_op op_sub ha.un hb.un) (op_of (int_of0 fun _ _ _ => Rep.ofInt _))
theorem pu_div (ha : Pu X a f) (hb : Pu X b g) : Pu X (.BinOp a .FloorDiv b pos) (eOp oDiv f g) := PE.imp (pe_op op_fdiv ha.un hb.un) (op_of (int_of (fun i j h => by
  unfold cDiv at h
  rw [Bool.and_eq_true] at h
  exact ⟨of_decide_eq_true h.1, of_decide_eq_true h.2⟩) fun _ _ _ => Rep.ofInt _))
theorem pu_mod (ha : Pu X a f) (hb : Pu X b g) : Pu X (.BinOp a .Mod b pos) (eOp oMod f g) := PE.imp (pe_op op_mod ha.un hb.un) (op_of (int_of (fun i j h => of_decide_eq_true h) fun _ _ _ => Rep.ofInt _))
theorem pu_neg (ha : Pu X a f) : Pu X (.UnaryOp .USub a pos) (eUn oNeg f) := PE.imp (pe_un un_neg ha.un) fun σ H Q ⟨δ, d, r, e, q⟩ => by
  obtain ⟨x, e1, e⟩ := bind_some e
  refine ⟨δ, x, r, e1, fun v H1 s1 h1 => ?_⟩
  cases x with
  | int i =>
    cases e
    exact ⟨i, rep_int h1, q _ H1 s1 (Rep.ofInt _)⟩
  | _ => cases e
structure CmpD (X : Cx) (op : CmpOp) (o : D → D → Option D) : Prop where
  ex : ∃ r : R2, OpR X (compareOp op) r ∧ ∀ x y d, o x y = some d → ∀ (H : Hp) (vx vy : V) (Q : VK), Rep X.K H x vx → Rep X.K H y vy → (∀ v H', Same H H' → Rep X.K H' d v → Q v H') → r vx vy H Q
theorem cd_lt : CmpD X .Lt oLt := ⟨_, op_lt, int_of0 fun _ _ _ => Rep.ofBool _⟩
theorem pu_cmp {op : CmpOp} {o : D → D → Option D} (ho : CmpD X op o) (ha : Pu X a f) (hb : Pu X b g) (hm : behindInMarks op b = false) : Pu X (.Compare a [op] [b] pos) (eOp o f g) := by
  obtain ⟨r, h1, h2⟩ := ho.ex
  exact PE.imp (pe_cmpR h1 ha.un hb.un hm) (op_of h2)
theorem isB_some {d : D} {b : Bool} (h : isB d = some b) : d = .bool b := by
  cases d with
  | bool c => cases h; rfl
  | _ => cases h
theorem test_of {t : TE} (h : ∀ σ H Q, tP X.K f σ H Q → t σ H Q) : ∀ σ H Q, tPT X.K (cB f) σ H Q → tTest t σ H Q := fun σ H Q ⟨δ, b, r, e, q⟩ => by
  obtain ⟨x, e1, e⟩ := bind_some e
  have := isB_some e
  subst this
  exact h _ _ _ ⟨δ, _, r, e1, fun v H' s' h' => ⟨b, rep_bool h', q H' s'⟩⟩
theorem put_cmp {op : CmpOp} {o : D → D → Option D} (ho : CmpD X op o) (ha : Pu X a f) (hb : Pu X b g) (hm : behindInMarks op b = false) : PuT X (.Compare a [op] [b] pos) (cB (eOp o f g)) := by
  obtain ⟨r, h1, h2⟩ := ho.ex
  exact PT.imp (pt_cmpR h1 ha.un hb.un hm) (test_of (op_of h2))
variable {rest : List Expr}
theorem pu_one {op : BoolOp} (h : Pu X a f) : Pu X (.BoolOp op [a] pos) f := ⟨pe_one h.un⟩
theorem pu_and (ha : Pu X a f) (hb : Pu X (.BoolOp .And (b :: rest) pos) g) : Pu X (.BoolOp .And (a :: b :: rest) pos) (eAnd f g) := PE.imp (pe_and ha.un hb.un) fun σ H Q ⟨δ, d, r, e, q⟩ => by
  obtain ⟨x, e1, e⟩ := bind_some e
  obtain ⟨t, e2, e9⟩ := bind_some e
  have := isB_some e2
  subst this
  have e := e9
  refine ⟨δ, _, r, e1, fun v H1 s1 h1 => ⟨t, rep_bool h1, ?_⟩⟩
  cases t with
  | true =>
    rw [if_pos rfl] at e ⊢
    exact ⟨δ, d, r.mono s1, e, fun v2 H2 s2 h2 => q v2 H2 (s1.trans s2) h2⟩
  | false =>
    rw [if_neg Bool.false_ne_true] at e ⊢
    cases e
    exact q _ H1 s1 (Rep.ofBool false)
theorem pu_not (ha : Pu X a f) : Pu X (.UnaryOp .Not a pos) (eNot f) := PE.imp (pe_not ha.un) fun σ H Q ⟨δ, d, r, e, q⟩ => by
  obtain ⟨x, e1, e⟩ := bind_some e
  obtain ⟨t, e2, e9⟩ := bind_some e
  have := isB_some e2
  subst this
  have e := e9
  cases e
  exact ⟨δ, _, r, e1, fun v H1 s1 h1 => ⟨t, rep_bool h1, q _ H1 s1 (Rep.ofBool _)⟩⟩
structure PuW (X : Cx) (e : Expr) (f : Fb) : Prop where
  un : PW X e (tPT X.K f)
theorem PW.imp {e : Expr} {t : TT} {f : Fb} (h : PW X e t) (w : ∀ σ H Q, tPT X.K f σ H Q → t σ H Q) : PuW X e f := PuW.mk fun wh pins s σ H Q I q => h wh pins s σ H Q I (w σ H Q q)
theorem put_w (h : PuW X a p) : PuT X a p := ⟨h.un _⟩
theorem puw_or1 (ha : PuT X a p) : PuW X (.BoolOp .Or [a] pos) p := ⟨pw_or1 ha.un⟩
theorem puw_or (ha : PuT X a p) (hb : PuW X (.BoolOp .Or (b :: rest) pos) q) : PuW X (.BoolOp .Or (a :: b :: rest) pos) (cOr p q) := PW.imp (pw_or ha.un hb.un) fun σ H Q ⟨δ, d, r, e, z⟩ => by
  obtain ⟨t, e1, e⟩ := bind_some e
  refine ⟨δ, t, r, e1, fun H1 s1 => ?_⟩
  cases t with
  | true =>
    rw [if_pos rfl] at e ⊢
    cases e
    exact z H1 s1
  | false =>
    rw [if_neg Bool.false_ne_true] at e ⊢
    exact ⟨δ, d, r.mono s1, e, fun H2 s2 => z H2 (s1.trans s2)⟩
theorem put_not (ha : PuT X a p) : PuT X (.UnaryOp .Not a pos) (cNot p) := PT.imp (pt_not ha.un) fun σ H Q ⟨δ, d, r, e, z⟩ => by
  obtain ⟨t, e1, e⟩ := bind_some e
  cases e
  exact ⟨δ, t, r, e1, fun H1 s1 => z H1 s1⟩
theorem pu_if (hc : PuT X c p) (ha : Pu X a f) (hb : Pu X b g) : Pu X (.IfExp c a b pos) (eIf p f g) := PE.imp (pe_ifExp hc.un ha.un hb.un) fun σ H Q ⟨δ, d, r, e, z⟩ => by
  obtain ⟨t, e1, e⟩ := bind_some e
  refine ⟨δ, t, r, e1, fun H1 s1 => ?_⟩
  cases t with
  | true =>
    rw [if_pos rfl] at e ⊢
    exact ⟨δ, d, r.mono s1, e, fun v2 H2 s2 h2 => z v2 H2 (s1.trans s2) h2⟩
  | false =>
    rw [if_neg Bool.false_ne_true] at e ⊢
    exact ⟨δ, d, r.mono s1, e, fun v2 H2 s2 h2 => z v2 H2 (s1.trans s2) h2⟩
theorem isEmpty_reps {K : PySem.W.Frag} {H : Hp} {ds : List D} {xs : List V} (h : Reps K H ds xs) : xs.isEmpty = ds.isEmpty := by
  cases ds with
  | nil => rw [h.unnil]; rfl
  | cons d ds => obtain ⟨v, vs, rfl, _⟩ := h.uncons; rfl
theorem tru_rep {H : Hp} {d : D} {v : V} {b : Bool} (h : Rep X.K H d v) (e : tru d = some b) : TruV X.K v H b := by
  cases d with
  | none => cases e; rw [rep_none h]; exact rfl
  | bool c => cases e; rw [rep_bool h]; exact rfl
  | int i => cases e; rw [rep_int h]; exact rfl
  | list l =>
    cases e
    obtain ⟨p, xs, rfl, h1, h2⟩ := rep_lst h
    exact .inl ⟨xs, h1, by rw [isEmpty_reps h2]⟩
  | tuple l =>
    cases e
    obtain ⟨p, xs, rfl, h1, h2⟩ := rep_tup h
    exact .inr (.inl ⟨xs, h1, by rw [isEmpty_reps h2]⟩)
  | _ => cases e
theorem put_val (ha : Pu X a f) (he : ∀ whole, isTrue a X.env whole = (do let v ← whole; standAt a.pos; holding [v] (truthy v)) := by intro _; rfl) : PuT X a (cT f) := PT.imp (pt_truth ha.un he) fun σ H Q ⟨δ, d, r, e, z⟩ => by
  obtain ⟨x, e1, e⟩ := bind_some e
  exact ⟨δ, x, r, e1, fun v H1 s1 h1 => ⟨d, tru_rep h1 e, z H1 s1⟩⟩
theorem fit_le {n : Nat} (h : fit n = true) : n ≤ sizeLine := by rw [sizeLine_eq]; exact of_decide_eq_true h
theorem mkT_some {l : List D} {d : D} (h : mkT l = some d) : d = .tuple l ∧ l.length ≤ sizeLine := by
  unfold mkT at h
  split at h
  · rename_i q
    cases h
    exact ⟨rfl, fit_le q⟩
  · cases h
theorem mkL_some {l : List D} {d : D} (h : mkL l = some d) : d = .list l ∧ l.length ≤ sizeLine := by
  unfold mkL at h
  split at h
  · rename_i q
    cases h
    exact ⟨rfl, fit_le q⟩
  · cases h
theorem pu_tup {x1} (h : PuA X es fa) : Pu X (.Tuple es x1 pos) (eTup fa) := PE.imp (pe_tup h.un) fun σ H Q ⟨δ, d, r, e, z⟩ => by
  obtain ⟨xs, e1, e⟩ := bind_some e
  obtain ⟨rfl, hl⟩ := mkT_some e
  exact ⟨δ, xs, r, e1, fun vs H1 s1 h1 => ⟨by rw [h1.length]; exact hl, fun p hp => z _ _ (s1.trans (same_upd hp _)) (Rep.newTup hp h1)⟩⟩
theorem pu_lst (h : PuA X es fa) : Pu X (.List es pos) (eLst fa) := PE.imp (pe_lst h.un) fun σ H Q ⟨δ, d, r, e, z⟩ => by
  obtain ⟨xs, e1, e⟩ := bind_some e
  obtain ⟨rfl, hl⟩ := mkL_some e
  exact ⟨δ, xs, r, e1, fun vs H1 s1 h1 => ⟨by rw [h1.length]; exact hl, fun p hp => z _ _ (s1.trans (same_upd hp _)) (Rep.newLst hp h1)⟩⟩
theorem atI_reps {K : PySem.W.Frag} {H : Hp} {ds : List D} {xs : List V} {i : Int} {d : D} (h : Reps K H ds xs) (e : atI ds i = some d) : ∃ v, atI xs i = some v ∧ Rep K H d v := by
  unfold atI at e ⊢
  rw [h.length]
  obtain ⟨j, e1, e2⟩ := bind_some e
  obtain ⟨v, h1, h2⟩ := h.getD e2
  exact ⟨v, by rw [e1]; exact h1, h2⟩
theorem pu_ix (ha : Pu X a f) (hb : Pu X b g) (hs : PlainIx b := by intro _ _; rfl) : Pu X (.Subscript a b pos) (eOp oIx f g) := PE.imp (pe_ix (ix_list.or ix_tup) ha.un hb.un hs) (op_of fun x y d e H vx vy Q hx hy q => by
  cases y with
  | int i =>
    cases x with
    | list l =>
      obtain ⟨p, xs, e1, h1, h2⟩ := rep_lst hx
      obtain ⟨v, h3, h4⟩ := atI_reps h2 e
      exact .inl ⟨p, xs, i, v, e1, rep_int hy, h1, h3, q v H (Same.refl H) h4⟩
    | tuple l =>
      obtain ⟨p, xs, e1, h1, h2⟩ := rep_tup hx
      obtain ⟨v, h3, h4⟩ := atI_reps h2 e
      exact .inr ⟨p, xs, i, v, e1, rep_int hy, h1, h3, q v H (Same.refl H) h4⟩
    | _ => cases e
  | _ => cases x <;> cases e)
structure CallD (X : Cx) (id : Value) (F : List D → Option D) : Prop where
  ex : ∃ r, CallR X id r ∧ ∀ ds d, F ds = some d → ∀ (H : Hp) (vs : List V) (Q : VK), Reps X.K H ds vs → (∀ v H', Same H H' → Rep X.K H' d v → Q v H') → r vs H Q
theorem call_of {r : List V → Hp → VK → Prop} {F : List D → Option D} (w : ∀ ds d, F ds = some d → ∀ (H : Hp) (vs : List V) (Q : VK), Reps X.K H ds vs → (∀ v H', Same H H' → Rep X.K H' d v → Q v H') → r vs H Q) :
    ∀ σ H Q, tP X.K (eCall F fa) σ H Q → tCB r (tPA X.K fa) σ H Q := fun σ H Q ⟨δ, d, rs, e, q⟩ => by
  obtain ⟨ds, e1, e⟩ := bind_some e
  exact ⟨δ, ds, rs, e1, fun vs H1 s1 h1 => w ds d e H1 vs Q h1 fun v H2 s2 h2 => q v H2 (s1.trans s2) h2⟩
theorem pu_callB {id : String} {F : List D → Option D} {x : Str} {p0 : Pos} (hc : CallD X (.builtin id) F) (hg : Gl X x) (hm : X.mg x = none) (hv : bootBuiltins x = some (.builtin id)) (ha : PuA X (a :: es) fa) (hn : x ≠ "__name__" := by decide)
    (hdb : (x == ("__debug__" : Str)) = false := by decide) (he : starEach (a :: es) X.env = (false, eval a X.env) :: starEach es X.env := by rfl) (hpl : (backTo pos (starEach es X.env)).any (·.1) = false := by rfl) :
    Pu X (.Call (.Name x p0) (a :: es) [] pos) (eCall F fa) := by
  obtain ⟨r, h1, h2⟩ := hc.ex
  exact PE.imp (pe_callB h1 hg hm hv ha.un hn hdb he hpl) (call_of h2)
theorem pu_callTy {T : String} {F : List D → Option D} {x : Str} {p0 : Pos} (hc : CallD X (.type T) F) (hg : Gl X x) (hm : X.mg x = none) (hv : bootBuiltins x = some (.type T)) (ha : PuA X (a :: es) fa) (hn : x ≠ "__name__" := by decide)
    (hdb : (x == ("__debug__" : Str)) = false := by decide) (he : starEach (a :: es) X.env = (false, eval a X.env) :: starEach es X.env := by rfl) (hpl : (backTo pos (starEach es X.env)).any (·.1) = false := by rfl) :
    Pu X (.Call (.Name x p0) (a :: es) [] pos) (eCall F fa) := by
  obtain ⟨r, h1, h2⟩ := hc.ex
  exact PE.imp (pe_callTy h1 hg hm hv ha.un hn hdb he hpl) (call_of h2)
theorem reps1 {K : PySem.W.Frag} {H : Hp} {d : D} {vs : List V} (h : Reps K H [d] vs) : ∃ v, vs = [v] ∧ Rep K H d v := by
  obtain ⟨v, r, rfl, h1, h2⟩ := h.uncons
  rw [h2.unnil]
  exact ⟨v, rfl, h1⟩
theorem reps2 {K : PySem.W.Frag} {H : Hp} {d e : D} {vs : List V} (h : Reps K H [d, e] vs) : ∃ v u, vs = [v, u] ∧ Rep K H d v ∧ Rep K H e u := by
  obtain ⟨v, r, rfl, h1, h2⟩ := h.uncons
  obtain ⟨u, rfl, h3⟩ := reps1 h2
  exact ⟨v, u, rfl, h1, h3⟩
theorem fLen_some {ds : List D} {d : D} (h : fLen ds = some d) : ∃ l, (ds = [.list l] ∨ ds = [.tuple l]) ∧ d = .int l.length := by
  unfold fLen at h
  split at h
  · cases h; exact ⟨_, .inl rfl, rfl⟩
  · cases h; exact ⟨_, .inr rfl, rfl⟩
  · cases h
theorem cd_len : CallD X (.builtin "len") fLen := ⟨_, call_len_seq, fun ds d e H vs Q h q => by
  obtain ⟨l, hd, rfl⟩ := fLen_some e
  rcases hd with rfl | rfl
  · obtain ⟨v, rfl, h1⟩ := reps1 h
    obtain ⟨p, xs, rfl, h2, h3⟩ := rep_lst h1
    exact ⟨p, xs, rfl, .inl h2, by rw [h3.length]; exact q _ H (Same.refl H) (Rep.ofInt _)⟩
  · obtain ⟨v, rfl, h1⟩ := reps1 h
    obtain ⟨p, xs, rfl, h2, h3⟩ := rep_tup h1
    exact ⟨p, xs, rfl, .inr h2, by rw [h3.length]; exact q _ H (Same.refl H) (Rep.ofInt _)⟩⟩
theorem fTuple_some {ds : List D} {d : D} (h : fTuple ds = some d) : ∃ l, (ds = [.list l] ∨ ds = [.tuple l]) ∧ d = .tuple l := by
  unfold fTuple at h
  split at h
  · cases h; exact ⟨_, .inl rfl, rfl⟩
  · cases h; exact ⟨_, .inr rfl, rfl⟩
  · cases h
theorem cd_tuple : CallD X (.type "tuple") fTuple := ⟨_, call_tuple_of, fun ds d e H vs Q h q => by
  obtain ⟨l, hd, rfl⟩ := fTuple_some e
  rcases hd with rfl | rfl
  · obtain ⟨v, rfl, h1⟩ := reps1 h
    obtain ⟨p, xs, rfl, h2, h3⟩ := rep_lst h1
    exact ⟨p, xs, rfl, .inl ⟨h2, fun t ht => q _ _ (same_upd ht _) (Rep.newTup ht h3)⟩⟩
  · obtain ⟨v, rfl, h1⟩ := reps1 h
    obtain ⟨p, xs, rfl, h2, h3⟩ := rep_tup h1
    exact ⟨p, xs, rfl, .inr ⟨h2, q _ H (Same.refl H) (Rep.ofTup h2 h3)⟩⟩⟩
theorem fList_some {ds : List D} {d : D} (h : fList ds = some d) : ∃ l, (ds = [.list l] ∨ ds = [.tuple l]) ∧ d = .list l := by
  unfold fList at h
  split at h
  · cases h; exact ⟨_, .inl rfl, rfl⟩
  · cases h; exact ⟨_, .inr rfl, rfl⟩
  · cases h
theorem cd_list : CallD X (.type "list") fList := ⟨_, call_list_of, fun ds d e H vs Q h q => by
  obtain ⟨l, hd, rfl⟩ := fList_some e
  rcases hd with rfl | rfl
  · obtain ⟨v, rfl, h1⟩ := reps1 h
    obtain ⟨p, xs, rfl, h2, h3⟩ := rep_lst h1
    exact ⟨p, xs, rfl, .inl h2, fun t ht => q _ _ (same_upd ht _) (Rep.newLst ht h3)⟩
  · obtain ⟨v, rfl, h1⟩ := reps1 h
    obtain ⟨p, xs, rfl, h2, h3⟩ := rep_tup h1
    exact ⟨p, xs, rfl, .inr h2, fun t ht => q _ _ (same_upd ht _) (Rep.newLst ht h3)⟩⟩
theorem cd_abs : CallD X (.builtin "abs") fAbs := ⟨_, call_abs, fun ds d e H vs Q h q => by
  unfold fAbs at e
  split at e
  · cases e
    obtain ⟨v, rfl, h1⟩ := reps1 h
    rw [rep_int h1]
    exact ⟨_, rfl, q _ H (Same.refl H) (Rep.ofInt _)⟩
  · cases e⟩
def spP (K : PySem.W.Frag) (n : Nat) (F : List D → Option D) : Sp := fun vs H Q _ => ∃ ds d, ds.length = n ∧ Reps K H ds vs ∧ F ds = some d ∧ ∀ v H', Same H H' → Rep K H' d v → Q v H'
theorem spP_len {K : PySem.W.Frag} {n : Nat} {F : List D → Option D} {ps : List Str} (hn : n = ps.length) (vs : List V) (H : Hp) (Q : VK) (E : XK) (h : spP K n F vs H Q E) : vs.length = ps.length := by
  obtain ⟨ds, d, h1, h2, _⟩ := h
  rw [h2.length, h1, hn]
theorem aLen {δ : Dl} : ∀ {ds : List D} {es : List Fe}, (es.foldr aCons aNil) δ = some ds → ds.length = es.length
  | ds, [], h => by cases h; rfl
  | ds, e :: es, h => by
    obtain ⟨x, _, h⟩ := bind_some h
    obtain ⟨xs, h2, h⟩ := bind_some h
    cases h
    rw [List.length_cons, List.length_cons, aLen h2]
theorem pu_call {kk n : Nat} {f0 : Addr} {fd : FuncData} {ps : List Str} {F : List D → Option D} {x : Str} {p0 : Pos} {E : XK} (F0 : FnOk X.prog X.w X.K X.mg X.base CX0 kk f0 fd ps (spP X.K n F)) (hr : Room kk X.A) (hg : Gl X x) (hm : X.mg x = some (.ref f0))
    (hk : PySem.W.keepIn X.K (.ref f0) = true) (hb : Binds X.K fd ps []) (ha : PuA X (a :: es) fa) (hn : ∀ δ ds, fa δ = some ds → ds.length = n) (hdb : (x == ("__debug__" : Str)) = false := by decide)
    (he : starEach (a :: es) X.env = (false, eval a X.env) :: starEach es X.env := by rfl) (hpl : (backTo pos (starEach es X.env)).any (·.1) = false := by rfl) :
    Pu X (.Call (.Name x p0) (a :: es) [] pos) (eCall F fa) := PE.imp (pe_call F0 hr hg hm hk hb .nil (pass0 (X := X)) ha.un hdb he hpl) fun σ H Q ⟨δ, d, rs, e, q⟩ => by
  obtain ⟨ds, e1, e⟩ := bind_some e
  refine ⟨δ, ds, rs, e1, fun vs H1 s1 h1 => ⟨ds, d, hn δ ds e1, ?_, e, fun v H2 s2 h2 => q v H2 (s1.trans s2) h2⟩⟩
  rw [List.append_nil]
  exact h1
end
end PU
namespace PU
open PySem PySem.Spec L2
open PyProof.Rows hiding St
structure ItD (K : PySem.W.Frag) (ds : List D) (J : It) (H : Hp) : Prop where
  go : ∀ (i : Nat) (H2 : Hp), Same H H2 → i < ds.length → J.go i H2
  yld : ∀ (i : Nat) (H2 : Hp) (x : V) (H3 : Hp), Same H H2 → J.yld i H2 x H3 → i < ds.length → Same H2 H3 ∧ ∃ d, ds[i]? = some d ∧ Rep K H3 d x
  stop : ∀ H2 : Hp, Same H H2 → J.stop ds.length H2
  frm : ∀ (i : Nat) (H2 : Hp) (x : V) (H3 : Hp) (a : Addr) (xs : List V), H2 a = some (.lst xs) → J.yld i H2 x H3 → J.yld i (rm H2 a) x (rm H3 a) ∧ H3 a = some (.lst xs)
def tPI (K : PySem.W.Frag) (f : Fi) : TI := fun σ H R => ∃ δ ds, RepSt K H δ σ ∧ f δ = some ds ∧ ∀ J H', Same H H' → ItD K ds J H' → R J H'
structure PuI (X : Cx) (tg iter : Expr) (f : Fi) : Prop where
  un : PI X tg iter (tPI X.K f)
section
variable {X : Cx} {a b tg iter elt : Expr} {es : List Expr} {pos : Pos} {f g : Fe} {fa : Fa} {fi : Fi} {gf : Fg}
theorem PI.imp {t : TI} {f : Fi} (h : PI X tg iter t) (w : ∀ σ H R, tPI X.K f σ H R → t σ H R) : PuI X tg iter f := PuI.mk fun pins s σ H R I q => h pins s σ H R I (w σ H R q)
theorem itd_list {K : PySem.W.Frag} {H : Hp} {p : Addr} {xs : List V} {ds : List D} (h : SqL K H p xs) (r : Reps K H ds xs) : ItD K ds (Itl K p) H where
  go := fun i H2 s2 hi => by
    obtain ⟨x, h1, _⟩ := r.getD (List.getElem?_eq_getElem hi)
    exact ⟨xs, x, s2.seq h, h1⟩
  yld := fun i H2 x H3 s2 hy hi => by
    obtain ⟨e, hy⟩ := hy
    subst e
    obtain ⟨d, h1, h2⟩ := (r.mono s2).get (hy xs (s2.seq h))
    exact ⟨Same.refl _, d, h1, h2⟩
  stop := fun H2 s2 => ⟨xs, s2.seq h, by rw [r.length]; exact Nat.le_refl _⟩
  frm := fun i H2 x H3 a xs hx hy => by
    obtain ⟨e, hy⟩ := hy
    subst e
    exact ⟨⟨rfl, fun ys h => hy ys ((same_rm _ a).seq h)⟩, hx⟩
theorem itd_tup {K : PySem.W.Frag} {H : Hp} {p : Addr} {xs : List V} {ds : List D} (h : SqT K H p xs) (r : Reps K H ds xs) : ItD K ds (Itt K p) H where
  go := fun i H2 s2 hi => by
    obtain ⟨x, h1, _⟩ := r.getD (List.getElem?_eq_getElem hi)
    exact ⟨xs, x, sqT_mono s2 h, h1⟩
  yld := fun i H2 x H3 s2 hy hi => by
    obtain ⟨e, hy⟩ := hy
    subst e
    obtain ⟨d, h1, h2⟩ := (r.mono s2).get (hy xs (sqT_mono s2 h))
    exact ⟨Same.refl _, d, h1, h2⟩
  stop := fun H2 s2 => ⟨xs, sqT_mono s2 h, by rw [r.length]; exact Nat.le_refl _⟩
  frm := fun i H2 x H3 a xs hx hy => by
    obtain ⟨e, hy⟩ := hy
    subst e
    exact ⟨⟨rfl, fun ys h => hy ys (sqT_mono (same_rm _ a) h)⟩, hx⟩
theorem pui_seq (hl : Pu X a f) : PuI X tg a (iSeq f) := by
  refine ⟨?_⟩
  intro pins s σ H R I h
  obtain ⟨δ, ds, rs, e, q⟩ := h
  obtain ⟨d, e1, e⟩ := bind_some e
  refine thn (hl.un pins s σ H _ I ⟨δ, d, rs, e1, fun v H1 s1 h1 => And.intro s1 h1⟩) fun u s2 ⟨v, H1, I1, rv, s1, h1⟩ => ?_
  cases d with
  | list l =>
    cases e
    obtain ⟨p, xs, rfl, h2, h3⟩ := rep_lst h1
    cases rv
    obtain ⟨its, rv, pl, hz⟩ := I1.list h2
    refine wpAny_pyIter_list pl.isList ?_
    refine ⟨s2.heap.objs.size, [s2.heap.objs.size], _, _, H1, rfl, I1.kept (t' := s2.toks) fun b o e => Heap.get?_push_of_some _ e, turn_list p _, ⟨_, Heap.get?_push_size _ rfl, rfl, rfl⟩, fun b hb => ?_, q _ _ s1 (itd_list h2 h3)⟩
    have e : b = s2.heap.objs.size := by simpa using hb
    subst e
    exact I1.fpOk (Nat.le_refl _) (I1.hok.fresh (Nat.le_refl _))
  | tuple l =>
    cases e
    obtain ⟨p, xs, rfl, h2, h3⟩ := rep_tup h1
    cases rv
    obtain ⟨its, rv, pl, hz⟩ := I1.tuple h2
    refine wpAny_pyIter_tuple (show s2.heap.IsTuple p its.toArray from pl) ?_
    refine ⟨s2.heap.objs.size, [s2.heap.objs.size], _, _, H1, rfl, I1.kept (t' := s2.toks) fun b o e => Heap.get?_push_of_some _ e, turn_tuple p _, ⟨_, Heap.get?_push_size _ rfl, rfl, rfl⟩, fun b hb => ?_, q _ _ s1 (itd_tup h2 h3)⟩
    have e : b = s2.heap.objs.size := by simpa using hb
    subst e
    exact I1.fpOk (Nat.le_refl _) (I1.hok.fresh (Nat.le_refl _))
  | _ => cases e
theorem rngD_length (lo : Int) (n : Nat) : (rngD lo n).length = n := by unfold rngD; rw [List.length_map, List.length_range]
theorem rngD_get (lo : Int) {n i : Nat} (h : i < n) : (rngD lo n)[i]? = some (.int (lo + i)) := by
  unfold rngD
  rw [List.getElem?_map, List.getElem?_range h]
  rfl
theorem itd_rng {K : PySem.W.Frag} {H : Hp} (lo : Int) (n : Nat) : ItD K (rngD lo n) (Itr lo n) H where
  go := fun i H2 _ hi => by rw [rngD_length] at hi; exact hi
  yld := fun i H2 x H3 _ hy hi => by
    obtain ⟨e, hy⟩ := hy
    subst e
    subst hy
    rw [rngD_length] at hi
    exact ⟨Same.refl _, _, rngD_get lo hi, Rep.ofInt _⟩
  stop := fun H2 _ => by rw [rngD_length]; exact Nat.le_refl _
  frm := fun i H2 x H3 a xs hx hy => by
    obtain ⟨e, hy⟩ := hy
    subst e
    exact ⟨⟨rfl, hy⟩, hx⟩
theorem cR_of {i : Int} (h : cR i = true) : -(2 ^ 62) ≤ i ∧ i < 2 ^ 62 := by
  unfold cR at h
  rw [Bool.and_eq_true] at h
  exact ⟨of_decide_eq_true h.1, of_decide_eq_true h.2⟩
theorem pui_rng1 {p0 : Pos} (hg : Gl X "range") (hm : X.mg "range" = none) (ha : PuA X [a] (aCons f aNil)) (hs : starEach [a] X.env = [(false, eval a X.env)] := by rfl) : PuI X tg (.Call (.Name "range" p0) [a] [] pos) (iRng (aCons f aNil)) :=
  PI.imp (pi_range1 hg hm ha.un hs) fun σ H R ⟨δ, ds, rs, e, q⟩ => by
  obtain ⟨as, e1, e⟩ := bind_some e
  refine ⟨δ, as, rs, e1, fun vs H1 s1 h1 => ?_⟩
  obtain ⟨x, _, e2⟩ := bind_some e1
  obtain ⟨xs, e3, e2⟩ := bind_some e2
  cases e3
  cases e2
  cases x with
  | int j =>
    obtain ⟨v, rfl, h2⟩ := reps1 h1
    have e' : (if cR j then some (rngD 0 j.toNat) else none) = some ds := e
    by_cases hc : cR j = true
    · rw [if_pos hc] at e'
      cases e'
      rw [rep_int h2]
      exact ⟨j, rfl, (cR_of hc).1, (cR_of hc).2, q _ _ s1 (itd_rng 0 _)⟩
    · rw [if_neg hc] at e'; cases e'
  | _ => cases e
structure TgD (K : PySem.W.Frag) (g : TG) (gf : Fg) (own : List Nat) : Prop where
  run : ∀ (v : V) (σ : St) (H Hs : Hp) (Q : St → Hp → Prop) (d : D) (δ δ' : Dl), Same Hs H → RepSt K Hs δ σ → Rep K Hs d v → gf d δ = some δ' →
    (∀ σ', RepSt K Hs δ' σ' → σ'.length = σ.length → (∀ i, i ∉ own → σ'[i]? = σ[i]?) → Q σ' H) → g v σ H Q
theorem td_name {K : PySem.W.Frag} (i : Nat) : TgD K (gName i) (gN i) [i] := ⟨fun v σ H Hs Q d δ δ' _ r h e q => by
  cases e
  refine q _ (r.set h i) (List.length_set ..) fun j hj => ?_
  rw [List.getElem?_set_ne (fun z => hj (by simp [z]))]⟩
theorem td_pair {K : PySem.W.Frag} (i j : Nat) : TgD K (gTup K 2 (gCons (gName i) (gCons (gName j) gNil))) (g2 i j) [i, j] := ⟨fun v σ H Hs Q d δ δ' sm r h e q => by
  unfold g2 at e
  split at e
  · rename_i x y
    cases e
    obtain ⟨p, xs, rfl, h1, h2⟩ := rep_tup h
    obtain ⟨vx, vy, rfl, h3, h4⟩ := reps2 h2
    refine ⟨p, _, rfl, sqT_mono sm h1, rfl, vx, _, rfl, vy, _, rfl, rfl, ?_⟩
    refine q _ ((r.set h3 i).set h4 j) (by rw [List.length_set, List.length_set]) fun l hl => ?_
    rw [List.getElem?_set_ne (fun z => hl (by simp [z])), List.getElem?_set_ne (fun z => hl (by simp [z]))]
  · cases e⟩
theorem RepSt.sel {K : PySem.W.Frag} {H : Hp} {δ : Dl} {σ : St} (r : RepSt K H δ σ) (sel : List (Option Nat)) : RepSt K H (selD sel δ) (selSt sel σ) := by
  refine ⟨by unfold selD selSt; rw [List.length_map, List.length_map], fun i d h => ?_⟩
  unfold selD at h
  unfold selSt
  rw [List.getElem?_map] at h ⊢
  cases q : sel[i]? with
  | none => rw [q] at h; cases h
  | some o =>
    rw [q] at h
    cases o with
    | none => cases h
    | some j =>
      have h' : (δ[j]?).bind id = some d := Option.some.inj h
      obtain ⟨od, e1, e2⟩ := bind_some h'
      have e3 : od = some d := e2
      subst e3
      obtain ⟨v, h1, h2⟩ := r.get j d e1
      refine ⟨v, ?_, h2⟩
      show some ((σ[j]?).bind id) = some (some v)
      rw [h1]
      rfl
structure PuIf (X : Cx) (ifs : List Expr) (c : Fb) : Prop where
  un : PIf X ifs (tPT X.K c)
theorem puif_nil : PuIf X [] cTrue := PuIf.mk fun pins s σ H Q I ⟨δ, t, r, e, q⟩ => by
  cases e
  exact pif_nil pins s σ H Q I (q H (Same.refl H))
theorem puif_one {c : Expr} {p : Fb} (h : PuT X c p) : PuIf X [c] p := ⟨pif_one h.un⟩
theorem lc_read {g : TG} {ct : Fb} {fe : Fe} {sel : List (Option Nat)} {own : List Nat} (tg : TgD X.K g gf own) (ho : ∀ i ∈ own, sel[i]? = some none) :
    ∀ σ H Q, tP X.K (eLc fi sel gf ct fe) σ H Q → tLc (tPI X.K fi) sel g (tPT X.K ct) (tP X.K fe) σ H Q := fun σ H Q ⟨δ, d, r, e, q⟩ => by
  obtain ⟨ds, e1, e⟩ := bind_some e
  by_cases hf : fit ds.length = true
  · rw [if_pos hf] at e
    obtain ⟨ys, e2, e⟩ := bind_some e
    cases e
    have hz : ds.length ≤ sizeLine := fit_le hf
    refine ⟨δ, ds, r, e1, fun J H1 s1 hJ => ⟨fun i m vs H2 => m = ds.length - i ∧ i ≤ ds.length ∧ Same H1 H2 ∧ vs.length ≤ i ∧ ∃ dn rt, lcF gf ct fe (selD sel δ) (ds.drop i) = some rt ∧ dn ++ rt = ys ∧ Reps X.K H2 dn vs,
      ⟨ds.length, rfl, Nat.zero_le _, Same.refl _, Nat.le_refl _, [], ys, e2, rfl, Reps.nil⟩, ?_⟩⟩
    rintro i m vs H2 ⟨rfl, hi, s2, hv, dn, rt, e3, e4, h3⟩
    by_cases hlt : i < ds.length
    · refine .inr ⟨hJ.go i H2 s2 hlt, by omega, fun x H3 hy => ?_⟩
      obtain ⟨s3, dx, ex, hx⟩ := hJ.yld i H2 x H3 s2 hy hlt
      have hd : ds.drop i = dx :: ds.drop (i + 1) := by
        rw [List.drop_eq_getElem_cons hlt]
        rw [List.getElem?_eq_getElem hlt] at ex
        rw [Option.some.inj ex]
      rw [hd] at e3
      obtain ⟨δ1, e5, e3⟩ := bind_some e3
      obtain ⟨t, e6, e3⟩ := bind_some e3
      have r3 : RepSt X.K H3 (selD sel δ) (selSt sel σ) := (r.mono ((s1.trans s2).trans s3)).sel sel
      refine tg.run x _ H3 H3 _ dx _ δ1 (Same.refl H3) r3 hx e5 fun σ4 r4 l4 k4 => ?_
      refine ⟨⟨l4, fun j v hj => ?_⟩, δ1, t, r4, e6, fun H5 s5 => ?_⟩
      · by_cases hjo : j ∈ own
        · exfalso
          unfold selSt at hj
          rw [List.getElem?_map, ho j hjo] at hj
          cases hj
        · rw [k4 j hjo]; exact hj
      · cases t with
        | true =>
          rw [if_pos rfl] at e3 ⊢
          obtain ⟨y, e7, e3⟩ := bind_some e3
          obtain ⟨rt', e8, e3⟩ := bind_some e3
          cases e3
          refine ⟨δ1, y, r4.mono s5, e7, fun v6 H6 s6 h6 => ⟨ds.length - (i + 1), by omega, rfl, hlt, ((s2.trans s3).trans s5).trans s6, ?_, dn ++ [y], rt', e8, ?_, ?_⟩⟩
          · rw [List.length_append, List.length_singleton]; omega
          · rw [List.append_assoc]; exact e4
          · exact Reps.append (h3.mono ((s3.trans s5).trans s6)) (Reps.cons h6 Reps.nil)
        | false =>
          rw [if_neg Bool.false_ne_true] at e3 ⊢
          exact ⟨ds.length - (i + 1), by omega, rfl, hlt, (s2.trans s3).trans s5, by omega, dn, rt, e3, e4, h3.mono (s3.trans s5)⟩
    · have hie : i = ds.length := by omega
      subst hie
      rw [List.drop_length] at e3
      cases e3
      rw [List.append_nil] at e4
      subst e4
      exact .inl ⟨hJ.stop H2 s2, fun l hl => q _ _ ((s1.trans s2).trans (same_upd hl _)) (Rep.newLst hl h3)⟩
  · rw [if_neg hf] at e; cases e
theorem pu_lc {N : List Str} {sel : List (Option Nat)} {scope : Scope} {XS : List (Str × NameKind)} {ifs : List Expr} {g : TG} {ct : Fb} {fe : Fe} {own : List Nat} (S : LcScope X.N XS N sel scope) (hXS : X.env.scope.names = XS) (hc : X.calm = true)
    (hi : PuI X tg iter fi) (tgd : TgD X.K g gf own) (ho : ∀ i ∈ own, sel[i]? = some none) (hg : ∀ C fp s H, PG (lcCx X N scope C fp s H) tg g) (ht : ∀ C fp s H, PuIf (lcCx X N scope C fp s H) ifs ct) (he : ∀ C fp s H, Pu (lcCx X N scope C fp s H) elt fe)
    (hs : ∀ x, foldedSetIterable iter X.env x = pure x := by intro _; rfl) : Pu X (.ListComp elt [⟨tg, iter, ifs, 0⟩] scope pos) (eLc fi sel gf ct fe) :=
  PE.imp (pe_lc (tt := tPT X.K ct) (te := tP X.K fe) S hXS hc hi.un hg (fun C fp s H => (ht C fp s H).un) (fun C fp s H => (he C fp s H).un) hs) (lc_read tgd ho)
def EndsOk (K : PySem.W.Frag) (E : Ends) (H : Hp) : Fl → Prop
  | .nx δ' => ∀ σ' H', Same H H' → RepSt K H' δ' σ' → E.nx σ' H'
  | .rt d => ∀ v H', Same H H' → Rep K H' d v → E.rt v H'
  | .bk δ' => ∀ σ' H', Same H H' → RepSt K H' δ' σ' → E.bk σ' H'
  | .ct δ' => ∀ σ' H', Same H H' → RepSt K H' δ' σ' → E.ct σ' H'
theorem EndsOk.mono {K : PySem.W.Frag} {E : Ends} {H H' : Hp} {r : Fl} (h : EndsOk K E H r) (s : Same H H') : EndsOk K E H' r := by
  cases r with
  | nx δ => exact fun σ' H2 s2 r2 => h σ' H2 (s.trans s2) r2
  | rt d => exact fun v H2 s2 r2 => h v H2 (s.trans s2) r2
  | bk δ => exact fun σ' H2 s2 r2 => h σ' H2 (s.trans s2) r2
  | ct δ => exact fun σ' H2 s2 r2 => h σ' H2 (s.trans s2) r2
def tPS (K : PySem.W.Frag) (f : Fs) : TS := fun E σ H => ∃ δ r, RepSt K H δ σ ∧ f δ = some r ∧ EndsOk K E H r
structure Ps (X : Cx) (st : Stmt) (f : Fs) : Prop where
  un : PS X st (tPS X.K f)
structure Pss (X : Cx) (st : List Stmt) (f : Fs) : Prop where
  un : PSs X st (tPS X.K f)
theorem PS.imp {st : Stmt} {t : TS} {f : Fs} (h : PS X st t) (w : ∀ E σ H, tPS X.K f E σ H → t E σ H) : Ps X st f := Ps.mk fun pins s σ H E I q => h pins s σ H E I (w E σ H q)
theorem PSs.imp {st : List Stmt} {t : TS} {f : Fs} (h : PSs X st t) (w : ∀ E σ H, tPS X.K f E σ H → t E σ H) : Pss X st f := Pss.mk fun pins s σ H E I q => h pins s σ H E I (w E σ H q)
variable {st : Stmt} {rest sa sb : List Stmt} {fs fs' : Fs}
theorem puss_nil : Pss X [] sNext := PSs.imp pss_nil fun E σ H ⟨δ, r, rs, e, q⟩ => by
  cases e
  exact q σ H (Same.refl H) rs
theorem puss_one (h : Ps X st fs) : Pss X [st] fs := ⟨pss_one h.un⟩
theorem seq_read : ∀ E σ H, tPS X.K (sSeq fs fs') E σ H → tSeq (tPS X.K fs) (tPS X.K fs') E σ H := fun E σ H ⟨δ, r, rs, e, q⟩ => by
  obtain ⟨r1, e1, e⟩ := bind_some e
  refine ⟨δ, r1, rs, e1, ?_⟩
  cases r1 with
  | nx δ' => exact fun σ' H' s' rs' => ⟨δ', r, rs', e, q.mono s'⟩
  | rt d => cases e; exact q
  | bk d => cases e; exact q
  | ct d => cases e; exact q
theorem puss_cons (h : Ps X st fs) (t : Pss X rest fs') : Pss X (st :: rest) (sSeq fs fs') := PSs.imp (pss_cons h.un t.un) seq_read
theorem pus_ret (h : Pu X a f) : Ps X (.Return (some a) pos) (sRet f) := PS.imp (ps_ret h.un) fun E σ H ⟨δ, r, rs, e, q⟩ => by
  obtain ⟨d, e1, e⟩ := bind_some e
  cases e
  exact ⟨δ, d, rs, e1, q⟩
theorem set_read {t : TE} (w : ∀ σ H Q, tP X.K f σ H Q → t σ H Q) (i : Nat) : ∀ E σ H, tPS X.K (sSet i f) E σ H → tAsg t (gName i) E σ H := fun E σ H ⟨δ, r, rs, e, q⟩ => by
  obtain ⟨d, e1, e⟩ := bind_some e
  cases e
  exact w _ _ _ ⟨δ, d, rs, e1, fun v H' s' h' => q _ H' s' ((rs.mono s').set h' i)⟩
theorem pus_set {i : Nat} {x : Str} {pos' : Pos} (hN : X.N.Nodup) (h : Pu X a f) (hi : X.N[i]? = some x := by rfl) (hx : Loc X.env.scope x := by first | exact Or.inl rfl | exact Or.inr rfl) (hs : swapsWith a (some (.Name x pos')) pos.line X.env = pure false := by rfl)
    (hf : X.fn x = true ∨ X.env.scope.names.lookup x = some .local := by first | exact .inl rfl | exact .inr rfl) : Ps X (.Assign [.Name x pos'] a pos) (sSet i f) := PS.imp (ps_set hN hi hx h.un hs hf) (set_read (fun _ _ _ q => q) i)
theorem pus_setLc {i : Nat} {x : Str} {spos px : Pos} {N : List Str} {sel : List (Option Nat)} {scope : Scope} {XS : List (Str × NameKind)} {ifs : List Expr} {g : TG} {ct : Fb} {fe : Fe} {own : List Nat} (S : LcScope X.N XS N sel scope) (hXS : X.env.scope.names = XS) (hc : X.calm = true) (hN : X.N.Nodup)
    (hi : PuI X tg iter fi) (tgd : TgD X.K g gf own) (ho : ∀ i ∈ own, sel[i]? = some none) (hg : ∀ C fp s H, PG (lcCx X N scope C fp s H) tg g) (ht : ∀ C fp s H, PuIf (lcCx X N scope C fp s H) ifs ct) (he : ∀ C fp s H, Pu (lcCx X N scope C fp s H) elt fe)
    (hix : X.N[i]? = some x := by rfl) (hx : X.env.scope.names.lookup x = some .local := by rfl)
    (hsw : swapsWith (.ListComp elt [⟨tg, iter, ifs, 0⟩] scope pos) (some (.Name x px)) spos.line X.env = pure true := by with_unfolding_all rfl) (hs : ∀ x, foldedSetIterable iter X.env x = pure x := by intro _; rfl) :
    Ps X (.Assign [.Name x px] (.ListComp elt [⟨tg, iter, ifs, 0⟩] scope pos) spos) (sSet i (eLc fi sel gf ct fe)) := PS.imp (ps_setLc (tt := tPT X.K ct) (te := tP X.K fe) S hXS hc hN hix hx hi.un hg (fun C fp s H => (ht C fp s H).un) (fun C fp s H => (he C fp s H).un) hsw hs) (set_read (lc_read tgd ho) i)
theorem if_read {p : Fb} : ∀ E σ H, tPS X.K (sIf p fs fs') E σ H → tIfS (tPT X.K p) (tPS X.K fs) (tPS X.K fs') E σ H := fun E σ H ⟨δ, r, rs, e, q⟩ => by
  obtain ⟨t, e1, e⟩ := bind_some e
  refine ⟨δ, t, rs, e1, fun H1 s1 => ?_⟩
  cases t with
  | true => rw [if_pos rfl] at e ⊢; exact ⟨δ, r, rs.mono s1, e, q.mono s1⟩
  | false => rw [if_neg Bool.false_ne_true] at e ⊢; exact ⟨δ, r, rs.mono s1, e, q.mono s1⟩
theorem pus_if {c : Expr} {p : Fb} (hc : PuT X c p) (ha : Pss X sa fs) (hb : Pss X sb fs') : Ps X (.If c sa sb pos) (sIf p fs fs') := PS.imp (ps_if hc.un ha.un hb.un) if_read
theorem for_read {g : TG} {own : List Nat} (tgd : TgD X.K g gf own) : ∀ E σ H, tPS X.K (sFor fi gf fs) E σ H → tFor (tPI X.K fi) g (tPS X.K fs) E σ H := fun E σ H ⟨δ, r, rs, e, q⟩ => by
  obtain ⟨ds, e1, e⟩ := bind_some e
  refine ⟨δ, ds, rs, e1, fun J H1 s1 hJ => ⟨fun i m σ2 H2 => m = ds.length - i ∧ i ≤ ds.length ∧ Same H1 H2 ∧ ∃ δ2, RepSt X.K H2 δ2 σ2 ∧ forF gf fs (ds.drop i) δ2 = some r, ⟨ds.length, rfl, Nat.zero_le _, Same.refl _, δ, rs.mono s1, e⟩, ?_⟩⟩
  rintro i m σ2 H2 ⟨rfl, hi, s2, δ2, r2, e2⟩
  by_cases hlt : i < ds.length
  · refine .inr ⟨hJ.go i H2 s2 hlt, fun σ' H' => ∃ δ3, RepSt X.K H' δ3 σ' ∧ Same H1 H' ∧ forF gf fs (ds.drop (i + 1)) δ3 = some r, fun σ' H' ⟨δ3, r3, s3, e3⟩ => ⟨ds.length - (i + 1), by omega, rfl, hlt, s3, δ3, r3, e3⟩, fun x H3 hy => ?_⟩
    obtain ⟨s3, dx, ex, hx⟩ := hJ.yld i H2 x H3 s2 hy hlt
    have hd : ds.drop i = dx :: ds.drop (i + 1) := by
      rw [List.drop_eq_getElem_cons hlt]
      rw [List.getElem?_eq_getElem hlt] at ex
      rw [Option.some.inj ex]
    rw [hd] at e2
    obtain ⟨δ3, e3, e2⟩ := bind_some e2
    obtain ⟨fl, e4, e2⟩ := bind_some e2
    refine tgd.run x σ2 H3 H3 _ dx δ2 δ3 (Same.refl H3) (r2.mono s3) hx e3 fun σ4 r4 _ _ => ⟨δ3, fl, r4, e4, ?_⟩
    cases fl with
    | nx δ5 => exact fun σ' H' s' r' => ⟨δ5, r', (s2.trans s3).trans s', e2⟩
    | ct δ5 => exact fun σ' H' s' r' => ⟨δ5, r', (s2.trans s3).trans s', e2⟩
    | bk δ5 =>
      cases e2
      exact fun σ' H' s' r' => q σ' H' (((s1.trans s2).trans s3).trans s') r'
    | rt d =>
      cases e2
      exact fun v H' s' r' => q v H' (((s1.trans s2).trans s3).trans s') r'
  · have hie : i = ds.length := by omega
    subst hie
    rw [List.drop_length] at e2
    cases e2
    exact .inl ⟨hJ.stop H2 s2, q σ2 H2 (s1.trans s2) r2⟩
theorem pus_for {g : TG} {own : List Nat} (hp : PassesOwn (model X.prog X.w) X.A X.env X.xe) (hc : X.calm = true) (hi : PuI X tg iter fi) (tgd : TgD X.K g gf own) (hg : PG X tg g) (hb : Pss X sa fs)
    (hs : ∀ x, foldedSetIterable iter X.env x = pure x := by intro _; rfl) : Ps X (.For tg iter sa [] pos) (sFor fi gf fs) := PS.imp (ps_for hp hc hi.un hg hb.un hs) (for_read tgd)
theorem rep_start {K : PySem.W.Frag} {H : Hp} {N : List Str} {ds : List D} {vs : List V} (h : Reps K H ds vs) : RepSt K H (startD N.length ds) (L2.start N vs) := by
  have hl := h.length
  refine ⟨by unfold startD L2.start; simp [hl], fun i d e => ?_⟩
  unfold startD at e
  unfold L2.start
  by_cases hi : i < ds.length
  · rw [List.getElem?_append_left (by rw [List.length_map]; exact hi), List.getElem?_map] at e
    cases q : ds[i]? with
    | none => rw [q] at e; cases e
    | some d' =>
      rw [q] at e
      cases e
      obtain ⟨x, h1, h2⟩ := h.getD q
      exact ⟨x, by rw [List.getElem?_append_left (by rw [List.length_map, hl]; exact hi), List.getElem?_map, h1]; rfl, h2⟩
  · rw [List.getElem?_append_right (by rw [List.length_map]; omega), List.getElem?_replicate] at e
    split at e <;> cases e
end
section
variable {P : Program} {w : World} {K : PySem.W.Frag} {mg : Str → Option Value} {base : Heap}
theorem fn_plain {x qual : Str} {st : Stmt} {f : Addr} {fd : FuncData} {N ps : List Str} {k : Nat} {B : Fs} (F : Fun K x qual st f fd) (S : FnScope N ps (defScope st))
    (hb : ∀ (cdv : Value) (A : Around) (outer : List Env) (s : Shared) (H : Hp) (E : XK), Room k (A.deeper (envOfC qual (defScope st) s.heap.objs.size f cdv)) →
      Pss (cxOf CX0 P w K mg base N qual (defScope st) f cdv A outer s H E).nox (defBody st) B) : FnOk P w K mg base CX0 (k + 1) f fd ps (spP K ps.length (dataOf N.length B)) := by
  refine F.ok S (spP_len rfl) (fun cdv A outer s H vs Q E hr h => ⟨_, (hb cdv A outer s H E hr).un, ?_⟩)
  obtain ⟨ds, d, h1, h2, h3, h4⟩ := h
  unfold dataOf at h3
  cases q : B (startD N.length ds) with
  | none => rw [q] at h3; cases h3
  | some fl =>
    rw [q] at h3
    refine ⟨_, fl, rep_start h2, q, ?_⟩
    cases fl with
    | rt d' => cases h3; exact h4
    | nx δ => cases h3; exact fun σ' H' s' r' => h4 _ H' s' Rep.ofNone
    | bk δ => cases h3
    | ct δ => cases h3
end
end PU
namespace L2
open PySem PySem.Spec
open PyProof.Rows hiding St
section
variable {prog : Program} {w : World} {A : Around} {E : Value → Shared → Prop} {s : Shared}
theorem getItem_tup_whole {t sl : Addr} {items : Array Value} {vl vu : Value} {lo hi : Option Int} {Q : Value → Shared → Prop} (ht : IsTup s.heap t items) (hs : s.heap.IsSliceOf sl vl vu .none) (pl : IsPart vl lo) (pu : IsPart vu hi)
    (hw : HT.sIx items.size 0 lo = 0 ∧ HT.sIx items.size items.size hi = items.size) (h : Q (.ref t) s) : wpAny (model prog w) A (getItem (.ref t) (.ref sl)) Q E s := by
  obtain ⟨os, hos, hcs, hds⟩ := id hs
  have hTs : s.TypeIs (.ref sl) "slice" := ⟨os, hos, hcs⟩
  unfold getItem
  try with_reducible refine wpAny_holding ?_
  first | refine wpAny_bind (wpAny_pure ?_) | skip
  refine wpAny_bind (wpAny_sequenceKey ht.typeIs (by decide) ?_)
  refine wpAny_bind (wpAny_callSpecial?_slot (name := Str.ofString "__getitem__") ht.typeIs PyProof.Rows.slot_tuple_getitem (wpAny_call_entry PyProof.Rows.slot_tuple_getitem ht.typeIs entry_tuple_getitem ?_ (args_tuple_getitem _ _)))
  show wpAny _ _ (Builtin.Tuple.tupleItemsOf (.ref t) >>= _) _ _ s
  refine wpAny_bind (tupleItemsOf_ ht ?_)
  refine wpAny_bind (wpAny_typeOf hTs ?_)
  rw [if_pos (by decide)]
  refine wpAny_bind (HT.sliceApplied_gen hs pl pu ?_)
  have hyes : ((((HT.sIx items.size 0 lo : Nat) : Int) == 0 && (1 : Int) == 1 && (HT.sIx items.size items.size hi - HT.sIx items.size 0 lo) == items.size) = true) := by
    rw [hw.1, hw.2]
    simp
  show wpAny _ _ (if (((HT.sIx items.size 0 lo : Nat) : Int) == 0 && (1 : Int) == 1 && (HT.sIx items.size items.size hi - HT.sIx items.size 0 lo) == items.size) = true then _ else _) _ _ s
  rw [if_pos hyes]
  unfold Builtin.Tuple.tupleIsExact
  exact wpAny_bind (wpAny_bind (wpAny_typeOf ht.typeIs (wpAny_pure (wpAny_bind (wpAny_rule (wpAny_pure ⟨_, rfl, wpAny_pure h⟩))))))
end
section
variable {X : Cx}
theorem cut_whole {α : Type} {xs : List α} {lo hi : Option Int} (h : HT.sIx xs.length 0 lo = 0 ∧ HT.sIx xs.length xs.length hi = xs.length) : PU.cutD xs lo hi = xs := by
  unfold PU.cutD
  rw [h.1, h.2, List.drop_zero, Nat.sub_zero, List.take_length]
def rSlW (K : PySem.W.Frag) : V → Option Int → Option Int → Hp → VK → Prop := fun x lo hi H Q => ∃ a xs, x = .ref a ∧ SqT K H a xs ∧ (HT.sIx xs.length 0 lo = 0 ∧ HT.sIx xs.length xs.length hi = xs.length) ∧ Q (.ref a) H
theorem sl_tupW : SlR X (rSlW X.K) := by
  intro pins s σ H x v vl vu lo hi sl Q I rx hs pl pu h
  obtain ⟨a, xs, rfl, hx, hw, q⟩ := h
  cases rx
  obtain ⟨its, r, ht, hz⟩ := I.tuple hx
  have hlen : its.toArray.size = xs.length := by rw [List.size_toArray]; exact r.length.symm
  exact ⟨"tuple", _, PyProof.Rows.slot_tuple_getitem.lookup, ht.typeIs, getItem_tup_whole ht hs pl pu (by rw [hlen]; exact hw) ⟨.ref a, H, I, rfl, q⟩⟩
theorem noFill_tuple_mul : fillsNumberSlot (.type "tuple") "mul" = pure false :=
  PySem.fillsNumberSlot_seq (id := "tuple.__mul__") (r := some (.builtin "tuple.__rmul__")) PySem.F.slot_tuple_mul.lookup (by decide +kernel) PySem.F.slot_tuple_rmul.lookup (by decide +kernel)
theorem repeat_tuple : seqRepeat? (.type "tuple") = pure (some (.builtin "tuple.__mul__")) := by
  unfold seqRepeat?
  rw [PySem.seqSlot_of (T := "tuple") (name := "__mul__") (id := "tuple.__mul__") PySem.F.slot_tuple_mul.lookup (by decide +kernel), PySem.seqSlot_of (T := "tuple") (name := "__rmul__") (id := "tuple.__rmul__") PySem.F.slot_tuple_rmul.lookup (by decide +kernel)]
  rfl
theorem rmul_tup (a : Int) (t : Tok) (l : Addr) (items : Array Value) (n : Nat) (di : Option Addr) (sl : Array (Option Value)) :
    Meets (Builtin.«int.__rmul__» ⟨[.int a t, .ref l], []⟩) (fun _ R s => s.heap.get? l = some { cls := .type "tuple", dict := di, data := .seq items n, slots := sl } ∧ R (.ok (.ret Value.notImplemented)) s) :=
  .of_wp fun prog w A R s h => by
    obtain ⟨hp, g, d, tk, os⟩ := s
    obtain ⟨hl, h⟩ := h
    wp_walk
    exact ⟨_, rfl, h⟩
theorem mul_tupM (l : Addr) (items : Array Value) (n : Nat) (di : Option Addr) (sl : Array (Option Value)) (x : Int) (u : Tok) (h1 : 2 ≤ x) (h2 : x ≤ 1000) (hne : items.isEmpty = false) (hz : items.size * x.toNat ≤ sizeLine) :
    Meets (Builtin.«tuple.__mul__» ⟨[.ref l, .int x u], []⟩) (fun _ R s => s.heap.get? l = some { cls := .type "tuple", dict := di, data := .seq items n, slots := sl } ∧ R (.ok (.ret (.ref s.heap.objs.size))) { s with heap := s.heap.push { cls := .type "tuple", data := .seq ((List.replicate x.toNat items).foldl (· ++ ·) #[]) } }) :=
  .of_wp fun prog w A R s h => by
    obtain ⟨hp, g, d, tk, os⟩ := s
    obtain ⟨hl, h⟩ := h
    have c1 : ¬ ((decide (x < -(2 ^ 63)) || decide (x ≥ 2 ^ 63)) = true) := by simp; omega
    have c2 : ¬ ((items.isEmpty || x == 1) = true) := by rw [hne]; simp; omega
    have c3 : ¬ ((decide (x ≤ 0) || items.isEmpty) = true) := by rw [hne]; simp; omega
    have hx : ((items.size : Int) * x) = ((items.size * x.toNat : Nat) : Int) := by rw [Int.natCast_mul, Int.toNat_of_nonneg (by omega)]
    have hbig : (sizeLine : Nat) ≤ (2 ^ 63 - 1) / 8 := by decide
    have c4 : ¬ ((items.size : Int) * x > (2 ^ 63 - 1) / 8) := by rw [hx]; omega
    have c5 : ¬ (Builtin.Tuple.tupleTooMany ((items.size : Int) * x) = true) := by
      unfold Builtin.Tuple.tupleTooMany
      rw [hx]
      exact fun q => by have := of_decide_eq_true q; omega
    have hsz : ((List.replicate x.toNat items).foldl (· ++ ·) #[]).size ≤ sizeLine := by
      have key : ∀ (m : Nat) (acc : Array Value), ((List.replicate m items).foldl (· ++ ·) acc).size = acc.size + m * items.size := fun m => by
        induction m with
        | zero => intro acc; simp
        | succ m ih => intro acc; rw [List.replicate_succ, List.foldl_cons, ih, Array.size_append, Nat.succ_mul]; omega
      rw [key, Nat.mul_comm]
      simpa using hz
    wp_walk using AutoSeq1.wpAny_loadPart' hl
    rw [if_neg c1]
    try dsimp only
    refine wpAny_bind (tupleItemsOf_ ⟨_, hl, rfl, _, rfl⟩ ?_)
    try dsimp only
    rw [if_neg c2]
    try dsimp only
    rw [if_neg c3]
    try dsimp only
    rw [if_neg c4]
    try dsimp only
    rw [if_neg c5]
    exact wpAny_bind (m := Builtin.Tuple.tupleExact _) (wpAny_newObj_type (wpAny_pure ⟨_, rfl, h⟩) hsz)
def rRepT (K : PySem.W.Frag) : R2 := fun x y H Q => ∃ l k xs, x = .ref l ∧ y = .int k ∧ SqT K H l xs ∧ 2 ≤ k ∧ k ≤ 1000 ∧ xs ≠ [] ∧ xs.length * k.toNat ≤ sizeLine ∧ ∀ p, H p = none → Q (.ref p) (upd H p (.tup (List.replicate k.toNat xs).flatten))
theorem op_repT : OpR X (binaryOp .Mult) (rRepT X.K) := by
  intro pins s σ H x y v u Q I rx ry h
  obtain ⟨l, k, xs, rfl, rfl, hx, h1, h2, hne, hz, q⟩ := h
  cases rx
  obtain ⟨t, rfl⟩ := ry
  obtain ⟨its, r, ⟨⟨cls, di, data, sl⟩, e, hc, n, hd⟩, hzz⟩ := I.tuple hx
  simp only at hc hd
  subst hc hd
  have hlen := r.length
  have hemp : its.toArray.isEmpty = false := by
    cases its with
    | nil => exact absurd (r.nil_iff.mp rfl) hne
    | cons a b => rfl
  have hnew : List.foldl (fun x1 x2 => x1 ++ x2) #[] (List.replicate k.toNat its.toArray) = (List.replicate k.toNat its).flatten.toArray := by
    have := foldl_rep its k.toNat []
    rw [List.nil_append] at this
    exact this
  refine wpAny_binaryOp_repeat_ref (T := "tuple") (U := "int") (by decide) ⟨_, e, rfl⟩ (fun s' => typeIs_int s' k t) noFill_tuple_mul PySem.F.fills_int_mul PySem.F.slot_int_rmul repeat_tuple PySem.F.slot_int_index.lookup
    (call_meets PySem.F.slot_int_rmul (typeIs_int s k t) PySem.F.entry_int_rmul (PySem.F.args_int_rmul_2 _ _) (rmul_tup k t l its.toArray n di sl)
      ⟨e, rfl, ⟨_, e, rfl⟩, call_meets PySem.F.slot_tuple_mul ⟨_, e, rfl⟩ PySem.F.entry_tuple_mul (PySem.F.args_tuple_mul_2 _ _) (mul_tupM l its.toArray n di sl k t h1 h2 hemp (by rw [List.size_toArray, ← hlen]; exact hz)) ⟨e, ?_⟩⟩)
  rw [hnew]
  refine ⟨.ref s.heap.objs.size, _, I.laid (t' := s.toks) (o := .tup (List.replicate k.toNat xs).flatten) (fun b ob q => Heap.get?_push_of_some _ q) (Nat.le_refl _) ?_, rfl, q _ (I.hok.fresh (Nat.le_refl _))⟩
  exact ⟨by rw [len_rep, Nat.mul_comm]; exact hz, _, r.rep k.toNat, IsTupD.new _ _⟩
end
end L2
namespace PU
open PySem PySem.Spec L2
open PyProof.Rows hiding St
section
variable {X : Cx} {a b : Expr} {pos : Pos} {f g : Fe}
theorem pu_mul (ha : Pu X a f) (hb : Pu X b g) : Pu X (.BinOp a .Mult b pos) (eOp oMul f g) := PE.imp (pe_op (op_mul.or op_repT) ha.un hb.un) (op_of fun x y d e H vx vy Q hx hy q => by
  unfold oMul at e
  split at e
  · rename_i i j
    by_cases h : cMul i j = true
    · rw [if_pos h] at e
      cases e
      rw [rep_int hx, rep_int hy]
      refine .inl ⟨i, j, rfl, rfl, ?_, q _ H (Same.refl H) (Rep.ofInt _)⟩
      unfold cMul at h
      rw [Bool.or_eq_true, Bool.and_eq_true, Bool.and_eq_true] at h
      rcases h with ⟨h1, h2⟩ | ⟨h1, h2⟩
      · exact .inl ⟨of_decide_eq_true h1, of_decide_eq_true h2⟩
      · exact .inr ⟨of_decide_eq_true h1, of_decide_eq_true h2⟩
    · rw [if_neg h] at e; cases e
  · rename_i l k
    by_cases h : (decide (2 ≤ k) && decide (k ≤ 1000) && !l.isEmpty && fit (l.length * k.toNat)) = true
    · rw [if_pos h] at e
      cases e
      rw [Bool.and_eq_true, Bool.and_eq_true, Bool.and_eq_true] at h
      obtain ⟨⟨⟨h1, h2⟩, h3⟩, h4⟩ := h
      obtain ⟨p, xs, rfl, h5, h6⟩ := rep_tup hx
      rw [rep_int hy]
      refine .inr ⟨p, k, xs, rfl, rfl, h5, of_decide_eq_true h1, of_decide_eq_true h2, fun z => ?_, by rw [h6.length]; exact fit_le h4, fun t ht => q _ _ (same_upd ht _) (Rep.newTup ht (h6.rep k.toNat))⟩
      have hl : l = [] := by
        have := h6.length
        rw [z] at this
        exact List.length_eq_zero_iff.mp this.symm
      rw [hl] at h3
      cases h3
    · rw [if_neg h] at e; cases e
  · cases e)
end
end PU
namespace L2
open PySem PySem.Spec
open PyProof.Rows hiding St
section
variable {X : Cx}
theorem vals_at {ns : List Int} {its : List Value} (r : Vals (ns.map V.int) its) {i : Nat} {v : Value} (h : its[i]? = some v) : ∃ t, v = .int (ns.getD i 0) t := by
  have hi := (intsAre_of r)
  have hl : its.length = ns.length := by have := r.length; rw [List.length_map] at this; exact this.symm
  obtain ⟨hlt, e⟩ := List.getElem?_eq_some_iff.mp h
  have hn : i < ns.length := by omega
  obtain ⟨u, h1, h2⟩ := r.get (i := i) (x := V.int ns[i]) (by rw [List.getElem?_map, List.getElem?_eq_getElem hn]; rfl)
  rw [h] at h1
  cases h1
  obtain ⟨t, rfl⟩ := h2
  exact ⟨t, by rw [List.getD_eq_getElem?_getD, List.getElem?_eq_getElem hn]; rfl⟩
theorem call_sumS (hc : X.calm = true) : CallR X (.builtin "sum") (fun xs H Q => ∃ (p : Addr) (ns : List Int), xs = [.ref p] ∧ (SqL X.K H p (ns.map V.int) ∨ SqT X.K H p (ns.map V.int)) ∧ Q (.int ns.sum) H) := by
  intro pins s σ H xs us Q I r h
  obtain ⟨p, ns, rfl, hq, q⟩ := h
  obtain ⟨u, rfl, rx⟩ := vals1 r
  cases rx
  have hh : X.A.in1.handled = none := I.ok.hd hc
  rcases hq with hq | hq
  · obtain ⟨its, rv, pl, hz⟩ := I.list hq
    have hlen := rv.length
    rw [List.length_map] at hlen
    have hlt : @LT.lt Nat instLTNat p s.heap.objs.size := by obtain ⟨o, n, e, _⟩ := pl; exact Heap.lt_size e
    refine call_sum_walkG (wpAny_pyIter_list pl.isList ?_)
    refine ⟨_, _, _, _, _, _, fun i => ns.getD i 0, rfl, Walks.list (A := X.A.in1) hh s.heap.objs.size p (Nat.ne_of_lt hlt) its.toArray, ⟨⟨_, Heap.get?_push_size _ rfl, rfl, rfl⟩, pl.isList.push _⟩, fun b hb => ?_, fun i v e => vals_at rv (by simpa using e), fun h' tk t' hk => ?_⟩
    · show b < (s.heap.push _).objs.size
      rw [Heap.size_push]
      have hb' : b = s.heap.objs.size ∨ b = p := by simpa using hb
      rcases hb' with z | z <;> (delta Addr at *; omega)
    · have e : preSum (fun i => ns.getD i 0) its.toArray.size = ns.sum := by rw [preSum_getD, List.size_toArray, ← hlen, List.take_length]
      rw [e]
      refine ⟨.int ns.sum, H, I.kept fun b o e => hk b o (fun z => ?_) (Heap.get?_push_of_some _ e), ⟨_, rfl⟩, q⟩
      have z' : b = s.heap.objs.size := by simpa using z
      exact Nat.ne_of_lt (Heap.lt_size e) z'
  · obtain ⟨its, rv, pl, hz⟩ := I.tuple hq
    have hlen := rv.length
    rw [List.length_map] at hlen
    have hlt : @LT.lt Nat instLTNat p s.heap.objs.size := pl.lt
    have pl' : s.heap.IsTuple p its.toArray := pl
    refine call_sum_walkG (wpAny_pyIter_tuple pl' ?_)
    refine ⟨_, _, _, _, _, _, fun i => ns.getD i 0, rfl, Walks.tuple (A := X.A.in1) hh s.heap.objs.size p (Nat.ne_of_lt hlt) its.toArray, ⟨⟨_, Heap.get?_push_size _ rfl, rfl, rfl⟩, pl'.push _⟩, fun b hb => ?_, fun i v e => vals_at rv (by simpa using e), fun h' tk t' hk => ?_⟩
    · show b < (s.heap.push _).objs.size
      rw [Heap.size_push]
      have hb' : b = s.heap.objs.size ∨ b = p := by simpa using hb
      rcases hb' with z | z <;> (delta Addr at *; omega)
    · have e : preSum (fun i => ns.getD i 0) its.toArray.size = ns.sum := by rw [preSum_getD, List.size_toArray, ← hlen, List.take_length]
      rw [e]
      refine ⟨.int ns.sum, H, I.kept fun b o e => hk b o (fun z => ?_) (Heap.get?_push_of_some _ e), ⟨_, rfl⟩, q⟩
      have z' : b = s.heap.objs.size := by simpa using z
      exact Nat.ne_of_lt (Heap.lt_size e) z'
end
end L2
namespace PU
open PySem PySem.Spec L2
open PyProof.Rows hiding St
section
variable {X : Cx} {a b c : Expr} {es : List Expr} {pos : Pos} {f g k : Fe} {fa : Fa}
theorem allOf_int : ∀ {ds : List D} {ns : List Int}, allOf isInt ds = some ns → ds = ns.map PyData.int
  | [], _, h => by cases h; rfl
  | d :: ds, _, h => by
    obtain ⟨x, e1, h⟩ := bind_some h
    obtain ⟨xs, e2, h⟩ := bind_some h
    cases h
    rw [allOf_int e2]
    cases d with
    | int i => cases e1; rfl
    | _ => cases e1
theorem allOf_ints (ns : List Int) : allOf isInt (ns.map PyData.int) = some ns := by
  induction ns with
  | nil => rfl
  | cons n ns ih => show (allOf isInt (ns.map PyData.int)).bind _ = _; rw [ih]; rfl
theorem cd_sum (hc : X.calm = true) : CallD X (.builtin "sum") fSum := ⟨_, call_sumS hc, fun ds d e H vs Q h q => by
  unfold fSum at e
  split at e
  · rename_i x
    obtain ⟨l, e1, e⟩ := bind_some e
    obtain ⟨ns, e2, e⟩ := bind_some e
    cases e
    have hl := allOf_int e2
    subst hl
    obtain ⟨v, rfl, h1⟩ := reps1 h
    cases x with
    | list l =>
      cases e1
      obtain ⟨p, xs, rfl, h2, h3⟩ := rep_lst h1
      have := reps_ints h3
      subst this
      exact ⟨p, ns, rfl, .inl h2, q _ H (Same.refl H) (Rep.ofInt _)⟩
    | tuple l =>
      cases e1
      obtain ⟨p, xs, rfl, h2, h3⟩ := rep_tup h1
      have := reps_ints h3
      subst this
      exact ⟨p, ns, rfl, .inr h2, q _ H (Same.refl H) (Rep.ofInt _)⟩
    | _ => cases e1
  · cases e⟩
theorem isinstD {pins : List (Addr × Obj)} {σ : St} {H : Hp} {s : Shared} {A : Around} {E : Value → Shared → Prop} {Q : Value → Shared → Prop} {d : D} {v : V} {u : Value} {T : String} {t : Bool} (I : Inv X pins σ H s) (h : Rep X.K H d v) (r : RelV v u)
    (e : PySem.W.kitOne X.K (.type (kindOf d)) (.type T) = some t) (hq : ∀ tk, Q (.bool t) { s with toks := tk }) (hd : noD d = true) : wpAny (model X.prog X.w) A (call (.builtin "isinstance") [u, .type T]) Q E s := by
  cases d with
  | none => rw [rep_none h] at r; exact isinst_ok I r (.non) e hq
  | bool b => rw [rep_bool h] at r; exact isinst_ok I r (.bl b) e hq
  | int i => rw [rep_int h] at r; exact isinst_ok I r (.int i) e hq
  | str x => rw [rep_str h] at r; exact isinst_ok I r (.str x) e hq
  | list l =>
    obtain ⟨p, xs, rfl, h2, h3⟩ := rep_lst h
    cases r
    obtain ⟨its, _, ⟨o, n, h4, h5, _⟩, _⟩ := I.list h2
    exact PySem.W.kia_one PySem.W.kitx_list I.kIn ⟨o, h4, h5⟩ e (fun z => nomatch z) hq
  | tuple l =>
    obtain ⟨p, xs, rfl, h2, h3⟩ := rep_tup h
    cases r
    obtain ⟨its, _, ⟨o, h4, h5, _⟩, _⟩ := I.tuple h2
    exact PySem.W.kia_one PySem.W.kitx_tuple I.kIn ⟨o, h4, h5⟩ e (fun z => nomatch z) hq
  | dict _ => cases hd
structure KitT (K : PySem.W.Frag) (T : String) : Prop where
  non : PySem.W.kitOne K (.type "NoneType") (.type T) = some (isK T .none)
  bl : PySem.W.kitOne K (.type "bool") (.type T) = some (isK T (.bool true))
  int : PySem.W.kitOne K (.type "int") (.type T) = some (isK T (.int 0))
  str : PySem.W.kitOne K (.type "str") (.type T) = some (isK T (.str ""))
  lst : PySem.W.kitOne K (.type "list") (.type T) = some (isK T (.list []))
  tup : PySem.W.kitOne K (.type "tuple") (.type T) = some (isK T (.tuple []))
theorem pu_isinst {T : String} {y : Str} {p0 p1 : Pos} (kt : KitT X.K T) (ha : Pu X a f) (hg : Gl X "isinstance") (hm : X.mg "isinstance" = none) (hv : bootBuiltins "isinstance" = some (.builtin "isinstance")) (hgT : Gl X y) (hmT : X.mg y = none) (hvT : bootBuiltins y = some (.type T))
    (hn : y ≠ "__name__" := by decide) (hd : (y == ("__debug__" : Str)) = false := by decide) (hsA : starEach [a, .Name y p1] X.env = (false, eval a X.env) :: starEach [.Name y p1] X.env := by rfl) (hsB : starEach [Expr.Name y p1] X.env = [(false, eval (.Name y p1) X.env)] := by rfl)
    (hpl : (backTo pos (starEach [Expr.Name y p1] X.env)).any (·.1) = false := by rfl) :
    Pu X (.Call (.Name "isinstance" p0) [a, .Name y p1] [] pos) (eIs T f) := by
  have hc : CallR X (.builtin "isinstance") (fun xs H Q => ∃ d v, xs = [v, .ty T] ∧ Rep X.K H d v ∧ noD d = true ∧ Q (.bl (isK T d)) H) := by
    intro pins s σ H xs us Q I r h
    obtain ⟨d, v, rfl, h1, hnd, q⟩ := h
    obtain ⟨u, w', rfl, r1, r2⟩ := vals2 r
    cases r2
    refine isinstD I h1 r1 (t := isK T d) ?_ (fun tk => ⟨.bl _, H, I.tok tk, rfl, q⟩) hnd
    cases d with
    | none => exact kt.non
    | bool b => exact kt.bl
    | int i => exact kt.int
    | str x => exact kt.str
    | list l => exact kt.lst
    | tuple l => exact kt.tup
    | dict _ => cases hnd
  refine PE.imp (pe_callB hc hg hm hv (pa_cons ha.un (pa_cons (pe_bltn (v := .ty T) hgT hmT hvT rfl hn hd) pa_nil hsB) hsA) (he := hsA) (hpl := hpl)) fun σ H Q ⟨δ, d, r, e, q⟩ => ?_
  obtain ⟨x, e1, e⟩ := bind_some e
  by_cases hnd : noD x = true
  · rw [if_pos hnd] at e
    cases e
    exact ⟨δ, x, r, e1, fun v H1 s1 h1 => ⟨x, v, rfl, h1, hnd, q _ H1 s1 (Rep.ofBool _)⟩⟩
  · rw [if_neg hnd] at e; cases e
theorem shaped_lay {d : D} (h : SeqAt.shaped d = true) : PyData.canLay0 d = true := by
  unfold SeqAt.shaped at h
  rw [Bool.and_eq_true] at h
  exact h.1
mutual
theorem reads_of {pins : List (Addr × Obj)} {σ : St} {H : Hp} {s : Shared} (I : Inv X pins σ H s) : ∀ {d : D} {v : V} {u : Value}, PyData.canLay0 d = true → Rep X.K H d v → RelV v u → ∃ as, Reads s.heap u d as
  | .none, _, u, _, h, r => by rw [rep_none h] at r; cases r; exact ⟨_, .none⟩
  | .bool b, _, u, hl, h, r => by rw [rep_bool h] at r; cases r; exact ⟨_, .bool b⟩
  | .int i, _, u, hl, h, r => by rw [rep_int h] at r; obtain ⟨t, rfl⟩ := r; exact ⟨_, .int i t⟩
  | .str x, _, u, hl, h, r => by rw [rep_str h] at r; obtain ⟨t, rfl⟩ := r; exact ⟨_, .str x t⟩
  | .tuple ds, _, u, hl, h, r => by
    obtain ⟨p, xs, rfl, h2, h3⟩ := rep_tup h
    cases r
    obtain ⟨its, rv, ⟨o, h4, h5, n, h6⟩, _⟩ := I.tuple h2
    obtain ⟨as, hr⟩ := reads_all I (by simpa [PyData.canLay0] using hl) h3 rv
    exact ⟨_, .tuple h4 h5 h6 (by simpa using hr)⟩
  | .list ds, _, u, hl, h, r => by
    obtain ⟨p, xs, rfl, h2, h3⟩ := rep_lst h
    cases r
    obtain ⟨its, rv, ⟨o, n, h4, h5, _, h6⟩, _⟩ := I.list h2
    obtain ⟨as, hr⟩ := reads_all I (by simpa [PyData.canLay0] using hl) h3 rv
    exact ⟨_, .list h4 h5 h6 (by simpa using hr)⟩
  | .dict _, _, _, hl, _, _ => by simp [PyData.canLay0] at hl
theorem reads_all {pins : List (Addr × Obj)} {σ : St} {H : Hp} {s : Shared} (I : Inv X pins σ H s) : ∀ {ds : List D} {vs : List V} {us : List Value}, PyData.canLayAll0 ds = true → Reps X.K H ds vs → Vals vs us → ∃ as, ReadsAll s.heap us ds as
  | [], _, _, _, h, r => by rw [h.unnil] at r; cases r; exact ⟨_, .nil⟩
  | d0 :: ds0, _, _, hl, h, r => by
    obtain ⟨v, vs, rfl, h2, h3⟩ := h.uncons
    have hl' : PyData.canLay0 d0 = true ∧ PyData.canLayAll0 ds0 = true := by simpa [PyData.canLayAll0] using hl
    cases r with
    | cons r1 r2 =>
      obtain ⟨as, q1⟩ := reads_of I hl'.1 h2 r1
      obtain ⟨bs, q2⟩ := reads_all I hl'.2 h3 r2
      exact ⟨_, .cons q1 q2⟩
end
theorem cd_eq (hu : X.A.units + 64 < cLine) : CmpD X .Eq oEq := ⟨fun vx vy H Q => ∃ x y, Rep X.K H x vx ∧ Rep X.K H y vy ∧ SeqAt.shaped x = true ∧ SeqAt.shaped y = true ∧ Q (.bl (PyData.eqv x y)) H, by
    intro pins s σ H vx vy v u Q I rx ry h
    obtain ⟨x, y, h1, h2, h3, h4, q⟩ := h
    obtain ⟨as, r1⟩ := reads_of I (shaped_lay h3) h1 rx
    obtain ⟨bs, r2⟩ := reads_of I (shaped_lay h4) h2 ry
    exact eq_dataH r1 r2 h3 h4 hu ⟨.bl _, H, I, rfl, q⟩,
  fun x y d e H vx vy Q hx hy q => by
    unfold oEq at e
    by_cases hc : (SeqAt.shaped x && SeqAt.shaped y) = true
    · rw [if_pos hc] at e
      cases e
      rw [Bool.and_eq_true] at hc
      exact ⟨x, y, hx, hy, hc.1, hc.2, q _ H (Same.refl H) (Rep.ofBool _)⟩
    · rw [if_neg hc] at e; cases e⟩
theorem cd_ne (hu : X.A.units + 64 < cLine) : CmpD X .NotEq oNe := ⟨fun vx vy H Q => ∃ x y, Rep X.K H x vx ∧ Rep X.K H y vy ∧ SeqAt.shaped x = true ∧ SeqAt.shaped y = true ∧ Q (.bl (!PyData.eqv x y)) H, by
    intro pins s σ H vx vy v u Q I rx ry h
    obtain ⟨x, y, h1, h2, h3, h4, q⟩ := h
    obtain ⟨as, r1⟩ := reads_of I (shaped_lay h3) h1 rx
    obtain ⟨bs, r2⟩ := reads_of I (shaped_lay h4) h2 ry
    exact ne_dataH r1 r2 h3 h4 hu ⟨.bl _, H, I, rfl, q⟩,
  fun x y d e H vx vy Q hx hy q => by
    unfold oNe at e
    by_cases hc : (SeqAt.shaped x && SeqAt.shaped y) = true
    · rw [if_pos hc] at e
      cases e
      rw [Bool.and_eq_true] at hc
      exact ⟨x, y, hx, hy, hc.1, hc.2, q _ H (Same.refl H) (Rep.ofBool _)⟩
    · rw [if_neg hc] at e; cases e⟩
def tPO (K : PySem.W.Frag) (f : Fp) : TO := fun σ H Q => ∃ δ o, RepSt K H δ σ ∧ f δ = some o ∧ ∀ H', Same H H' → Q o H'
structure PuO (X : Cx) (e : Option Expr) (f : Fp) : Prop where
  un : PO X e (tPO X.K f)
theorem PO.imp {e : Option Expr} {t : TO} {f : Fp} (h : PO X e t) (w : ∀ σ H Q, tPO X.K f σ H Q → t σ H Q) : PuO X e f := PuO.mk fun pins s σ H Q I q => h pins s σ H Q I (w σ H Q q)
theorem puo_none : PuO X none oNone := PO.imp po_none fun σ H Q ⟨δ, o, r, e, q⟩ => by
  cases e
  exact q H (Same.refl H)
theorem isInt_some {d : D} {i : Int} (h : isInt d = some i) : d = .int i := by
  cases d with
  | int j => cases h; rfl
  | _ => cases h
theorem puo_some (h : Pu X a f) : PuO X (some a) (oSome f) := PO.imp (po_some h.un) fun σ H Q ⟨δ, o, r, e, q⟩ => by
  obtain ⟨d, e1, e⟩ := bind_some e
  obtain ⟨i, e2, e⟩ := bind_some e
  cases e
  have := isInt_some e2
  subst this
  exact ⟨δ, _, r, e1, fun v H1 s1 h1 => ⟨i, rep_int h1, q H1 s1⟩⟩
theorem cut_reps {K : PySem.W.Frag} {H : Hp} {ds : List D} {xs : List V} (h : Reps K H ds xs) (lo hi : Option Int) : Reps K H (cutD ds lo hi) (cutV xs lo hi) := by
  unfold cutD cutV
  rw [h.length]
  exact (h.drop _).take _
variable {lo hi : Option Expr} {fl fh : Fp} {p2 : Pos}
theorem pu_slice (ha : Pu X a f) (hl : PuO X lo fl) (hu : PuO X hi fh) : Pu X (.Subscript a (.Slice lo hi none p2) pos) (eSl f fl fh) := PE.imp (pe_slice (sl_list.or (sl_tup.or sl_tupW)) ha.un hl.un hu.un) fun σ H Q ⟨δ, d, r, e, q⟩ => by
  obtain ⟨x, e1, e⟩ := bind_some e
  obtain ⟨l, e2, e⟩ := bind_some e
  obtain ⟨u, e3, e⟩ := bind_some e
  refine ⟨δ, x, r, e1, fun v H1 s1 h1 => ⟨δ, l, r.mono s1, e2, fun H2 s2 => ⟨δ, u, r.mono (s1.trans s2), e3, fun H3 s3 => ?_⟩⟩⟩
  have h3 := h1.mono (s2.trans s3)
  cases x with
  | list ds =>
    cases e
    obtain ⟨p, xs, rfl, h4, h5⟩ := rep_lst h3
    exact .inl ⟨p, xs, rfl, h4, fun t ht => q _ _ (((s1.trans s2).trans s3).trans (same_upd ht _)) (Rep.newLst ht (cut_reps h5 l u))⟩
  | tuple ds =>
    cases e
    obtain ⟨p, xs, rfl, h4, h5⟩ := rep_tup h3
    by_cases hc : HT.sIx xs.length 0 l = 0 ∧ HT.sIx xs.length xs.length u = xs.length
    · refine .inr (.inr ⟨p, xs, rfl, h4, hc, q _ H3 ((s1.trans s2).trans s3) ?_⟩)
      rw [cut_whole (by rw [← h5.length]; exact hc)]
      exact Rep.ofTup h4 h5
    · exact .inr (.inl ⟨p, xs, rfl, h4, hc, fun t ht => q _ _ (((s1.trans s2).trans s3).trans (same_upd ht _)) (Rep.newTup ht (cut_reps h5 l u))⟩)
  | _ => cases e
end
end PU
namespace L2
open PySem PySem.Spec
open PyProof.Rows hiding St
section
variable {X : Cx} {pins : List (Addr × Obj)} {σ σ' : St} {H H' : Hp} {s s' : Shared} {a : Addr} {xs : List V}
theorem Inv.untrack (I : Inv X pins σ H s) (h : H a = some (.lst xs)) : ∃ (its : List Value) (n : Nat), Vals xs its ∧ xs.length ≤ sizeLine ∧ Inv X (pins ++ [(a, { cls := .type "list", data := .seq its.toArray n })]) σ (rm H a) s := by
  obtain ⟨its, n, r, e, z⟩ := I.lst h
  refine ⟨its, n, r, z, ⟨I.ok, I.os, I.bare, ⟨fun b o => I.base.keep b o, fun b o => I.base.slot b o, fun b o q m hx => ?_, fun b o => I.base.there b o, fun b ys q => ?_, fun b o u q => ?_, fun b ps q => ?_⟩, I.loc, I.cell, ?_, fun x c q => ?_, fun p hp => ?_, fun b u q => ?_, I.len⟩⟩
  · have := I.base.free b o q m hx
    by_cases hb : b = a
    · rw [hb]; exact rm_same
    · rw [rm_ne hb]; exact this
  · have w := I.base.tups b ys q
    rw [rm_ne (fun hb => by rw [hb, h] at w; cases w)]; exact w
  · have w := I.base.frzs b o u q
    rw [rm_ne (fun hb => by rw [hb, h] at w; cases w)]; exact w
  · obtain ⟨m, w⟩ := I.base.tbls b ps q
    exact ⟨m, by rw [rm_ne (fun hb => by rw [hb, h] at w; cases w)]; exact w⟩
  · by_cases hb : X.env.locals = a
    · rw [hb]; exact rm_same
    · rw [rm_ne hb]; exact I.free
  · have w := I.freeC x c q
    rw [rm_ne (fun hb => by rw [hb, h] at w; cases w)]; exact w
  · rw [← List.append_assoc] at hp
    rcases List.mem_append.mp hp with hp | hp
    · obtain ⟨p1, p2, p3, p4, p5⟩ := I.pin p hp
      exact ⟨p1, by rw [rm_ne (fun hb => by rw [hb, h] at p2; cases p2)]; exact p2, p3, p4, p5⟩
    · have : p = _ := List.mem_singleton.mp hp
      subst this
      refine ⟨e, rm_same, fun hb => ?_, fun hb => ?_, fun v q => nomatch q⟩
      · have w := I.free
        rw [← (show a = X.env.locals from hb), h] at w
        cases w
      · obtain ⟨_, o, ho, _⟩ := I.ok.funs.mem hb
        have w := I.base.free a o ho (I.ok.frf a hb) fun z => I.ok.exfs a z hb
        rw [h] at w
        cases w
  · obtain ⟨hb, q⟩ := rm_some q
    exact (I.hok b u q).stay (fun c v _ w => w) (fun c w => by rw [rm_ne (fun hc => by rw [hc, h] at w; cases w)]; exact w) fun c ys w => by rw [rm_ne (fun hc => by rw [hc, h] at w; cases w)]; exact w
theorem Inv.retrack {its : List Value} {n : Nat} (I : Inv X pins σ H s) (h : H a = some (.lst xs)) (r : Vals xs its) (z : xs.length ≤ sizeLine) (J : Inv X (pins ++ [(a, { cls := .type "list", data := .seq its.toArray n })]) σ' H' s') :
    H' a = none ∧ Inv X pins σ' (upd H' a (.lst xs)) s' := by
  obtain ⟨e, hn, _⟩ := J.pin (a, { cls := .type "list", data := .seq its.toArray n }) (by simp)
  have hn' : H' a = none := hn
  have ne : ∀ b, H b ≠ some (.lst xs) → b ≠ a := fun b hb z => hb (by rw [z]; exact h)
  refine ⟨hn', J.ok, J.os, J.bare, ⟨fun b o => J.base.keep b o, fun b o => J.base.slot b o, fun b o q m hx => ?_, fun b o => J.base.there b o, fun b ys q => ?_, fun b o u q => ?_, fun b ps q => ?_⟩, J.loc, J.cell, ?_, fun x c q => ?_, fun p hp => ?_, J.hok.track hn' ⟨z, its, n, r, e⟩, J.len⟩
  · rw [upd_ne (ne b (by rw [I.base.free b o q m hx]; exact fun z => nomatch z))]; exact J.base.free b o q m hx
  · rw [upd_ne (ne b (by rw [I.base.tups b ys q]; exact fun z => nomatch z))]; exact J.base.tups b ys q
  · rw [upd_ne (ne b (by rw [I.base.frzs b o u q]; exact fun z => nomatch z))]; exact J.base.frzs b o u q
  · obtain ⟨m, w⟩ := I.base.tbls b ps q
    obtain ⟨m', w'⟩ := J.base.tbls b ps q
    exact ⟨m', by rw [upd_ne (ne b (by rw [w]; exact fun z => nomatch z))]; exact w'⟩
  · rw [upd_ne (ne _ (by rw [I.free]; exact fun z => nomatch z))]; exact J.free
  · rw [upd_ne (ne c (by rw [I.freeC x c q]; exact fun z => nomatch z))]; exact J.freeC x c q
  · obtain ⟨p1, p2, p3, p4, p5⟩ := J.pin p (by rw [← List.append_assoc]; exact List.mem_append_left _ hp)
    exact ⟨p1, by rw [upd_ne (ne p.1 (by rw [(I.pin p hp).2.1]; exact fun z => nomatch z))]; exact p2, p3, p4, p5⟩
end
section
variable {X : Cx}
def fE (t : TE) : TE := fun σ H Q => ∃ a xs, H a = some (.lst xs) ∧ t σ (rm H a) fun v H' => H' a = none → Q v (upd H' a (.lst xs))
theorem PE.frame {e : Expr} {t : TE} (h : PE X e t) : PE X e (fE t) := fun pins s σ H Q I ⟨a, xs, ha, q⟩ => by
  obtain ⟨its, n, r, z, J⟩ := I.untrack ha
  refine thn (h _ s σ _ _ J q) fun u s' ⟨v, H', J', rv, q'⟩ => ?_
  obtain ⟨hn, I'⟩ := I.retrack ha r z J'
  exact ⟨v, _, I', rv, q' hn⟩
def fS (t : TS) : TS := fun E σ H => ∃ a xs, H a = some (.lst xs) ∧ t { nx := fun σ' H' => H' a = none → E.nx σ' (upd H' a (.lst xs)), rt := fun v H' => H' a = none → E.rt v (upd H' a (.lst xs)), bk := fun σ' H' => H' a = none → E.bk σ' (upd H' a (.lst xs)), ct := fun σ' H' => H' a = none → E.ct σ' (upd H' a (.lst xs)) } σ (rm H a)
theorem PS.frame {st : Stmt} {t : TS} (h : PS X st t) : PS X st (fS t) := fun pins s σ H E I ⟨a, xs, ha, q⟩ => by
  obtain ⟨its, n, r, z, J⟩ := I.untrack ha
  refine thn (h _ s σ _ _ J q) fun fl s' hq => ?_
  cases fl with
  | next => obtain ⟨σ', H', J', q'⟩ := hq; obtain ⟨hn, I'⟩ := I.retrack ha r z J'; exact ⟨σ', _, I', q' hn⟩
  | brk => obtain ⟨σ', H', J', q'⟩ := hq; obtain ⟨hn, I'⟩ := I.retrack ha r z J'; exact ⟨σ', _, I', q' hn⟩
  | cont => obtain ⟨σ', H', J', q'⟩ := hq; obtain ⟨hn, I'⟩ := I.retrack ha r z J'; exact ⟨σ', _, I', q' hn⟩
  | ret u => obtain ⟨v, σ', H', J', rv, q'⟩ := hq; obtain ⟨hn, I'⟩ := I.retrack ha r z J'; exact ⟨v, σ', _, I', rv, q' hn⟩
def fI (t : TI) : TI := fun σ H R => ∃ a xs, H a = some (.lst xs) ∧ t σ (rm H a) fun J H' => H' a = none → R J (upd H' a (.lst xs))
theorem PI.frame {tg iter : Expr} {t : TI} (h : PI X tg iter t) : PI X tg iter (fI t) := fun pins s σ H R I ⟨a, xs, ha, q⟩ => by
  obtain ⟨its, n, r, z, J⟩ := I.untrack ha
  refine thn (h _ s σ _ _ J q) fun v s1 h1 => thn h1 fun itv s2 h2 => ?_
  obtain ⟨it, fp, tn, Jt, H', e, J', T, st, ff, q'⟩ := h2
  obtain ⟨hn, I'⟩ := I.retrack ha r z J'
  refine ⟨it, fp, tn, Jt, _, e, I', T, st, fun b hb => ?_, q' hn⟩
  obtain ⟨f0, f1, f2, f3, f4, f5⟩ := ff b hb
  have hne : b ≠ a := fun z => f5 (a, { cls := .type "list", data := .seq its.toArray n }) (by simp) z.symm
  exact ⟨by rw [upd_ne hne]; exact f0, f1, f2, f3, f4, fun p hp => f5 p (by rw [← List.append_assoc]; exact List.mem_append_left _ hp)⟩
end
end L2
namespace PU
open PySem PySem.Spec L2
open PyProof.Rows hiding St
structure Own (K : PySem.W.Frag) (o : Nat) (a : Addr) (H0 H : Hp) (δ : Dl) (ds : List D) (σ : St) : Prop where
  slot : δ[o]? = some (some (opq a))
  lst : ∃ xs, H a = some (.lst xs) ∧ Reps K (rm H a) ds xs
  st : RepSt K (rm H a) δ σ
  old : Same H0 (rm H a)
def EndsO (K : PySem.W.Frag) (o : Nat) (a : Addr) (H0 : Hp) (E : Ends) : Fl → List D → Prop
  | .nx δ', ds => ∀ σ' H', Own K o a H0 H' δ' ds σ' → E.nx σ' H'
  | .rt d, _ => ∀ v H', Same H0 H' → Rep K H' d v → E.rt v H'
  | .bk δ', ds => ∀ σ' H', Own K o a H0 H' δ' ds σ' → E.bk σ' H'
  | .ct δ', ds => ∀ σ' H', Own K o a H0 H' δ' ds σ' → E.ct σ' H'
def tO (K : PySem.W.Frag) (o : Nat) (f : Fo) : TS := fun E σ H => ∃ a H0 δ ds r, Own K o a H0 H δ ds σ ∧ f δ ds = some r ∧ EndsO K o a H0 E r.1 r.2
structure PsO (X : Cx) (o : Nat) (st : Stmt) (f : Fo) : Prop where
  un : PS X st (tO X.K o f)
structure PssO (X : Cx) (o : Nat) (st : List Stmt) (f : Fo) : Prop where
  un : PSs X st (tO X.K o f)
section
variable {X : Cx} {st : Stmt} {rest sa sb : List Stmt} {o : Nat} {fs : Fs} {fo go : Fo} {a tg iter : Expr} {f : Fe} {fi : Fi} {gf : Fg} {pos : Pos}
theorem PS.impO {st : Stmt} {t : TS} {f : Fo} {o : Nat} (h : PS X st t) (w : ∀ E σ H, tO X.K o f E σ H → t E σ H) : PsO X o st f := PsO.mk fun pins s σ H E I q => h pins s σ H E I (w E σ H q)
theorem PSs.impO {st : List Stmt} {t : TS} {f : Fo} {o : Nat} (h : PSs X st t) (w : ∀ E σ H, tO X.K o f E σ H → t E σ H) : PssO X o st f := PssO.mk fun pins s σ H E I q => h pins s σ H E I (w E σ H q)
theorem oss_one (h : PsO X o st fo) : PssO X o [st] fo := ⟨pss_one h.un⟩
theorem oss_cons (h : PsO X o st fo) (t : PssO X o rest go) : PssO X o (st :: rest) (oSeq fo go) := PSs.impO (pss_cons h.un t.un) fun E σ H ⟨a, H0, δ, ds, r, ow, e, q⟩ => by
  obtain ⟨r1, e1, e⟩ := bind_some e
  obtain ⟨fl, ds1⟩ := r1
  refine ⟨a, H0, δ, ds, (fl, ds1), ow, e1, ?_⟩
  cases fl with
  | nx δ' => exact fun σ' H' ow' => ⟨a, H0, δ', ds1, r, ow', e, q⟩
  | rt d => cases e; exact q
  | bk d => cases e; exact q
  | ct d => cases e; exact q
def Leaves (o : Nat) (f : Fs) : Prop := ∀ δ r, f δ = some r → match r with
  | .nx δ' => δ'[o]? = δ[o]?
  | .rt _ => True
  | .bk δ' => δ'[o]? = δ[o]?
  | .ct δ' => δ'[o]? = δ[o]?
theorem Own.put {K : PySem.W.Frag} {o : Nat} {a : Addr} {H0 H H' : Hp} {δ δ' : Dl} {ds : List D} {σ σ' : St} {xs : List V} (ow : Own K o a H0 H δ ds σ) (hx : H a = some (.lst xs)) (s : Same (rm H a) H') (hn : H' a = none) (r : RepSt K H' δ' σ') (e : δ'[o]? = δ[o]?) :
    Own K o a H0 (upd H' a (.lst xs)) δ' ds σ' := by
  obtain ⟨ys, hy, hr⟩ := ow.lst
  rw [hx] at hy
  cases hy
  refine ⟨by rw [e]; exact ow.slot, ⟨xs, upd_same, ?_⟩, ?_, ?_⟩
  · rw [rm_upd hn]; exact hr.mono s
  · rw [rm_upd hn]; exact r
  · rw [rm_upd hn]; exact ow.old.trans s
theorem os_lift (h : Ps X st fs) (hl : Leaves o fs) : PsO X o st (oLift fs) := PS.impO (PS.frame h.un) fun E σ H ⟨a, H0, δ, ds, r, ow, e, q⟩ => by
  obtain ⟨xs, hx, hr⟩ := ow.lst
  obtain ⟨fl, e1, e⟩ := bind_some e
  cases e
  refine ⟨a, xs, hx, δ, fl, ow.st, e1, ?_⟩
  have hl' := hl δ fl e1
  cases fl with
  | nx δ' => exact fun σ' H' s' r' hn => q σ' _ (ow.put hx s' hn r' hl')
  | bk δ' => exact fun σ' H' s' r' hn => q σ' _ (ow.put hx s' hn r' hl')
  | ct δ' => exact fun σ' H' s' r' hn => q σ' _ (ow.put hx s' hn r' hl')
  | rt d => exact fun v H' s' r' hn => q v _ ((ow.old.trans s').trans (same_upd hn _)) (r'.mono (same_upd hn _))
theorem oss_close (h : Pss X rest fs) : PssO X o rest (oClose o fs) := PSs.impO h.un fun E σ H ⟨a, H0, δ, ds, r, ow, e, q⟩ => by
  obtain ⟨xs, hx, hr⟩ := ow.lst
  obtain ⟨fl, e1, e⟩ := bind_some e
  have hs : Same (rm H a) H := same_rm H a
  have rs : RepSt X.K H (δ.set o (some (.list ds))) σ := by
    refine ⟨by rw [List.length_set]; exact ow.st.len, fun i d hd => ?_⟩
    by_cases hi : o = i
    · subst hi
      have hlt : o < δ.length := (List.getElem?_eq_some_iff.mp ow.slot).1
      rw [List.getElem?_set_self hlt] at hd
      cases hd
      obtain ⟨v, h1, h2⟩ := ow.st.get o _ ow.slot
      refine ⟨v, h1, ?_⟩
      rw [rep_opq h2]
      exact Rep.ofLst (SqL.of hx) (hr.mono hs)
    · rw [List.getElem?_set_ne hi] at hd
      obtain ⟨v, h1, h2⟩ := ow.st.get i d hd
      exact ⟨v, h1, h2.mono hs⟩
  cases fl with
  | rt d =>
    cases e
    exact ⟨_, _, rs, e1, fun v H' s' r' => q v H' ((ow.old.trans hs).trans s') r'⟩
  | nx δ' => cases e
  | bk δ' => cases e
  | ct δ' => cases e
theorem os_app {p0 p1 p2 : Pos} {x : Str} (h : Pu X a f) (hN : X.N[o]? = some x := by rfl) (hv : Vis X.env.scope x := by first | exact Or.inl rfl | exact Or.inr (Or.inl rfl) | exact Or.inr (Or.inr rfl)) (hd : (x == ("__debug__" : Str)) = false := by decide) (hcd : (x == ("__classdict__" : Str)) = false := by decide)
    (hbase : attributeBase (.Name x p0) "append" X.env (eval (.Name x p0) X.env) = eval (.Name x p0) X.env := by rfl)
    (hfew : ((backTo p2 (starEach [a] X.env)).all (fun x => !x.1) && (backToKw p2 (keywordEach [] X.env)).all (fun x => x.1.isSome) && decide ([a].length + ([] : List Keyword).length + (if ([] : List Keyword).isEmpty then 0 else 1) < 30)) = true := by rfl)
    (hline : (p1.endLine == p2.line) = true := by rfl) (hs : starEach [a] X.env = [(false, eval a X.env)] := by rfl) (hsw : swapsWith (.Call (.Attribute (.Name x p0) "append" p1) [a] [] p2) none pos.line X.env = pure false := by rfl) :
    PsO X o (.Expr (.Call (.Attribute (.Name x p0) "append" p1) [a] [] p2) pos) (oApp o f) :=
  PS.impO (ps_expr (pe_bm PySem.F.plainAttrs_list PySem.F.slot_list_append PySem.F.type_list_append mt_append (pe_var hN hv hd hcd) (pa_cons (PE.frame h.un) pa_nil hs) hbase hfew hline hs rfl) hsw) fun E σ H ⟨a, H0, δ, ds, r, ow, e, q⟩ => by
  obtain ⟨xs, hx, hr⟩ := ow.lst
  obtain ⟨d, e1, e⟩ := bind_some e
  by_cases hf : fit (ds.length + 1) = true
  · rw [if_pos hf] at e
    cases e
    obtain ⟨v, h1, h2⟩ := ow.st.get o _ ow.slot
    have hva := rep_opq h2
    subst hva
    have hz := fit_le hf
    refine ⟨.ref a, h1, .inl ⟨rfl, xs, SqL.of hx⟩, a, xs, hx, δ, d, ow.st, e1, fun v' H' s' r' hn => ?_⟩
    refine ⟨a, xs, v', rfl, rfl, upd_same, by rw [hr.length]; omega, ?_⟩
    rw [upd_upd]
    refine q σ _ ⟨ow.slot, ⟨xs ++ [v'], upd_same, ?_⟩, ?_, ?_⟩
    · rw [rm_upd hn]; exact Reps.append (hr.mono s') (Reps.cons r' Reps.nil)
    · rw [rm_upd hn]; exact ow.st.mono s'
    · rw [rm_upd hn]; exact ow.old.trans s'
  · rw [if_neg hf] at e; cases e
theorem os_for {g : TG} {own : List Nat} (hp : PassesOwn (model X.prog X.w) X.A X.env X.xe) (hc : X.calm = true) (hi : PuI X tg iter fi) (tgd : TgD X.K g gf own) (ho : o ∉ own) (hg : PG X tg g) (hb : PssO X o sa fo)
    (hgl : ∀ d δ δ', gf d δ = some δ' → δ'[o]? = δ[o]?) (hs : ∀ x, foldedSetIterable iter X.env x = pure x := by intro _; rfl) : PsO X o (.For tg iter sa [] pos) (oFor fi gf fo) :=
  PS.impO (ps_for hp hc (PI.frame hi.un) hg hb.un hs) fun E σ H ⟨a, H0, δ, ds, r, ow, e, q⟩ => by
  obtain ⟨xs, hx, hr⟩ := ow.lst
  obtain ⟨es, e1, e⟩ := bind_some e
  refine ⟨a, xs, hx, δ, es, ow.st, e1, fun J H1 s1 hJ hn1 => ?_⟩
  have ow1 : Own X.K o a H0 (upd H1 a (.lst xs)) δ ds σ := ow.put hx s1 hn1 (ow.st.mono s1) rfl
  refine ⟨fun i m σ2 H2 => m = es.length - i ∧ i ≤ es.length ∧ Same H1 (rm H2 a) ∧ ∃ δ2 ds2, Own X.K o a H0 H2 δ2 ds2 σ2 ∧ forO gf fo (es.drop i) δ2 ds2 = some r, ⟨es.length, rfl, Nat.zero_le _, by rw [rm_upd hn1]; exact Same.refl _, δ, ds, ow1, e⟩, ?_⟩
  rintro i m σ2 H2 ⟨rfl, hi.un, s2, δ2, ds2, ow2, e2⟩
  have s2' : Same H1 H2 := s2.trans (same_rm H2 a)
  by_cases hlt : i < es.length
  · refine .inr ⟨hJ.go i H2 s2' hlt, fun σ' H' => ∃ δ3 ds3, Own X.K o a H0 H' δ3 ds3 σ' ∧ Same H1 (rm H' a) ∧ forO gf fo (es.drop (i + 1)) δ3 ds3 = some r, fun σ' H' ⟨δ3, ds3, r3, s3, e3⟩ => ⟨es.length - (i + 1), by omega, rfl, hlt, s3, δ3, ds3, r3, e3⟩, fun x H3 hy => ?_⟩
    obtain ⟨xs2, hx2, hr2⟩ := ow2.lst
    obtain ⟨fy, hx3⟩ := hJ.frm i H2 x H3 a xs2 hx2 hy
    obtain ⟨s3, dx, ex, hx'⟩ := hJ.yld i (rm H2 a) x (rm H3 a) s2 fy hlt
    have hd : es.drop i = dx :: es.drop (i + 1) := by
      rw [List.drop_eq_getElem_cons hlt]
      rw [List.getElem?_eq_getElem hlt] at ex
      rw [Option.some.inj ex]
    rw [hd] at e2
    obtain ⟨δ3, e3, e2⟩ := bind_some e2
    obtain ⟨fl, e4, e2⟩ := bind_some e2
    obtain ⟨fl, ds4⟩ := fl
    refine tgd.run x σ2 H3 (rm H3 a) _ dx δ2 δ3 (same_rm H3 a) (ow2.st.mono s3) hx' e3 fun σ4 r4 _ _ => ?_
    have ow4 : Own X.K o a H0 H3 δ3 ds2 σ4 := ⟨by rw [hgl dx δ2 δ3 e3]; exact ow2.slot, ⟨xs2, hx3, hr2.mono s3⟩, r4, ow2.old.trans s3⟩
    refine ⟨a, rm H3 a, δ3, ds2, (fl, ds4), ⟨ow4.slot, ow4.lst, ow4.st, Same.refl _⟩, e4, ?_⟩
    have back : ∀ {δ5 : Dl} {σ' : St} {H' : Hp}, Own X.K o a (rm H3 a) H' δ5 ds4 σ' → Own X.K o a H0 H' δ5 ds4 σ' ∧ Same H1 (rm H' a) := fun ow' => ⟨⟨ow'.slot, ow'.lst, ow'.st, (ow2.old.trans s3).trans ow'.old⟩, (s2.trans s3).trans ow'.old⟩
    cases fl with
    | nx δ5 => exact fun σ' H' ow' => ⟨δ5, ds4, (back ow').1, (back ow').2, e2⟩
    | ct δ5 => exact fun σ' H' ow' => ⟨δ5, ds4, (back ow').1, (back ow').2, e2⟩
    | bk δ5 =>
      cases e2
      exact fun σ' H' ow' => q σ' H' (back ow').1
    | rt d =>
      cases e2
      exact fun v H' s' r' => q v H' (((ow2.old.trans s3)).trans s') r'
  · have hie : i = es.length := by omega
    subst hie
    rw [List.drop_length] at e2
    cases e2
    exact .inl ⟨hJ.stop H2 s2', q σ2 H2 ow2⟩
theorem leaves_set {i o : Nat} {f : Fe} (h : i ≠ o) : Leaves o (sSet i f) := fun δ r e => by
  obtain ⟨d, e1, e⟩ := bind_some e
  cases e
  exact List.getElem?_set_ne h
end
end PU
namespace L2
open PySem PySem.Spec
open PyProof.Rows hiding St
section
variable {prog : Program} {w : World} {A : Around} {E : Value → Shared → Prop} {z : Shared}
theorem tupNext_item {ip tp : Addr} {i : Nat} {vs : Array Value} {x : Value} {Q : Value → Shared → Prop} (hi : z.heap.IsTupleIter ip tp i) (ht : z.heap.IsTuple tp vs) (hx : vs[i]? = some x)
    (hQ : ∀ h', h'.IsTupleIter ip tp (i + 1) → Heap.SameBut ip z.heap h' → Q x { z with heap := h' }) : wpAny (model prog w) A (Builtin.SmallTypes.nextOf (.ref ip)) Q E z := by
  obtain ⟨ob, e1, e2, e3⟩ := id hi
  obtain ⟨ot, e4, _, nt, e5⟩ := ht
  unfold Builtin.SmallTypes.nextOf
  refine wpAny_bind (wpAny_callSpecial?_slot (name := Str.ofString "__next__") hi.typeIs F.slot_tuple_iterator_next (wpAny_call_entry F.slot_tuple_iterator_next hi.typeIs F.entry_tuple_iterator_next ?_ (F.args_tuple_iterator_next_1 _)))
  show wpAny _ _ (field (.ref ip) 0 >>= _) _ _ z
  refine wpAny_bind (wpAny_field e1 e3 (x := .ref tp) rfl ?_)
  show wpAny _ _ (if (Value.ref tp == Value.none) = true then _ else _) _ _ z
  rw [if_neg (show ¬ ((Value.ref tp == Value.none) = true) from Bool.false_ne_true)]
  show wpAny _ _ (field (.ref ip) 1 >>= _) _ _ z
  refine wpAny_bind (wpAny_field e1 e3 (x := .int i 0) rfl ?_)
  show wpAny _ _ (seqItems? (.ref tp) >>= _) _ _ z
  refine wpAny_bind (wpAny_seqItems e4 e5 ?_)
  simp only [Int.toNat_natCast, hx]
  refine wpAny_bind (wpAny_setField e1 e3 (by simp) (wpAny_pure ⟨x, rfl, wpAny_pure (hQ _ ⟨_, Heap.get?_update_self _ e1 (Obj.isFreed_of_fields (Obj.data_mapFields e3 _)), (Obj.cls_mapFields ..).trans e2, ?_⟩ (Heap.SameBut.update ..))⟩))
  rw [Obj.data_mapFields e3]
  simp [rawInt]
theorem tupNext_end {ip tp : Addr} {i : Nat} {vs : Array Value} {Q : Value → Shared → Prop} (hh : A.handled = none) (hi : z.heap.IsTupleIter ip tp i) (ht : z.heap.IsTuple tp vs) (hx : vs[i]? = none)
    (hE : ∀ h' e, Heap.ExtBut ip z.heap h' → (∃ o, h'.get? e = some o ∧ o.cls = .type "StopIteration") → E (.ref e) { z with heap := h' }) : wpAny (model prog w) A (Builtin.SmallTypes.nextOf (.ref ip)) Q E z := by
  obtain ⟨ob, e1, e2, e3⟩ := id hi
  obtain ⟨ot, e4, _, nt, e5⟩ := ht
  unfold Builtin.SmallTypes.nextOf
  refine wpAny_bind (wpAny_callSpecial?_slot (name := Str.ofString "__next__") hi.typeIs F.slot_tuple_iterator_next (wpAny_call_entry F.slot_tuple_iterator_next hi.typeIs F.entry_tuple_iterator_next ?_ (F.args_tuple_iterator_next_1 _)))
  show wpAny _ _ (field (.ref ip) 0 >>= _) _ _ z
  refine wpAny_bind (wpAny_field e1 e3 (x := .ref tp) rfl ?_)
  show wpAny _ _ (if (Value.ref tp == Value.none) = true then _ else _) _ _ z
  rw [if_neg (show ¬ ((Value.ref tp == Value.none) = true) from Bool.false_ne_true)]
  show wpAny _ _ (field (.ref ip) 1 >>= _) _ _ z
  refine wpAny_bind (wpAny_field e1 e3 (x := .int i 0) rfl ?_)
  show wpAny _ _ (seqItems? (.ref tp) >>= _) _ _ z
  refine wpAny_bind (wpAny_seqItems e4 e5 ?_)
  simp only [Int.toNat_natCast, hx]
  refine wpAny_bind (wpAny_rule (wpAny_bind (wpAny_setField e1 e3 (by simp) ?_)))
  show wpAny _ _ (newExc (.type "StopIteration") [] >>= _) _ _ { z with heap := _ }
  refine wpAny_bind ?_
  simp only [newExc, newTuple]
  refine wpAny_bind (wpAny_newObj_type ?_ (by size_fits))
  refine wpAny_bind (m := firstArgMember _ _) (wpAny_of_eq (a := Value.none) (by first | rfl | (simp only [firstArgMember]; rfl)) (wpAny_newObj_type ?_ (by size_fits)))
  simp only [raiseNew]
  refine wpAny_bind (wpAny_handled ?_)
  first | rw [show A.in1.handled = none from hh] | rw [hh]
  exact wpAny_bind (wpAny_pure (wpAny_throw (hE _ _ (((Heap.SameBut.update ..).extBut.push _).push _) ⟨_, Heap.get?_push_size _ rfl, rfl⟩)))
end
theorem draws_tuple {prog : Program} {w : World} {A : Around} (hh : A.handled = none) (ip tp : Addr) (hne : tp ≠ ip) (vs : Array Value) :
    Draws prog w A ip [ip, tp] vs.size (fun i v => vs[i]? = some v) (fun i h => h.IsTupleIter ip tp i ∧ h.IsTuple tp vs) where
  live := fun i h st => by obtain ⟨⟨o, e, _⟩, _⟩ := st; exact ⟨o, e⟩
  frame := fun i h h' st hk => ⟨st.1.at fun o e => hk ip (by simp) o e, st.2.at fun o e => hk tp (by simp) o e⟩
  item := fun i s Q E hi st hQ => tupNext_item st.1 st.2 (x := vs[i]) (by simp [hi]) fun h' st' sb => hQ _ h' s.toks (by simp [hi]) ⟨st', st.2.extBut sb.extBut hne⟩ sb
  done := fun s Q E st hE => tupNext_end hh st.1 st.2 (by simp) hE
def IsSeq (tup : Bool) (h : Heap) (a : Addr) (vs : Array Value) : Prop := if tup then h.IsTuple a vs else h.IsList a vs
def IsSeqIter (tup : Bool) (h : Heap) (ip a : Addr) (i : Nat) : Prop := if tup then h.IsTupleIter ip a i else h.IsListIter ip a i
theorem draws_seq (tup : Bool) {prog : Program} {w : World} {A : Around} (hh : A.handled = none) (ip a : Addr) (hne : a ≠ ip) (vs : Array Value) :
    Draws prog w A ip [ip, a] vs.size (fun i v => vs[i]? = some v) (fun i h => IsSeqIter tup h ip a i ∧ IsSeq tup h a vs) := by
  cases tup with
  | true => exact draws_tuple hh ip a hne vs
  | false =>
    have h := Draws.list (prog := prog) (w := w) hh ip a hne vs
    exact h
def SqS (tup : Bool) (K : PySem.W.Frag) (H : Hp) (a : Addr) (xs : List V) : Prop := if tup then SqT K H a xs else SqL K H a xs
section
variable {X : Cx} {pins : List (Addr × Obj)} {σ : St} {H : Hp} {s : Shared}
theorem Inv.seq (I : Inv X pins σ H s) {tup : Bool} {a : Addr} {xs : List V} (h : SqS tup X.K H a xs) : ∃ its : List Value, Vals xs its ∧ IsSeq tup s.heap a its.toArray ∧ xs.length ≤ sizeLine ∧ a < s.heap.objs.size := by
  cases tup with
  | true =>
    obtain ⟨its, r, p, z⟩ := I.tuple h
    exact ⟨its, r, p, z, p.lt⟩
  | false =>
    obtain ⟨its, r, p, z⟩ := I.list h
    refine ⟨its, r, p.isList, z, ?_⟩
    obtain ⟨o, n, e, _⟩ := p
    exact Heap.lt_size e
theorem Inv.seq_inj (I : Inv X pins σ H s) {tup : Bool} {a : Addr} {xs ys : List V} (h : SqS tup X.K H a xs) (h' : SqS tup X.K H a ys) : xs = ys := by
  cases tup with
  | true => exact I.tuple_inj h h'
  | false => exact I.list_inj h h'
theorem Inv.track {a : Addr} {o : HO} (I : Inv X pins σ H s) (f : FpOk X pins H a) (hs : X.s₀.heap.objs.size ≤ a) (new : ObjOk X.prog X.w (upd H a o) s.heap a o) : Inv X pins σ (upd H a o) s := by
  obtain ⟨f0, f1, f2, f3, f4, f5⟩ := f
  refine ⟨I.ok, I.os, I.bare, Un.track I.base (Heap.get?_none_of_le hs) f0, I.loc, I.cell, by rw [upd_ne (Ne.symm f1)]; exact I.free, fun x c e => by rw [upd_ne (f4 x c e)]; exact I.freeC x c e, fun p hp => ?_, I.hok.track f0 new, I.len⟩
  obtain ⟨p1, p2, p3, p4, p5⟩ := I.pin p hp
  exact ⟨p1, by rw [upd_ne (f5 p hp)]; exact p2, p3, p4, p5⟩
theorem Inv.turnedL {fp : List Addr} {h' : Heap} {t' : Nat} (I : Inv X pins σ H s) (k : ∀ b o, b ∉ fp → s.heap.get? b = some o → h'.get? b = some o) (ff : ∀ b ∈ fp, FpOk X pins H b) : Inv X pins σ H { s with heap := h', toks := t' } := by
  have nit : ∀ b u, H b = some u → b ∉ fp := fun b u e z => by rw [(ff b z).1] at e; cases e
  refine I.step (g' := s.gens) (d' := s.drawn) (ch := fp) (fun b hb => ?_) (fun b o _ _ hc e _ => k b o hc e) (fun b o _ _ hc e _ => ⟨o.slots, k b o hc e⟩) (fun _ _ _ _ n => n) (fun b o hc e => ⟨o, k b o hc e⟩) (fun _ _ e => e) (fun _ _ _ e => e) (fun b ps e => ⟨#[], by rw [e]; simp⟩)
    (fun m hm => ?_) (fun b u e => ?_) I.bare
  · obtain ⟨_, f1, _, f3, f4, f5⟩ := ff b hb
    exact ⟨f3, f1, f4, f5⟩
  · obtain ⟨o, es, ep, ho, r⟩ := hm
    exact ⟨o, es, ep, k _ o (fun z => (ff _ z).2.1 rfl) ho, r⟩
  · refine (I.hok b u e).stay (fun c v hc q => k c v ?_ q) (fun _ q => q) fun _ _ q => q
    rcases hc with z | z
    · rw [z]; exact nit b u e
    · exact nit c _ z
end
theorem walks_enum {prog : Program} {w : World} {A : Around} {it : Addr} {fp : List Addr} {n : Nat} {P : Nat → Value → Prop} {St : Nat → Heap → Prop} (D : Draws prog w A.in1 it fp n P St) (e : Addr) (hei : e ≠ it) (hef : e ∉ fp) (hif : it ∈ fp) :
    WalksT prog w A e (e :: fp) [e, it] n (fun i vals => ∃ t x, P i x ∧ vals = #[.int i t, x]) (fun i h => (∃ old, IsEnum h e it i old) ∧ St i h)
      (fun i T h => ((∃ x, IsEnumOut h e it ((i : Int) + 1) x T) ∧ St (i + 1) h ∧ T ≠ e ∧ T ≠ it) ∧ ∃ o, h.get? T = some o ∧ o.dict = none) :=
  let W := WalksT.enumerateD D e hei hef hif
  { sub := W.sub, frame := W.frame, done := W.done, self := W.self
    item := fun i s Q E hi hst hQ => by
      obtain ⟨⟨old, he⟩, hs⟩ := hst
      refine wpAny_pyNext_enum_itemD D he hs hi hei hef fun x h' tk hP ho hs' hT hsz hk => ?_
      have helt : e < s.heap.objs.size := Heap.lt_size he
      have hilt : it < s.heap.objs.size := by obtain ⟨_, y⟩ := D.live _ _ hs; exact Heap.lt_size y
      exact hQ s.heap.objs.size #[.int i tk, x] h' (tk + 1) ⟨_, _, hP, rfl⟩ (Nat.le_refl _) ⟨_, hT, rfl, _, rfl⟩ ⟨⟨⟨_, ho⟩, hs', Nat.ne_of_gt helt, Nat.ne_of_gt hilt⟩, _, hT, rfl⟩
        fun b o hb y => hk b o (fun e' => hb (by simp [e'])) (fun e' => hb (by simp [e'])) y
    go := fun elts k pos i T s Q E hm hQ => W.go elts k pos i T s Q E hm.1 hQ
    apart := fun i T h hm => W.apart i T h hm.1 }
def Ite (K : PySem.W.Frag) (tup : Bool) (a : Addr) : It :=
  ⟨fun i H => ∃ xs x, SqS tup K H a xs ∧ xs[i]? = some x, fun i H x H' => ∃ p y, x = .ref p ∧ H p = none ∧ H' = upd H p (.tup [.int i, y]) ∧ ∀ xs, SqS tup K H a xs → xs[i]? = some y, fun i H => ∃ xs, SqS tup K H a xs ∧ xs.length = i⟩
theorem turn_enum {P : Program} {w : World} {K : PySem.W.Frag} {elts : List Expr} {k : Nat} {pos : Pos} (tup : Bool) (a e ip : Addr) (hae : a ≠ e) (hai : a ≠ ip) (hei : e ≠ ip) :
    Turn P w K (.Tuple elts k pos) (Ite K tup a) [e, ip] e (fun i h => (∃ old, IsEnum h e ip i old) ∧ IsSeqIter tup h ip a i) where
  mem := by simp
  obj := fun i h st b hb => by
    obtain ⟨⟨old, he⟩, hs⟩ := st
    have hb' : b = e ∨ b = ip := by simpa using hb
    rcases hb' with z | z
    · subst z
      exact ⟨_, he, fun v q => nomatch q⟩
    · subst z
      cases tup with
      | true => obtain ⟨o, e1, _, d⟩ := (show h.IsTupleIter _ _ _ from hs); exact ⟨o, e1, fun v q => by rw [d] at q; cases q⟩
      | false => obtain ⟨o, e1, _, d⟩ := (show h.IsListIter _ _ _ from hs); exact ⟨o, e1, fun v q => by rw [d] at q; cases q⟩
  keep := fun i h h' st kk => by
    obtain ⟨⟨old, he⟩, hs⟩ := st
    refine ⟨⟨old, kk e (by simp) _ he⟩, ?_⟩
    cases tup with
    | true => exact (show h.IsTupleIter _ _ _ from hs).at fun o q => kk ip (by simp) o q
    | false => exact (show h.IsListIter _ _ _ from hs).at fun o q => kk ip (by simp) o q
  item := by
    intro X hP hw hK hc i pins s σ H E I hf st hg
    subst hP hw hK
    obtain ⟨xs, x, hq, hx⟩ := hg
    obtain ⟨its, rv, pl, hz, hlt⟩ := I.seq hq
    obtain ⟨u, hu, ru⟩ := rv.get hx
    obtain ⟨st1, st2⟩ := st
    have hi : i < its.toArray.size := by rw [List.size_toArray]; exact (List.getElem?_eq_some_iff.mp hu).1
    have W := walks_enum (draws_seq tup (prog := X.prog) (w := X.w) (A := X.A.in1) (I.ok.hd hc) ip a hai its.toArray) e hei (by simp [hei, Ne.symm hae]) (by simp)
    refine W.item i s _ _ hi ⟨st1, st2, pl⟩ fun T vals h1 tk hPt hTs hTup hMid hk1 => ?_
    obtain ⟨t, y, hy, rfl⟩ := hPt
    have hyu : y = u := by
      have : its.toArray[i]? = some u := by simpa using hu
      rw [hy] at this
      exact Option.some.inj this
    subst hyu
    refine ⟨_, rfl, W.go elts k pos i T _ _ _ hMid fun h2 st3 hk2 => ?_⟩
    have hTw := W.apart i T h1 hMid
    have hk : ∀ b o, b ∉ [e, ip] → s.heap.get? b = some o → h2.get? b = some o := fun b o hb q => hk2 b o hb (hk1 b o hb q)
    have I2 : Inv X pins σ H { s with heap := h2, toks := tk } := I.turnedL hk hf
    have hTn : H T = none := I.hok.fresh hTs
    obtain ⟨oT, t1, t2, nT, t3⟩ := hTup
    have t4 : oT.dict = none := by obtain ⟨o', g1, g2⟩ := hMid.2; rw [t1] at g1; cases g1; exact g2
    have I3 : Inv X pins σ (upd H T (.tup [.int i, x])) { s with heap := h2, toks := tk } := I2.track (I.fpOk hTs hTn) (Nat.le_trans I.sz hTs)
      ⟨by show 2 ≤ sizeLine; decide, [.int i t, y], .cons ⟨t, rfl⟩ (.cons ru .nil), oT, hk2 T oT hTw t1, t4, t2, nT, t3⟩
    refine ⟨.ref T, _, I3, rfl, ⟨T, x, rfl, hTn, rfl, fun ys hys => by rw [I.seq_inj hys hq]; exact hx⟩, ⟨st3.1, st3.2.1⟩, fun b hb => ?_⟩
    rw [upd_ne (fun zz => hTw (by rw [← zz]; exact hb))]
    exact (hf b hb).1
  done := by
    intro X hP hw hK hc i pins s σ H E I hf st hg
    subst hP hw hK
    obtain ⟨xs, hq, hx⟩ := hg
    obtain ⟨its, rv, pl, hz, hlt⟩ := I.seq hq
    have W := walks_enum (draws_seq tup (prog := X.prog) (w := X.w) (A := X.A.in1) (I.ok.hd hc) ip a hai its.toArray) e hei (by simp [hei, Ne.symm hae]) (by simp)
    have hn : i = its.toArray.size := by rw [List.size_toArray, ← rv.length]; exact hx.symm
    subst hn
    exact W.done s _ _ ⟨st.1, st.2, pl⟩ fun h' tk hk => ⟨rfl, I.turnedL hk hf⟩
  self := fun A i s Q E st h => by
    obtain ⟨⟨old, he⟩, _⟩ := st
    exact wpAny_pyIter_enum he h
end L2
namespace PySem
open PyProof.Rows
set_option maxHeartbeats 1000000 in
theorem meets_enum_newT (l : Addr) (items : Array Value) (n : Nat) (dct : Option Addr) (sl : Array (Option Value)) :
    Meets (Builtin.«enumerate.__new__» ⟨[.type "enumerate", .ref l], []⟩) (fun _ R s => s.heap.get? l = some { cls := .type "tuple", dict := dct, data := .seq items n, slots := sl } ∧
      R (.ok (.ret (.ref (s.heap.push { cls := .type "tuple_iterator", data := .fields #[.ref l, .int 0 0] }).objs.size)))
        { s with heap := (s.heap.push { cls := .type "tuple_iterator", data := .fields #[.ref l, .int 0 0] }).push { cls := .type "enumerate", data := .fields #[.none, .bool false, .ref s.heap.objs.size, rawInt 0, .none, .none] } }) :=
  .of_wp fun prog w A R s h => by
    obtain ⟨hp, g, d, tk, os⟩ := s
    obtain ⟨hl, h⟩ := h
    have hsub := sub_enumerate
    have hT : Heap.IsTuple (Shared.heap ⟨hp, g, d, tk, os⟩) l items := ⟨_, hl, rfl, n, rfl⟩
    wp_walk using AutoSeq1.wpAny_loadPart' hl
    refine wpAny_stack_any fun st => wpAny_pure ?_
    split
    · rename_i c _ _ _ _ _
      cases (c == Value.type "enumerate") <;> (wp_walk using AutoSeq1.wpAny_loadPart' hl, wpAny_pyIter_tuple hT; exact ⟨_, rfl, h⟩)
    · wp_walk using AutoSeq1.wpAny_loadPart' hl, wpAny_pyIter_tuple hT
      exact ⟨_, rfl, h⟩
theorem call_enum_tuple {prog : Program} {w : World} {A : Around} {E : Value → Shared → Prop} {z : Shared} {l : Addr} {items : Array Value} {Q : Value → Shared → Prop} (hT : z.heap.IsTuple l items)
    (h : ∀ h', IsEnum h' (z.heap.objs.size + 1) z.heap.objs.size 0 .none → h'.IsTupleIter z.heap.objs.size l 0 → h'.objs.size = z.heap.objs.size + 2 → (∀ b o, z.heap.get? b = some o → h'.get? b = some o) → Q (.ref (z.heap.objs.size + 1)) { z with heap := h' }) :
    wpAny (model prog w) A (call (.type "enumerate") [.ref l]) Q E z := by
  obtain ⟨⟨c, dct, dt, sl⟩, hl, hc, n, hd⟩ := hT
  simp only at hc hd
  subst hc hd
  refine callType_new F.called_enumerate (by decide) (F.typeCall_enumerate_1 _) (F.newCall_enumerate_1 _) (fun obj => F.args_object_init_2 obj _) F.entry_enumerate_new (meets_enum_newT l items n dct sl) ⟨hl, ?_⟩
  have hz : (z.heap.push { cls := .type "tuple_iterator", data := .fields #[.ref l, .int 0 0] }).objs.size = z.heap.objs.size + 1 := Heap.size_push ..
  show _ ∧ _
  rw [hz]
  have he : IsEnum ((z.heap.push { cls := .type "tuple_iterator", data := .fields #[.ref l, .int 0 0] }).push { cls := .type "enumerate", data := .fields #[.none, .bool false, .ref z.heap.objs.size, rawInt 0, .none, .none] }) (z.heap.objs.size + 1) z.heap.objs.size 0 .none := by
    have q := Heap.get?_push_size (z.heap.push { cls := .type "tuple_iterator", data := .fields #[.ref l, .int 0 0] }) (o := { cls := .type "enumerate", data := .fields #[.none, .bool false, .ref z.heap.objs.size, rawInt 0, .none, .none] }) rfl
    rw [hz] at q
    exact q
  exact ⟨⟨_, he, rfl⟩, h _ he ⟨_, Heap.get?_push_of_some _ (Heap.get?_push_size _ rfl), rfl, rfl⟩ (by rw [Heap.size_push, hz]) fun b o x => Heap.get?_push_of_some _ (Heap.get?_push_of_some _ x)⟩
end PySem
namespace PU
open PySem PySem.Spec L2
open PyProof.Rows hiding St
section
variable {X : Cx} {a b : Expr} {elts : List Expr} {kt : Nat} {pt pos : Pos} {f g : Fe}
theorem sqS_mono {K : PySem.W.Frag} {H H' : Hp} (e : Same H H') {tup : Bool} {p : Addr} {xs : List V} (h : SqS tup K H p xs) : SqS tup K H' p xs := by
  cases tup with
  | true => exact sqT_mono e h
  | false => exact e.seq h
theorem enumD_get {l : List D} {i : Nat} {d : D} (h : l[i]? = some d) : (enumD l)[i]? = some (.tuple [.int (i : Int), d]) := by
  unfold enumD
  rw [List.getElem?_map, List.getElem?_zipIdx, h]
  simp
theorem enumD_length (l : List D) : (enumD l).length = l.length := by unfold enumD; rw [List.length_map, List.length_zipIdx]
theorem itd_enum {K : PySem.W.Frag} {H : Hp} {tup : Bool} {p : Addr} {xs : List V} {ds : List D} (h : SqS tup K H p xs) (r : Reps K H ds xs) : ItD K (enumD ds) (Ite K tup p) H where
  go := fun i H2 s2 hi => by
    rw [enumD_length] at hi
    obtain ⟨x, h1, _⟩ := r.getD (List.getElem?_eq_getElem hi)
    exact ⟨xs, x, sqS_mono s2 h, h1⟩
  yld := fun i H2 x H3 s2 hy hi => by
    obtain ⟨q, y, rfl, hq, rfl, hy⟩ := hy
    obtain ⟨d, h1, h2⟩ := (r.mono s2).get (hy xs (sqS_mono s2 h))
    exact ⟨same_upd hq _, _, enumD_get h1, Rep.newTup hq (Reps.cons (Rep.ofInt _) (Reps.cons h2 Reps.nil))⟩
  stop := fun H2 s2 => ⟨xs, sqS_mono s2 h, by rw [enumD_length]; exact r.length⟩
  frm := fun i H2 x H3 a xs hx hy => by
    obtain ⟨q, y, rfl, hq, rfl, hy⟩ := hy
    have hne : q ≠ a := fun z => by rw [z, hx] at hq; cases hq
    refine ⟨⟨q, y, rfl, by rw [rm_ne hne]; exact hq, ?_, fun ys h => hy ys (sqS_mono (same_rm _ a) h)⟩, by rw [upd_ne (Ne.symm hne)]; exact hx⟩
    funext b
    by_cases hb : b = a
    · subst hb; rw [rm_same, upd_ne (Ne.symm hne), rm_same]
    · rw [rm_ne hb]
      by_cases hbq : b = q
      · subst hbq; rw [upd_same, upd_same]
      · rw [upd_ne hbq, upd_ne hbq, rm_ne hb]
theorem pui_enum {p0 : Pos} (hg : Gl X "enumerate") (hm : X.mg "enumerate" = none) (hc : X.calm = true) (ha : Pu X a f) (hb : bootBuiltins "enumerate" = some (.type "enumerate") := by decide +kernel) (hs : starEach [a] X.env = [(false, eval a X.env)] := by rfl) :
    PuI X (.Tuple elts kt pt) (.Call (.Name "enumerate" p0) [a] [] pos) (iEnum f) := by
  refine ⟨?_⟩
  intro pins s σ H R I h
  obtain ⟨δ, es, rs, e, q⟩ := h
  obtain ⟨d, e1, e⟩ := bind_some e
  obtain ⟨l, e2, e⟩ := bind_some e
  cases e
  refine Call_ (ld_blt I hg hm hb (PyProof.Rows.callWith_type1 (thn ((pua_cons ha pua_nil hs).un pos pins s σ H (fun vs H1 => ∃ v, vs = [v] ∧ Same H H1 ∧ Rep X.K H1 d v) I ⟨δ, [d], rs, by unfold aCons aNil; rw [e1]; rfl, fun vs H1 s1 h1 => by obtain ⟨v, rfl, h2⟩ := reps1 h1; exact ⟨v, rfl, s1, h2⟩⟩) fun us s1 ⟨vs, H1, I1, r1, q1⟩ => ?_) hs rfl))
  obtain ⟨v, rfl, s1', h1⟩ := q1
  obtain ⟨u, rfl, ru⟩ := vals1 r1
  have fin : ∀ (tup : Bool) (p : Addr) (xs : List V), u = .ref p → SqS tup X.K H1 p xs → Reps X.K H1 l xs → ∀ h', IsEnum h' (s1.heap.objs.size + 1) s1.heap.objs.size 0 .none → IsSeqIter tup h' s1.heap.objs.size p 0 → (∀ b o, s1.heap.get? b = some o → h'.get? b = some o) →
      wpAny (model X.prog X.w) X.A (pyIter (.ref (s1.heap.objs.size + 1))) (PIE X pins σ (.Tuple elts kt pt) R) X.xe { s1 with heap := h' } := fun tup p xs hu hsq hr h' hE hI hk => by
    obtain ⟨_, _, _, _, hlt⟩ := I1.seq hsq
    refine wpAny_pyIter_enum hE ⟨s1.heap.objs.size + 1, [s1.heap.objs.size + 1, s1.heap.objs.size], _, _, H1, rfl, I1.kept (t' := s1.toks) hk, turn_enum tup p (s1.heap.objs.size + 1) s1.heap.objs.size (Nat.ne_of_lt (Nat.lt_succ_of_lt hlt)) (Nat.ne_of_lt hlt) (Nat.succ_ne_self _), ⟨⟨_, hE⟩, hI⟩, fun b hb => ?_, q _ _ s1' (itd_enum hsq hr)⟩
    have hb' : b = s1.heap.objs.size + 1 ∨ b = s1.heap.objs.size := by simpa using hb
    have hle : s1.heap.objs.size ≤ b := by rcases hb' with z | z <;> (rw [z]; first | exact Nat.le_succ _ | exact Nat.le_refl _)
    exact I1.fpOk hle (I1.hok.fresh hle)
  cases d with
  | list l' =>
    cases e2
    obtain ⟨p, xs, rfl, h2, h3⟩ := rep_lst h1
    cases ru
    obtain ⟨its, rv, pl, hz⟩ := I1.list h2
    exact call_enumerate_list pl.isList fun h' a1 a2 _ a4 => fin false p xs rfl h2 h3 h' a1 a2 a4
  | tuple l' =>
    cases e2
    obtain ⟨p, xs, rfl, h2, h3⟩ := rep_tup h1
    cases ru
    obtain ⟨its, rv, pl, hz⟩ := I1.tuple h2
    exact call_enum_tuple (show s1.heap.IsTuple p its.toArray from pl) fun h' a1 a2 _ a4 => fin true p xs rfl h2 h3 h' a1 a2 a4
  | _ => cases e2
structure Df (P : Program) (w : World) (K : PySem.W.Frag) (mg : Str → Option Value) (base : Heap) (k : Nat) (x : Str) (ps : List Str) (F : List D → Option D) : Prop where
  ex : ∃ (f0 : Addr) (fd : FuncData), FnOk P w K mg base CX0 k f0 fd ps (spP K ps.length F) ∧ Binds K fd ps [] ∧ PySem.W.keepIn K (.ref f0) = true ∧ mg x = some (.ref f0)
theorem pu_callD {fa : Fa} {kk : Nat} {ps : List Str} {F : List D → Option D} {x : Str} {p0 : Pos} {es : List Expr} (d : Df X.prog X.w X.K X.mg X.base kk x ps F) (hr : Room kk X.A) (hg : Gl X x) (ha : PuA X (a :: es) fa) (hn : ∀ δ ds, fa δ = some ds → ds.length = ps.length)
    (hdb : (x == ("__debug__" : Str)) = false := by decide) (he : starEach (a :: es) X.env = (false, eval a X.env) :: starEach es X.env := by rfl) (hpl : (backTo pos (starEach es X.env)).any (·.1) = false := by rfl) : Pu X (.Call (.Name x p0) (a :: es) [] pos) (eCall F fa) := by
  obtain ⟨f0, fd, h1, h2, h3, h4⟩ := d.ex
  exact pu_call (E := E0) h1 hr hg h4 h3 h2 ha hn hdb he hpl
def relN (XS : Scope) (names : List (Str × NameKind)) : List (Str × NameKind) := names.map fun (n, k) => if (k == .free && XS.kind == .function && XS.names.lookup n == some .cell) then (n, .cell) else (n, k)
end
end PU
namespace L2
open PySem PySem.Spec
open PyProof.Rows hiding St
section
variable {X : Cx}
def rCatT2 (K : PySem.W.Frag) : R2 := fun x y H Q => ∃ a b xs ys, x = .ref a ∧ y = .ref b ∧ SqT K H a xs ∧ SqT K H b ys ∧ xs.length + ys.length ≤ sizeLine ∧
  (xs = [] → Q (.ref b) H) ∧ (xs ≠ [] → ys = [] → Q (.ref a) H) ∧ (xs ≠ [] → ys ≠ [] → ∀ p, H p = none → Q (.ref p) (upd H p (.tup (xs ++ ys))))
theorem op_catT2 : OpR X (binaryOp .Add) (rCatT2 X.K) := by
  intro pins s σ H x y v u Q I rx ry h
  obtain ⟨a, b, xs, ys, rfl, rfl, ha, hb, hz, q0, q1, q2⟩ := h
  cases rx
  cases ry
  obtain ⟨its, r1, p1, _⟩ := I.tuple ha
  obtain ⟨its2, r2, p2, _⟩ := I.tuple hb
  by_cases hx : xs = []
  · obtain ⟨⟨c1, d1, dt1, sl1⟩, o1, e1, n1, f1⟩ := p1
    obtain ⟨⟨c2, d2, dt2, sl2⟩, o2, e2, n2, f2⟩ := p2
    simp only at e1 f1 e2 f2
    subst e1 f1 e2 f2
    have hi : its = [] := r1.nil_iff.mpr hx
    exact concat_meets ⟨_, o1, rfl⟩ ⟨_, o2, rfl⟩ noFill_tuple_add seq_tuple_add PySem.F.slot_tuple_add PySem.F.entry_tuple_add (PySem.F.args_tuple_add_2 _ _) (tuple_addW0 a b its.toArray its2.toArray n1 n2 d1 d2 sl1 sl2 (by simp [hi])) ⟨o1, o2, ⟨.ref b, H, I, rfl, q0 hx⟩⟩
  · refine HT.cat_tup p1 p2 (fun z => hx (r1.nil_iff.mp z)) (fun z => ⟨.ref a, H, I, rfl, q1 hx (r2.nil_iff.mp z)⟩) (fun z => ?_) (by rw [← r1.length, ← r2.length]; exact hz)
    refine ⟨.ref s.heap.objs.size, _, I.laid (t' := s.toks) (o := .tup (xs ++ ys)) (fun b ob q => Heap.get?_push_of_some _ q) (Nat.le_refl _) ?_, rfl, q2 hx (fun w => z (r2.nil_iff.mpr w)) _ (I.hok.fresh (Nat.le_refl _))⟩
    exact ⟨by rw [List.length_append]; exact hz, _, r1.append r2, IsTupD.new _ _⟩
def rCatL (K : PySem.W.Frag) : R2 := fun x y H Q => ∃ a b xs ys, x = .ref a ∧ y = .ref b ∧ SqL K H a xs ∧ SqL K H b ys ∧ xs.length + ys.length ≤ sizeLine ∧ ∀ p, H p = none → Q (.ref p) (upd H p (.lst (xs ++ ys)))
theorem op_catL : OpR X (binaryOp .Add) (rCatL X.K) := by
  intro pins s σ H x y v u Q I rx ry h
  obtain ⟨a, b, xs, ys, rfl, rfl, ha, hb, hz, q⟩ := h
  cases rx
  cases ry
  obtain ⟨its, r1, ⟨⟨c1, d1, dt1, sl1⟩, n1, o1, e1, _, f1⟩, _⟩ := I.list ha
  obtain ⟨its2, r2, ⟨⟨c2, d2, dt2, sl2⟩, n2, o2, e2, _, f2⟩, _⟩ := I.list hb
  simp only at e1 f1 e2 f2
  subst e1 f1 e2 f2
  have e : its.toArray ++ its2.toArray = (its ++ its2).toArray := by simp
  have hl1 := r1.length
  have hl2 := r2.length
  refine concat_meets ⟨_, o1, rfl⟩ ⟨_, o2, rfl⟩ noFill_list_add seq_list_add PySem.F.slot_list_add PySem.F.entry_list_add (PySem.F.args_list_add_2 _ _) (list_addW a b its.toArray its2.toArray n1 n2 d1 d2 sl1 sl2 (by rw [List.size_toArray, List.size_toArray]; omega)) ⟨o1, o2, ?_⟩
  rw [e]
  refine ⟨.ref s.heap.objs.size, _, I.laid (t' := s.toks) (o := .lst (xs ++ ys)) (fun b ob q => Heap.get?_push_of_some _ q) (Nat.le_refl _) ?_, rfl, q _ (I.hok.fresh (Nat.le_refl _))⟩
  exact ⟨by rw [List.length_append]; exact hz, _, 0, r1.append r2, Heap.get?_push_size _ rfl⟩
end
end L2
namespace PU
open PySem PySem.Spec L2
open PyProof.Rows hiding St
section
variable {X : Cx} {a b : Expr} {f g : Fe} {pos : Pos}
theorem reps_nil_iff {K : PySem.W.Frag} {H : Hp} {ds : List D} {xs : List V} (h : Reps K H ds xs) : xs = [] ↔ ds = [] := by
  cases ds with
  | nil => rw [h.unnil]; exact ⟨fun _ => rfl, fun _ => rfl⟩
  | cons d ds => obtain ⟨v, vs, rfl, _⟩ := h.uncons; exact ⟨(fun z => nomatch z), (fun z => nomatch z)⟩
theorem pu_add (ha : Pu X a f) (hb : Pu X b g) : Pu X (.BinOp a .Add b pos) (eOp oAdd f g) := PE.imp (pe_op (op_add.or (op_catT2.or op_catL)) ha.un hb.un) (op_of fun x y d e H vx vy Q hx hy q => by
  unfold oAdd at e
  split at e
  · cases e
    rw [rep_int hx, rep_int hy]
    exact .inl ⟨_, _, rfl, rfl, q _ H (Same.refl H) (Rep.ofInt _)⟩
  · rename_i l m
    by_cases hf : fit (l.length + m.length) = true
    · rw [if_pos hf] at e
      cases e
      obtain ⟨p, xs, rfl, h1, h2⟩ := rep_tup hx
      obtain ⟨p', ys, rfl, h3, h4⟩ := rep_tup hy
      refine .inr (.inl ⟨p, p', xs, ys, rfl, rfl, h1, h3, by rw [h2.length, h4.length]; exact fit_le hf, fun z => ?_, fun _ z => ?_, fun _ _ t ht => ?_⟩)
      · have hl : l = [] := (reps_nil_iff h2).mp z
        rw [hl, List.nil_append] at q
        exact q _ H (Same.refl H) (Rep.ofTup h3 h4)
      · have hm : m = [] := (reps_nil_iff h4).mp z
        rw [hm, List.append_nil] at q
        exact q _ H (Same.refl H) (Rep.ofTup h1 h2)
      · exact q _ _ (same_upd ht _) (Rep.newTup ht (h2.append h4))
    · rw [if_neg hf] at e; cases e
  · rename_i l m
    by_cases hf : fit (l.length + m.length) = true
    · rw [if_pos hf] at e
      cases e
      obtain ⟨p, xs, rfl, h1, h2⟩ := rep_lst hx
      obtain ⟨p', ys, rfl, h3, h4⟩ := rep_lst hy
      exact .inr (.inr ⟨p, p', xs, ys, rfl, rfl, h1, h3, by rw [h2.length, h4.length]; exact fit_le hf, fun t ht => q _ _ (same_upd ht _) (Rep.newLst ht (h2.append h4))⟩)
    · rw [if_neg hf] at e; cases e
  · cases e)
end
theorem kit_eq (K : PySem.W.Frag) (A B : String) : PySem.W.kitOne K (.type A) (.type B) = (if (Value.type A == Value.type B) = true then some true else if PySem.W.kitMeta B = true then (fastBuiltinMro A).map (·.contains (Value.type B)) else none) := rfl
theorem kit_int (K : PySem.W.Frag) : KitT K "int" := ⟨(kit_eq K _ _).trans (by decide +kernel), (kit_eq K _ _).trans (by decide +kernel), (kit_eq K _ _).trans (by decide +kernel), (kit_eq K _ _).trans (by decide +kernel), (kit_eq K _ _).trans (by decide +kernel), (kit_eq K _ _).trans (by decide +kernel)⟩
theorem kit_bool (K : PySem.W.Frag) : KitT K "bool" := ⟨(kit_eq K _ _).trans (by decide +kernel), (kit_eq K _ _).trans (by decide +kernel), (kit_eq K _ _).trans (by decide +kernel), (kit_eq K _ _).trans (by decide +kernel), (kit_eq K _ _).trans (by decide +kernel), (kit_eq K _ _).trans (by decide +kernel)⟩
theorem kit_tuple (K : PySem.W.Frag) : KitT K "tuple" := ⟨(kit_eq K _ _).trans (by decide +kernel), (kit_eq K _ _).trans (by decide +kernel), (kit_eq K _ _).trans (by decide +kernel), (kit_eq K _ _).trans (by decide +kernel), (kit_eq K _ _).trans (by decide +kernel), (kit_eq K _ _).trans (by decide +kernel)⟩
theorem bb_len : bootBuiltins "len" = some (.builtin "len") := by decide +kernel
theorem bb_sum : bootBuiltins "sum" = some (.builtin "sum") := by decide +kernel
theorem bb_abs : bootBuiltins "abs" = some (.builtin "abs") := by decide +kernel
theorem bb_min : bootBuiltins "min" = some (.builtin "min") := by decide +kernel
theorem bb_max : bootBuiltins "max" = some (.builtin "max") := by decide +kernel
theorem bb_isinstance : bootBuiltins "isinstance" = some (.builtin "isinstance") := by decide +kernel
theorem bb_tuple : bootBuiltins "tuple" = some (.type "tuple") := by decide +kernel
theorem bb_list : bootBuiltins "list" = some (.type "list") := by decide +kernel
theorem bb_int : bootBuiltins "int" = some (.type "int") := by decide +kernel
theorem bb_bool : bootBuiltins "bool" = some (.type "bool") := by decide +kernel
theorem gN_leaves {i o : Nat} (h : i ≠ o) : ∀ d δ δ', gN i d δ = some δ' → δ'[o]? = δ[o]? := fun d δ δ' e => by
  cases e
  exact List.getElem?_set_ne h
end PU
namespace PU
open PySem PySem.Spec L2
open PyProof.Rows hiding St
section
variable {X : Cx} {a b c tg iter : Expr} {es : List Expr} {pos : Pos} {f g : Fe} {fa : Fa} {fi : Fi} {gf : Fg} {p : Fb} {st : Stmt} {rest sa sb : List Stmt} {o : Nat} {fs fs' : Fs} {fo go : Fo}
theorem Own.view {K : PySem.W.Frag} {o : Nat} {a : Addr} {H0 H : Hp} {δ : Dl} {ds : List D} {σ : St} (ow : Own K o a H0 H δ ds σ) : RepSt K H (vw o δ ds) σ := by
  obtain ⟨xs, hx, hr⟩ := ow.lst
  have hs : Same (rm H a) H := same_rm H a
  refine ⟨by unfold vw; rw [List.length_set]; exact ow.st.len, fun i d hd => ?_⟩
  unfold vw at hd
  by_cases hi : o = i
  · subst hi
    have hlt : o < δ.length := (List.getElem?_eq_some_iff.mp ow.slot).1
    rw [List.getElem?_set_self hlt] at hd
    cases hd
    obtain ⟨v, h1, h2⟩ := ow.st.get o _ ow.slot
    refine ⟨v, h1, ?_⟩
    rw [rep_opq h2]
    exact Rep.ofLst (SqL.of hx) (hr.mono hs)
  · rw [List.getElem?_set_ne hi] at hd
    obtain ⟨v, h1, h2⟩ := ow.st.get i d hd
    exact ⟨v, h1, h2.mono hs⟩
theorem same_rm_rm {H H' : Hp} (s : Same H H') (a : Addr) : Same (rm H a) (rm H' a) := fun b u h => by
  obtain ⟨h1, h2⟩ := rm_some h
  rw [rm_ne h1]
  exact s b u h2
theorem Own.grow {K : PySem.W.Frag} {o : Nat} {a : Addr} {H0 H H' : Hp} {δ : Dl} {ds : List D} {σ : St} (ow : Own K o a H0 H δ ds σ) (s : Same H H') : Own K o a H0 H' δ ds σ := by
  obtain ⟨xs, hx, hr⟩ := ow.lst
  have s' := same_rm_rm s a
  exact ⟨ow.slot, ⟨xs, s _ _ hx, hr.mono s'⟩, ow.st.mono s', ow.old.trans s'⟩
theorem flat_rep {K : PySem.W.Frag} {H H' : Hp} {d : D} {v : V} (hf : flatD d = true) (h : Rep K H d v) : Rep K H' d v := by
  cases d with
  | none => rw [rep_none h]; exact Rep.ofNone
  | bool b => rw [rep_bool h]; exact Rep.ofBool b
  | int i => rw [rep_int h]; exact Rep.ofInt i
  | str x => rw [rep_str h]; exact Rep.ofStr x
  | _ => cases hf
theorem Own.setI {K : PySem.W.Frag} {o i : Nat} {a : Addr} {H0 H : Hp} {δ : Dl} {ds : List D} {σ : St} {d : D} {v : V} (ow : Own K o a H0 H δ ds σ) (hio : i ≠ o) (h : Rep K (rm H a) d v) : Own K o a H0 H (δ.set i (some d)) ds (σ.set i (some v)) :=
  ⟨by rw [List.getElem?_set_ne hio]; exact ow.slot, ow.lst, ow.st.set h i, ow.old⟩
theorem os_setV {i : Nat} {x : Str} {e : Expr} {px : Pos} (hN : X.N.Nodup) (he : Pu X e f) (hio : i ≠ o) (hi : X.N[i]? = some x := by rfl) (hx : Loc X.env.scope x := by first | exact Or.inl rfl | exact Or.inr rfl)
    (hs : swapsWith e (some (.Name x px)) pos.line X.env = pure false := by rfl) (hf : X.fn x = true ∨ X.env.scope.names.lookup x = some .local := by first | exact .inl rfl | exact .inr rfl) :
    PsO X o (.Assign [.Name x px] e pos) (oSetV o i f) := PS.impO (ps_set hN hi hx he.un hs hf) fun E σ H ⟨a, H0, δ, ds, r, ow, e, q⟩ => by
  obtain ⟨d, e1, e⟩ := bind_some e
  by_cases hfl : flatD d = true
  · rw [if_pos hfl] at e
    cases e
    exact ⟨vw o δ ds, d, ow.view, e1, fun v H' s' r' => q _ _ ((ow.grow s').setI hio (flat_rep hfl r'))⟩
  · rw [if_neg hfl] at e; cases e
theorem os_while (n : Nat) (hp : PassesOwn (model X.prog X.w) X.A X.env X.xe) (hc : PuT X c p) (hb : PssO X o sa fo) : PsO X o (.While c sa [] pos) (oWh n o p fo) := PS.impO (ps_while hp hc.un hb.un) fun E σ H ⟨a, H0, δ, ds, r, ow, e, q⟩ => by
  refine ⟨fun m σ2 H2 => ∃ δ2 ds2, Own X.K o a H0 H2 δ2 ds2 σ2 ∧ whO o p fo m δ2 ds2 = some r, ⟨n, δ, ds, ow, e⟩, ?_⟩
  rintro m σ2 H2 ⟨δ2, ds2, ow2, e2⟩
  cases m with
  | zero => cases e2
  | succ m =>
    obtain ⟨t, e3, e2⟩ := bind_some e2
    refine ⟨vw o δ2 ds2, t, ow2.view, e3, fun H3 s3 => ?_⟩
    cases t with
    | true =>
      rw [if_pos rfl] at e2 ⊢
      obtain ⟨fl, e4, e2⟩ := bind_some e2
      obtain ⟨fl, ds4⟩ := fl
      refine ⟨fun σ' H' => ∃ δ' ds', Own X.K o a H0 H' δ' ds' σ' ∧ whO o p fo m δ' ds' = some r, fun σ' H' w => ⟨m, Nat.lt_succ_self m, w⟩, a, H0, δ2, ds2, (fl, ds4), ow2.grow s3, e4, ?_⟩
      cases fl with
      | nx δ' => exact fun σ' H' ow' => ⟨δ', ds4, ow', e2⟩
      | ct δ' => exact fun σ' H' ow' => ⟨δ', ds4, ow', e2⟩
      | bk δ' => cases e2; exact q
      | rt d => cases e2; exact q
    | false =>
      rw [if_neg Bool.false_ne_true] at e2 ⊢
      cases e2
      exact q σ2 H3 (ow2.grow s3)
theorem oOpen_some {δ : Dl} {r : Fl} (h : oOpen o fa fo δ = some r) : o < δ.length ∧ ∃ d ds0, r = .rt d ∧ fa δ = some ds0 ∧ fit ds0.length = true ∧ ∀ p : Addr, ∃ ds, fo (δ.set o (some (opq p))) ds0 = some (.rt d, ds) := by
  unfold oOpen at h
  split at h
  · rename_i hc
    cases h
    obtain ⟨ds0, h1, h2, h3⟩ := Classical.choose_spec hc.2
    exact ⟨hc.1, _, ds0, rfl, h1, h2, h3⟩
  · cases h
theorem puss_openC {x : Str} {px p0 : Pos} (hN : X.N.Nodup) (ha : PuA X es fa) (t : PssO X o rest fo) (hi : X.N[o]? = some x := by rfl) (hx : Loc X.env.scope x := by first | exact Or.inl rfl | exact Or.inr rfl)
    (hs : swapsWith (.List es p0) (some (.Name x px)) pos.line X.env = pure false := by rfl) (hf : X.fn x = true ∨ X.env.scope.names.lookup x = some .local := by first | exact .inl rfl | exact .inr rfl) :
    Pss X (.Assign [.Name x px] (.List es p0) pos :: rest) (oOpen o fa fo) :=
  PSs.imp (pss_cons (ps_set hN hi hx (pe_lst ha.un) hs hf) t.un) fun E σ H ⟨δ, r, rs, e, q⟩ => by
  obtain ⟨hlt, d, ds0, rfl, e0, hfit, e1⟩ := oOpen_some e
  refine ⟨δ, ds0, rs, e0, fun vs H1 s1 h1 => ⟨by rw [h1.length]; exact fit_le hfit, fun p hp => ?_⟩⟩
  obtain ⟨ds, e2⟩ := e1 p
  refine ⟨p, H1, δ.set o (some (opq p)), ds0, (.rt d, ds), ⟨by rw [List.getElem?_set_self hlt], ⟨vs, upd_same, ?_⟩, ?_, ?_⟩, e2, fun v H' s' r' => q v H' (s1.trans s') r'⟩
  · rw [rm_upd hp]; exact h1
  · rw [rm_upd hp]; exact (rs.mono s1).set (Rep.ofOpq p) o
  · rw [rm_upd hp]; exact Same.refl H1
end
end PU
namespace PU
open PySem PySem.Spec L2
open PyProof.Rows hiding St
section
variable {K : PySem.W.Frag} {H H' : Hp} {p : Addr} {kvs : List (Key × V)}
theorem sqT_rmD (hp : H p = some (.dK kvs)) {a : Addr} {xs : List V} (h : SqT K H a xs) : SqT K (rm H p) a xs := by
  rcases h with (h | ⟨o, h⟩) | h
  · exact .inl (.inl (by rw [rm_ne (fun z => by rw [z, hp] at h; cases h)]; exact h))
  · exact .inl (.inr ⟨o, by rw [rm_ne (fun z => by rw [z, hp] at h; cases h)]; exact h⟩)
  · exact .inr h
theorem sqL_rmD (hp : H p = some (.dK kvs)) {a : Addr} {xs : List V} (h : SqL K H a xs) : SqL K (rm H p) a xs := by
  rcases h with (h | ⟨o, h⟩) | h
  · exact .inl (.inl (by rw [rm_ne (fun z => by rw [z, hp] at h; cases h)]; exact h))
  · exact .inl (.inr ⟨o, by rw [rm_ne (fun z => by rw [z, hp] at h; cases h)]; exact h⟩)
  · exact .inr h
mutual
theorem Rep.rmD (hp : H p = some (.dK kvs)) : ∀ {d : D} {v : V}, Rep K H d v → Rep K (rm H p) d v
  | .none, _, h => by unfold Rep at h ⊢; exact h
  | .bool _, _, h => by unfold Rep at h ⊢; exact h
  | .int _, _, h => by unfold Rep at h ⊢; exact h
  | .str _, _, h => by unfold Rep at h ⊢; exact h
  | .tuple ds, _, h => by
    unfold Rep at h ⊢
    obtain ⟨a, xs, h1, h2, h3⟩ := h
    exact ⟨a, xs, h1, sqT_rmD hp h2, Reps.rmD hp h3⟩
  | .list ds, _, h => by
    unfold Rep at h ⊢
    obtain ⟨a, xs, h1, h2, h3⟩ := h
    exact ⟨a, xs, h1, sqL_rmD hp h2, Reps.rmD hp h3⟩
  | .dict _, _, h => by unfold Rep at h ⊢; exact h
theorem Reps.rmD (hp : H p = some (.dK kvs)) : ∀ {ds : List D} {vs : List V}, Reps K H ds vs → Reps K (rm H p) ds vs
  | [], _, h => by unfold Reps at h ⊢; exact h
  | _ :: _, _, h => by
    unfold Reps at h ⊢
    obtain ⟨v, vs, h1, h2, h3⟩ := h
    exact ⟨v, vs, h1, Rep.rmD hp h2, Reps.rmD hp h3⟩
end
theorem RepSt.rmD (hp : H p = some (.dK kvs)) {δ : Dl} {σ : St} (r : RepSt K H δ σ) : RepSt K (rm H p) δ σ := ⟨r.len, fun i d h => let ⟨v, h1, h2⟩ := r.get i d h; ⟨v, h1, Rep.rmD hp h2⟩⟩
theorem rm_upd2 {H : Hp} {a : Addr} {o : HO} : rm (upd H a o) a = rm H a := by
  funext b
  by_cases h : b = a
  · subst h; rw [rm_same, rm_same]
  · rw [rm_ne h, rm_ne h, upd_ne h]
def keysK (kvs : List (Key × V)) : List Key := kvs.map fun (kv : Key × V) => kv.1
end
end PU
namespace PU
open PySem PySem.Spec L2
open PyProof.Rows hiding St
section
variable {X : Cx} {a i : Expr} {pos p1 : Pos} {f g : Fe} {keys : List (Option Expr)} {values : List Expr} {fs : List (Str × Fe)}
theorem td_trip {K : PySem.W.Frag} (i j k : Nat) : TgD K (gTup K 3 (gCons (gName i) (gCons (gName j) (gCons (gName k) gNil)))) (g3 i j k) [i, j, k] := ⟨fun v σ H Hs Q d δ δ' sm r h e q => by
  unfold g3 at e
  split at e
  · rename_i x y z
    cases e
    obtain ⟨p, xs, rfl, h1, h2⟩ := rep_tup h
    obtain ⟨vx, us, rfl, h3, h4⟩ := h2.uncons
    obtain ⟨vy, vz, rfl, h5, h6⟩ := reps2 h4
    refine ⟨p, _, rfl, sqT_mono sm h1, rfl, vx, _, rfl, vy, _, rfl, vz, _, rfl, rfl, ?_⟩
    refine q _ (((r.set h3 i).set h5 j).set h6 k) (by rw [List.length_set, List.length_set, List.length_set]) fun l hl => ?_
    rw [List.getElem?_set_ne (fun z => hl (by simp [z])), List.getElem?_set_ne (fun z => hl (by simp [z])), List.getElem?_set_ne (fun z => hl (by simp [z]))]
  · cases e⟩
theorem pus_asg {tg : Expr} {gt : TG} {gf : Fg} {own : List Nat} (he : Pu X a f) (td : TgD X.K gt gf own) (hg : PG X tg gt) (hs : swapsWithSole [tg] a pos.line X.env = pure false := by rfl) (hw : swappedStores [tg] a X.env = pure none := by rfl)
    (h1 : (assignEach [tg] X.env).map (·.2) = [assign tg X.env] := by rfl) : Ps X (.Assign [tg] a pos) (sAsg gf f) := PS.imp (ps_asg he.un hg hs hw h1) fun E σ H ⟨δ, r, rs, e, q⟩ => by
  obtain ⟨d, e1, e⟩ := bind_some e
  obtain ⟨δ', e2, e⟩ := bind_some e
  cases e
  exact ⟨δ, d, rs, e1, fun v H' s' h' => td.run v σ H' H' _ d δ δ' (Same.refl H') (rs.mono s') h' e2 fun σ' r' _ _ => q σ' H' s' r'⟩
theorem pu_isN {j : Nat} {pos' : Pos} (h : Pu X a f) : Pu X (.Compare a [.Is] [.Constant .none j pos'] pos) (eUn oIsN f) := Pu.mk fun pins s σ H Q I ⟨δ, d, rs, e, q⟩ => by
  obtain ⟨x, e1, e⟩ := bind_some e
  refine pe_cmp (pc_isN h.un) (nomark _) pins s σ H Q I ⟨δ, x, rs, e1, fun v H' s' r' => ?_⟩
  cases x with
  | none => cases e; rw [rep_none r']; exact q _ H' s' (Rep.ofBool true)
  | int n => cases e; rw [rep_int r']; exact q _ H' s' (Rep.ofBool false)
  | tuple l =>
    cases e
    obtain ⟨p, xs, rfl, _, _⟩ := rep_tup r'
    exact q _ H' s' (Rep.ofBool false)
  | _ => cases e
structure PuD (X : Cx) (pos : Pos) (keys : List (Option Expr)) (values : List Expr) (fs : List (Str × Fe)) : Prop where
  un : PPs X pos keys values (fs.map fun p => (tP X.K (eC (.str p.1)), tP X.K p.2))
theorem pud_nil : PuD X pos [] [] [] := ⟨pps_nil⟩
theorem pud_cons {k v : Expr} {s : Str} (hk : Pu X k (eC (.str s))) (hv : Pu X v f) (hr : PuD X pos keys values fs) : PuD X pos (some k :: keys) (v :: values) ((s, f) :: fs) := ⟨pps_cons hk.un hv.un hr.un⟩
theorem pairs_read {K : PySem.W.Frag} {σ : St} {δ : Dl} : ∀ (fs : List (Str × Fe)) (H : Hp) (Q : List (V × V) → Hp → Prop) (xs : List D), RepSt K H δ σ → dVals fs δ = some xs →
    (∀ vs H', Same H H' → Reps K H' xs vs → Q ((fs.map fun p => V.str p.1).zip vs) H') → tPairs (fs.map fun p => (tP K (eC (.str p.1)), tP K p.2)) σ H Q
  | [], H, Q, xs, rs, e, q => by
    cases e
    exact q [] H (Same.refl H) Reps.nil
  | (s, f) :: r, H, Q, xs, rs, e, q => by
    obtain ⟨x, e1, e⟩ := bind_some e
    obtain ⟨ys, e2, e⟩ := bind_some e
    cases e
    refine ⟨δ, .str s, rs, rfl, fun v1 H1 s1 r1 => ⟨δ, x, rs.mono s1, e1, fun v2 H2 s2 r2 => ?_⟩⟩
    refine pairs_read r H2 _ ys (rs.mono (s1.trans s2)) e2 fun vs H3 s3 r3 => ?_
    have := q (v2 :: vs) H3 ((s1.trans s2).trans s3) (Reps.cons (r2.mono s3) r3)
    rw [rep_str r1]
    exact this
theorem zip_kV : ∀ (ks : List Str) (vs : List V), (ks.map fun s => V.str s).zip vs = ((ks.map fun s => (Sum.inr s : Key)).zip vs).map fun kv => (kV kv.1, kv.2)
  | [], _ => by simp
  | _ :: _, [] => by simp
  | s :: ks, v :: vs => by
    rw [List.map_cons, List.map_cons, List.zip_cons_cons, List.zip_cons_cons, List.map_cons, zip_kV ks vs]
    rfl
theorem merge_nd : ∀ (more kvs : List (Key × V)), (keysK (kvs ++ more)).Nodup → mergeK kvs more = kvs ++ more
  | [], kvs, _ => by rw [List.append_nil]; rfl
  | p :: r, kvs, nd => by
    have hp : putK kvs p.1 p.2 = kvs ++ [p] := by
      unfold putK
      have : (kvs.any fun kv => decide (kv.1 = p.1)) = false := by
        rw [Bool.eq_false_iff]
        intro z
        obtain ⟨x, hx, e⟩ := List.any_eq_true.mp z
        unfold keysK at nd
        rw [List.map_append, List.map_cons] at nd
        exact (List.nodup_append.mp nd).2.2 x.1 (List.mem_map.mpr ⟨x, hx, rfl⟩) p.1 List.mem_cons_self (of_decide_eq_true e)
      rw [this, if_neg (by decide)]
    show mergeK (putK kvs p.1 p.2) r = _
    rw [hp, merge_nd r (kvs ++ [p]) (by rw [List.append_assoc]; exact nd), List.append_assoc]
    rfl
theorem val_look {K : PySem.W.Frag} {H : Hp} {k : Str} {d : D} : ∀ {ks : List Str} {xs : List D} {vs : List V}, Reps K H xs vs → (ks.zip xs).lookup k = some d → ∃ v, valV ((ks.map fun s => (Sum.inr s : Key)).zip vs) (Sum.inr k) = some v ∧ Rep K H d v
  | [], _, _, _, e => by simp at e
  | _ :: _, [], _, _, e => by simp at e
  | s :: ks, x :: xs, vs, r, e => by
    obtain ⟨v, us, rfl, rv, ru⟩ := r.uncons
    rw [List.zip_cons_cons, List.lookup_cons] at e
    rw [List.map_cons, List.zip_cons_cons]
    by_cases h : k = s
    · subst h
      rw [beq_self_eq_true] at e
      cases e
      exact ⟨v, valV_pos rfl, rv⟩
    · rw [beq_eq_false_iff_ne.mpr h] at e
      obtain ⟨w, e1, e2⟩ := val_look ru e
      exact ⟨w, by rw [valV_neg (fun z => h (by injection z with z; exact z.symm))]; exact e1, e2⟩
theorem keys_zip : ∀ (ks : List Key) (vs : List V), ks.length = vs.length → keysK (ks.zip vs) = ks
  | [], _, _ => rfl
  | _ :: _, [], h => by simp at h
  | k :: ks, v :: vs, h => by
    show k :: keysK (ks.zip vs) = k :: ks
    rw [keys_zip ks vs (by simpa using h)]
theorem dVals_len : ∀ {fs : List (Str × Fe)} {δ : Dl} {xs : List D}, dVals fs δ = some xs → xs.length = fs.length
  | [], _, _, e => by cases e; rfl
  | (s, f) :: r, δ, xs, e => by
    obtain ⟨x, _, e⟩ := bind_some e
    obtain ⟨ys, e2, e⟩ := bind_some e
    cases e
    rw [List.length_cons, List.length_cons, dVals_len e2]
theorem pu_dsel (hu : X.A.units + 1 < cLine) (hd : PuD X p1 keys values fs) (hi : Pu X i g) (h15 : fs.length ≤ 15) (nd : (fs.map (·.1)).Nodup) (hall : keys.all (·.isSome) = true := by rfl) (hl : keys.length = values.length := by rfl) (h0 : keys ≠ [] := by simp) (hk : keys.length ≤ 15 := by decide)
    (hs : NoSl i := by intro _ _; rfl) : Pu X (.Subscript (.Dict keys values p1) i pos) (eDsel fs g) := Pu.mk fun pins s σ H Q I ⟨δ, d, rs, e, q⟩ => by
  obtain ⟨xs, e1, e⟩ := bind_some e
  obtain ⟨y, e2, e⟩ := bind_some e
  refine pe_dget hu (pe_disp hd.un hall hl h0 hk) hi.un hs pins s σ H Q I ?_
  intro p hp
  refine pairs_read fs _ _ xs (rs.mono (same_upd hp _)) e1 fun vs H2 s2 r2 => ?_
  have hp2 : H2 p = some (.dK []) := s2 _ _ upd_same
  have hvl : vs.length = fs.length := by rw [r2.length, dVals_len e1]
  have hkl : ((fs.map (·.1)).map fun s => (Sum.inr s : Key)).length = vs.length := by rw [List.length_map, List.length_map, hvl]
  refine ⟨hp2, ((fs.map (·.1)).map fun s => (Sum.inr s : Key)).zip vs, ?_, ?_, ?_⟩
  · rw [← zip_kV, List.map_map]
    rfl
  · rw [List.length_zip, hkl, hvl]; omega
  · have hm : mergeK [] (((fs.map (·.1)).map fun s => (Sum.inr s : Key)).zip vs) = ((fs.map (·.1)).map fun s => (Sum.inr s : Key)).zip vs := by
      refine merge_nd _ [] ?_
      rw [List.nil_append, keys_zip _ _ hkl]
      exact List.pairwise_map.mpr (List.Pairwise.imp (fun h z => h (by injection z)) nd)
    rw [hm]
    have s3 : Same H (upd H2 p (.dK (((fs.map (·.1)).map fun s => (Sum.inr s : Key)).zip vs))) := fun c o hc => by
      have hcp : c ≠ p := fun z => by rw [z, hp] at hc; cases hc
      rw [upd_ne hcp]
      exact s2 _ _ (by rw [upd_ne hcp]; exact hc)
    refine ⟨δ, y, rs.mono s3, e2, fun v3 H3 s4 r3 => ?_⟩
    cases y with
    | str k =>
      rw [rep_str r3]
      obtain ⟨v, hv, rv⟩ := val_look (ks := fs.map (·.1)) (Reps.rmD hp2 r2) e
      have s5 : Same (rm H2 p) H3 := fun c o hc => by
        by_cases z : c = p
        · subst z; rw [rm_same] at hc; cases hc
        · rw [rm_ne z] at hc
          exact s4 _ _ (by rw [upd_ne z]; exact hc)
      refine ⟨p, v, rfl, ?_, q v H3 (s3.trans s4) (rv.mono s5)⟩
      rw [← hv]
      exact DGet.k (k := Sum.inr k) (s4 _ _ upd_same)
    | _ => cases e
end
end PU
namespace PySem.SeqAt
open AutoSeq1 (wpAny_loadPart')
open MeetsSeq MeetsSeq2
theorem wpAny_forIn_upto {M : Model} {A : Around} {E : Value → Shared → Prop} {s : Shared} {β : Type} (f : Nat → β → Sem (ForInStep β)) (I : List Nat → β → Shared → Prop) (Q : β → Shared → Prop)
    (turn : ∀ x rest b s, I (x :: rest) b s → wpAny M A (f x b) (fun r s' => match r with | .yield b' => I rest b' s' | .done b' => Q b' s') E s)
    (fin : ∀ b s, I [] b s → Q b s) (n : Nat) (b : β) (h : I (List.range' 0 n) b s) : wpAny M A (forIn [0:n] b f) Q E s := by
  rw [Std.Legacy.Range.forIn_eq_forIn_range']
  exact wpAny_forIn_list f I Q turn fin _ b (by simpa [Std.Legacy.Range.size] using h)
theorem tuple_indexAt (l : Addr) (items : Array Value) (n : Nat) (dd : Option Addr) (sl : Array (Option Value)) (x : Value) (e : Value → Bool) (j : Nat) (hj : j < items.size)
    (hit : e items[j] = true) (hno : ∀ m (hm : m < items.size), m < j → e items[m] = false) :
    Meets (Builtin.«tuple.index» ⟨[.ref l, x], []⟩)
      (fun A R s => s.heap.get? l = some { cls := .type "tuple", dict := dd, data := .seq items n, slots := sl } ∧ (∀ y, y ∈ items → EqAt A.in1 s y x (e y)) ∧ R (.ok (.ret (.int j s.toks))) { s with toks := s.toks + 1 }) :=
  .of_wp fun prog w A R s h => by
    obtain ⟨hp, g, d, tk, os⟩ := s; obtain ⟨hl, he, h⟩ := h
    wp_walk using wpAny_loadPart' hl, wpAny_forIn_upto _ (fun rest b s' => b.1 = none ∧ s' = ⟨hp, g, d, tk, os⟩ ∧ ∃ i, i ≤ j ∧ rest = List.range' i (items.size - i)) _
    case turn =>
      rintro y rest b s' ⟨hb, rfl, i, hij, er⟩
      have hs : items.size - i = (items.size - (i + 1)) + 1 := by omega
      rw [hs, List.range'_succ] at er
      injection er with e1 e2
      subst e1 e2
      have hlt : y < items.size := by omega
      rw [Array.getElem?_eq_getElem hlt]
      refine wpAny_bind (he _ (Array.getElem_mem hlt) prog w _ _ ?_)
      by_cases hy : y = j
      · subst hy
        rw [hit]
        wp_walk
        exact ⟨_, rfl, h⟩
      · rw [hno y hlt (by omega)]
        wp_walk
        exact ⟨rfl, rfl, y + 1, by omega, rfl⟩
    case fin =>
      rintro b s' ⟨hb, rfl, i, hij, er⟩
      have := congrArg List.length er
      rw [List.length_range'] at this
      simp at this
      omega
    case h =>
      exact ⟨rfl, rfl, 0, Nat.zero_le _, by simp⟩
end PySem.SeqAt
namespace L2
open PySem PySem.Spec
open PyProof.Rows hiding St
section
variable {X : Cx}
theorem fm_congr {α β : Type} {f g : α → Option β} : ∀ {l : List α}, (∀ x ∈ l, f x = g x) → l.filterMap f = l.filterMap g
  | [], _ => rfl
  | x :: r, h => by rw [List.filterMap_cons, List.filterMap_cons, h x List.mem_cons_self, fm_congr fun y hy => h y (List.mem_cons_of_mem _ hy)]
theorem inV_ints (i : Int) (ns : List Int) : inV (.int i) (ns.map V.int) = ns.contains i := by
  unfold inV
  rw [List.any_map]
  induction ns with
  | nil => rfl
  | cons n r ih =>
    rw [List.any_cons, ih, List.contains_cons]
    congr 1
    show (n == i) = (i == n)
    rw [Bool.beq_eq_decide_eq, Bool.beq_eq_decide_eq, decide_eq_decide]
    exact ⟨Eq.symm, Eq.symm⟩
theorem flat_ints (ns : List Int) : (ns.map V.int).all flatV = true := by
  rw [List.all_map]
  exact List.all_eq_true.mpr fun _ _ => rfl
theorem ne_idx : ∀ {ns : List Int} {i : Int} {m : Nat} (h : m < ns.length), m < ns.idxOf i → ns[m] ≠ i
  | [], _, _, h, _ => by simp at h
  | x :: r, i, m, h, hlt => by
    rw [List.idxOf_cons] at hlt
    by_cases hx : (x == i) = true
    · rw [hx] at hlt; simp at hlt
    · have hxf := Bool.eq_false_iff.mpr hx
      rw [hxf] at hlt
      cases m with
      | zero => exact fun z => hx (by rw [beq_iff_eq]; exact z)
      | succ m => exact ne_idx (ns := r) (by simpa using h) (by simpa using hlt)
theorem mt_index : MtR X "list.index" (fun x vs H Q => ∃ (p : Addr) (ns : List Int) (i : Int), x = .ref p ∧ vs = [.int i] ∧ SqL X.K H p (ns.map V.int) ∧ i ∈ ns ∧ Q (.int ((ns.idxOf i : Nat) : Int)) H) := by
  intro pins s σ H x xs v us Q I rx rs h
  obtain ⟨p, ns, i, rfl, rfl, hq, hm, q⟩ := h
  cases rx
  obtain ⟨u, rfl, ru⟩ := vals1 rs
  have ru' := ru
  obtain ⟨t, rfl⟩ := ru
  obtain ⟨its, rv, pl, hz⟩ := I.list hq
  have hlen := rv.length
  rw [List.length_map] at hlen hz
  obtain ⟨⟨cls, dd, data, sl⟩, ho, hc, n, hd⟩ := pl.isList
  simp only at hc hd
  subst hc hd
  have hj : ns.idxOf i < ns.length := List.idxOf_lt_length_iff.mpr hm
  have hval : ∀ (m : Nat) (h1 : m < its.toArray.size), eqU (.int i) its.toArray[m] = (ns.getD m 0 == i) := fun m h1 => by
    have h2 : m < ns.length := by rw [List.size_toArray] at h1; omega
    obtain ⟨w, e1, e2⟩ := rv.get (i := m) (x := V.int ns[m]) (by rw [List.getElem?_map, List.getElem?_eq_getElem h2]; rfl)
    have e3 : its.toArray[m] = w := by
      rw [List.getElem?_eq_getElem (by rw [List.size_toArray] at h1; exact h1)] at e1
      rw [List.getElem_toArray]
      exact Option.some.inj e1
    rw [e3, eqU_of e2 rfl, List.getD_eq_getElem?_getD, List.getElem?_eq_getElem h2]
    rfl
  have hbig : (sizeLine : Nat) < 2 ^ 62 := by decide
  refine call_meets PySem.F.slot_list_index ⟨_, ho, rfl⟩ PySem.F.entry_list_index (PySem.F.args_list_index_2 _ _)
    (SeqAt.list_indexAt p its.toArray n dd sl (.int i t) (eqU (.int i)) (ns.idxOf i) (by rw [List.size_toArray]; omega) (by omega) ?_ ?_) ⟨ho, fun y hy => mem_eqAt ru' rfl rv (flat_ints ns) y (by simpa using hy), ?_⟩
  · rw [hval, List.getD_eq_getElem?_getD, List.getElem?_eq_getElem hj]
    show (ns[ns.idxOf i] == i) = true
    rw [List.getElem_idxOf hj]
    exact beq_self_eq_true i
  · intro m hm' hlt
    rw [hval, List.getD_eq_getElem?_getD, List.getElem?_eq_getElem (by omega)]
    show (ns[m] == i) = false
    exact beq_eq_false_iff_ne.mpr (ne_idx (by omega) hlt)
  · exact ⟨.int _, H, I.tok _, ⟨_, rfl⟩, q⟩
theorem mt_indexT : MtR X "tuple.index" (fun x vs H Q => ∃ (p : Addr) (ns : List Int) (i : Int), x = .ref p ∧ vs = [.int i] ∧ SqT X.K H p (ns.map V.int) ∧ i ∈ ns ∧ Q (.int ((ns.idxOf i : Nat) : Int)) H) := by
  intro pins s σ H x xs v us Q I rx rs h
  obtain ⟨p, ns, i, rfl, rfl, hq, hm, q⟩ := h
  cases rx
  obtain ⟨u, rfl, ru⟩ := vals1 rs
  have ru' := ru
  obtain ⟨t, rfl⟩ := ru
  obtain ⟨its, rv, pl, hz⟩ := I.tuple hq
  have hlen := rv.length
  rw [List.length_map] at hlen hz
  obtain ⟨⟨cls, dd, data, sl⟩, ho, hc, n, hd⟩ := pl
  simp only at hc hd
  subst hc hd
  have hj : ns.idxOf i < ns.length := List.idxOf_lt_length_iff.mpr hm
  have hval : ∀ (m : Nat) (h1 : m < its.toArray.size), eqU (.int i) its.toArray[m] = (ns.getD m 0 == i) := fun m h1 => by
    have h2 : m < ns.length := by rw [List.size_toArray] at h1; omega
    obtain ⟨w, e1, e2⟩ := rv.get (i := m) (x := V.int ns[m]) (by rw [List.getElem?_map, List.getElem?_eq_getElem h2]; rfl)
    have e3 : its.toArray[m] = w := by
      rw [List.getElem?_eq_getElem (by rw [List.size_toArray] at h1; exact h1)] at e1
      rw [List.getElem_toArray]
      exact Option.some.inj e1
    rw [e3, eqU_of e2 rfl, List.getD_eq_getElem?_getD, List.getElem?_eq_getElem h2]
    rfl
  have hbig : (sizeLine : Nat) < 2 ^ 62 := by decide
  refine call_meets PySem.F.slot_tuple_index ⟨_, ho, rfl⟩ PySem.F.entry_tuple_index (PySem.F.args_tuple_index_2 _ _)
    (SeqAt.tuple_indexAt p its.toArray n dd sl (.int i t) (eqU (.int i)) (ns.idxOf i) (by rw [List.size_toArray]; omega) ?_ ?_) ⟨ho, fun y hy => mem_eqAt ru' rfl rv (flat_ints ns) y (by simpa using hy), ?_⟩
  · rw [hval, List.getD_eq_getElem?_getD, List.getElem?_eq_getElem hj]
    show (ns[ns.idxOf i] == i) = true
    rw [List.getElem_idxOf hj]
    exact beq_self_eq_true i
  · intro m hm' hlt
    rw [hval, List.getD_eq_getElem?_getD, List.getElem?_eq_getElem (by omega)]
    show (ns[m] == i) = false
    exact beq_eq_false_iff_ne.mpr (ne_idx (by omega) hlt)
  · exact ⟨.int _, H, I.tok _, ⟨_, rfl⟩, q⟩
def tBMT (K : PySem.W.Frag) (r : V → List V → Hp → VK → Prop) (to : TE) (t : TA) : TE := fun σ H Q => to σ H fun x H1 => (∃ p xs, x = .ref p ∧ SqT K H1 p xs) ∧ t σ H1 fun xs H2 => r x xs H2 Q
theorem pe_bmT {o e : Expr} {es : List Expr} {to : TE} {t : TA} {name : Str} {apos cpos : Pos} {id : String} {r : V → List V → Hp → VK → Prop} (slot : Slot "tuple" name id) (hty : typeOf (.builtin id) = pure (.type "method_descriptor")) (hm : MtR X id r) (ho : PE X o to) (ha : PA X (e :: es) t)
    (hbase : attributeBase o name X.env (eval o X.env) = eval o X.env := by rfl)
    (hfew : ((backTo cpos (starEach (e :: es) X.env)).all (fun x => !x.1) && (backToKw cpos (keywordEach [] X.env)).all (fun x => x.1.isSome)
      && decide ((e :: es).length + ([] : List Keyword).length + (if ([] : List Keyword).isEmpty then 0 else 1) < 30)) = true := by rfl)
    (hline : (apos.endLine == cpos.line) = true := by rfl) (hs : starEach (e :: es) X.env = (false, eval e X.env) :: starEach es X.env := by rfl) (hplain : (backTo cpos (starEach es X.env)).any (·.1) = false := by rfl) :
    PE X (.Call (.Attribute o name apos) (e :: es) [] cpos) (tBMT X.K r to t) := by
  intro pins s σ H Q I h
  refine wpAny_Call_method_late hbase hfew hline rfl (thn (ho pins s σ H _ I h) fun v s1 ⟨x, H1, I1, r1, ty, q1⟩ => ?_)
  obtain ⟨p, xs, rfl, hq⟩ := ty
  obtain ⟨its, _, ⟨ob, e1, e2, e3, _⟩, _⟩ := I1.tupleD hq
  cases r1
  refine ⟨"tuple", id, PySem.F.plainAttrs_tuple, slot, hty, ⟨ob, e1, e3⟩, fun a e => ⟨ob, by cases e; exact e1, e2⟩, ?_⟩
  have hA := ha cpos pins s1 σ H1 _ I1 q1
  rw [hs] at hA ⊢
  refine Calls.callWith_builtin (by show (false || (backTo cpos (starEach es X.env)).any (·.1)) = false; rw [hplain] <;> rfl) (Calls.evalArgs_plain ?_)
  exact thn hA fun us s2 ⟨vs, H2, I2, r2, q2⟩ => hm pins s2 σ H2 (.ref p) vs _ us Q I2 (show RelV (.ref p) (.ref p) from rfl) r2 q2
theorem PE.or {e : Expr} {t u : TE} (h1 : PE X e t) (h2 : PE X e u) : PE X e (fun σ H Q => t σ H Q ∨ u σ H Q) := fun pins s σ H Q I h => h.elim (h1 pins s σ H Q I) (h2 pins s σ H Q I)
theorem best_eq {x : Int} {r : List Int} {m : Int} (h1 : m ∈ x :: r) (h2 : ∀ a ∈ x :: r, m ≤ a) : m = PU.minF x r := by
  have k1 : ∀ (r : List Int) (x : Int), PU.minF x r ∈ x :: r := fun r => by
    induction r with
    | nil => intro x; simp [PU.minF]
    | cons y r ih =>
      intro x
      show PU.minF (if y < x then y else x) r ∈ _
      rcases List.mem_cons.mp (ih (if y < x then y else x)) with e | e
      · rw [e]
        split <;> simp
      · exact List.mem_cons_of_mem _ (List.mem_cons_of_mem _ e)
  have k2 : ∀ (r : List Int) (x : Int), ∀ a ∈ x :: r, PU.minF x r ≤ a := fun r => by
    induction r with
    | nil => intro x a ha; have : a = x := by simpa using ha
             rw [this]; exact Int.le_refl _
    | cons y r ih =>
      intro x a ha
      show PU.minF (if y < x then y else x) r ≤ a
      have hh := ih (if y < x then y else x) (if y < x then y else x) List.mem_cons_self
      rcases List.mem_cons.mp ha with e | ha
      · rw [e]; split at hh <;> split <;> omega
      · rcases List.mem_cons.mp ha with e | ha
        · rw [e]; split at hh <;> split <;> omega
        · exact ih _ a (List.mem_cons_of_mem _ ha)
  exact Int.le_antisymm (h2 _ (k1 r x)) (k2 r x m h1)
theorem best_eqM {x : Int} {r : List Int} {m : Int} (h1 : m ∈ x :: r) (h2 : ∀ a ∈ x :: r, a ≤ m) : m = PU.maxF x r := by
  have k1 : ∀ (r : List Int) (x : Int), PU.maxF x r ∈ x :: r := fun r => by
    induction r with
    | nil => intro x; simp [PU.maxF]
    | cons y r ih =>
      intro x
      show PU.maxF (if y > x then y else x) r ∈ _
      rcases List.mem_cons.mp (ih (if y > x then y else x)) with e | e
      · rw [e]
        split <;> simp
      · exact List.mem_cons_of_mem _ (List.mem_cons_of_mem _ e)
  have k2 : ∀ (r : List Int) (x : Int), ∀ a ∈ x :: r, a ≤ PU.maxF x r := fun r => by
    induction r with
    | nil => intro x a ha; have : a = x := by simpa using ha
             rw [this]; exact Int.le_refl _
    | cons y r ih =>
      intro x a ha
      show a ≤ PU.maxF (if y > x then y else x) r
      have hh := ih (if y > x then y else x) (if y > x then y else x) List.mem_cons_self
      rcases List.mem_cons.mp ha with e | ha
      · rw [e]; split at hh <;> split <;> omega
      · rcases List.mem_cons.mp ha with e | ha
        · rw [e]; split at hh <;> split <;> omega
        · exact ih _ a (List.mem_cons_of_mem _ ha)
  exact Int.le_antisymm (k2 r x m h1) (h2 _ (k1 r x))
theorem call_minL (hc : X.calm = true) : CallR X (.builtin "min") (fun xs H Q => ∃ (p : Addr) (x : Int) (r : List Int), xs = [.ref p] ∧ SqL X.K H p ((x :: r).map V.int) ∧ Q (.int (PU.minF x r)) H) := by
  intro pins s σ H xs us Q I rs h
  obtain ⟨p, x, r, rfl, hq, q⟩ := h
  obtain ⟨u, rfl, rx⟩ := vals1 rs
  cases rx
  have hh : X.A.in1.handled = none := I.ok.hd hc
  obtain ⟨its, rv, pl, hz⟩ := I.list hq
  have hlen := rv.length
  rw [List.length_map] at hlen
  have hlt : @LT.lt Nat instLTNat p s.heap.objs.size := by obtain ⟨o, n, e, _⟩ := pl; exact Heap.lt_size e
  have hn : 0 < its.toArray.size := by rw [List.size_toArray, ← hlen]; simp
  refine call_min_walk (wpAny_pyIter_list pl.isList ?_)
  refine ⟨_, _, _, _, _, _, _, rfl, Walks.list (A := X.A.in1) hh s.heap.objs.size p (Nat.ne_of_lt hlt) its.toArray, ⟨⟨_, Heap.get?_push_size _ rfl, rfl, rfl⟩, pl.isList.push _⟩, fun b hb => ?_, hn, CmpOf.ints_lt (fun j => (x :: r).getD j 0) fun j v hv => vals_at rv (by simpa using hv), fun v h' tk hv hk => ?_⟩
  · show b < (s.heap.push _).objs.size
    rw [Heap.size_push]
    have hb' : b = s.heap.objs.size ∨ b = p := by simpa using hb
    rcases hb' with z | z <;> (delta Addr at *; omega)
  · have hv' := hv
    rw [List.getElem?_toArray] at hv'
    obtain ⟨t, rfl⟩ := vals_at rv hv'
    obtain ⟨b1, b2⟩ := argBest_lt (fun j => (x :: r).getD j 0) (its.toArray.size - 1)
    rw [List.size_toArray] at b1 b2 hn
    have e : (x :: r).getD (argBest (fun i j => decide ((x :: r).getD i 0 < (x :: r).getD j 0)) (its.toArray.size - 1)) 0 = PU.minF x r := by
      rw [List.size_toArray]
      refine best_eq ?_ fun a ha => ?_
      · have hk : argBest (fun i j => decide ((x :: r).getD i 0 < (x :: r).getD j 0)) (its.length - 1) < (x :: r).length := by omega
        rw [List.getD_eq_getElem?_getD, List.getElem?_eq_getElem hk]
        exact List.getElem_mem hk
      · obtain ⟨j, hj, ej⟩ := List.mem_iff_getElem.mp ha
        have := b2 j (by omega)
        rw [List.getD_eq_getElem?_getD (l := x :: r) (i := j), List.getElem?_eq_getElem hj] at this
        rw [← ej]
        exact this
    rw [e]
    refine ⟨.int _, H, I.kept fun b o e => hk b o (fun z => ?_) (Heap.get?_push_of_some _ e), ⟨_, rfl⟩, q⟩
    have z' : b = s.heap.objs.size := by simpa using z
    exact Nat.ne_of_lt (Heap.lt_size e) z'
theorem call_minT (hc : X.calm = true) : CallR X (.builtin "min") (fun xs H Q => ∃ (p : Addr) (x : Int) (r : List Int), xs = [.ref p] ∧ SqT X.K H p ((x :: r).map V.int) ∧ Q (.int (PU.minF x r)) H) := by
  intro pins s σ H xs us Q I rs h
  obtain ⟨p, x, r, rfl, hq, q⟩ := h
  obtain ⟨u, rfl, rx⟩ := vals1 rs
  cases rx
  have hh : X.A.in1.handled = none := I.ok.hd hc
  obtain ⟨its, rv, pl, hz⟩ := I.tuple hq
  have hlen := rv.length
  rw [List.length_map] at hlen
  have hlt : @LT.lt Nat instLTNat p s.heap.objs.size := pl.lt
  have hn : 0 < its.toArray.size := by rw [List.size_toArray, ← hlen]; simp
  refine call_min_walk (wpAny_pyIter_tuple (show s.heap.IsTuple p its.toArray from pl) ?_)
  refine ⟨_, _, _, _, _, _, _, rfl, Walks.tuple (A := X.A.in1) hh s.heap.objs.size p (Nat.ne_of_lt hlt) its.toArray, ⟨⟨_, Heap.get?_push_size _ rfl, rfl, rfl⟩, IsTup.push pl _⟩, fun b hb => ?_, hn, CmpOf.ints_lt (fun j => (x :: r).getD j 0) fun j v hv => vals_at rv (by simpa using hv), fun v h' tk hv hk => ?_⟩
  · show b < (s.heap.push _).objs.size
    rw [Heap.size_push]
    have hb' : b = s.heap.objs.size ∨ b = p := by simpa using hb
    rcases hb' with z | z <;> (delta Addr at *; omega)
  · have hv' := hv
    rw [List.getElem?_toArray] at hv'
    obtain ⟨t, rfl⟩ := vals_at rv hv'
    obtain ⟨b1, b2⟩ := argBest_lt (fun j => (x :: r).getD j 0) (its.toArray.size - 1)
    rw [List.size_toArray] at b1 b2 hn
    have e : (x :: r).getD (argBest (fun i j => decide ((x :: r).getD i 0 < (x :: r).getD j 0)) (its.toArray.size - 1)) 0 = PU.minF x r := by
      rw [List.size_toArray]
      refine best_eq ?_ fun a ha => ?_
      · have hk : argBest (fun i j => decide ((x :: r).getD i 0 < (x :: r).getD j 0)) (its.length - 1) < (x :: r).length := by omega
        rw [List.getD_eq_getElem?_getD, List.getElem?_eq_getElem hk]
        exact List.getElem_mem hk
      · obtain ⟨j, hj, ej⟩ := List.mem_iff_getElem.mp ha
        have := b2 j (by omega)
        rw [List.getD_eq_getElem?_getD (l := x :: r) (i := j), List.getElem?_eq_getElem hj] at this
        rw [← ej]
        exact this
    rw [e]
    refine ⟨.int _, H, I.kept fun b o e => hk b o (fun z => ?_) (Heap.get?_push_of_some _ e), ⟨_, rfl⟩, q⟩
    have z' : b = s.heap.objs.size := by simpa using z
    exact Nat.ne_of_lt (Heap.lt_size e) z'
theorem call_maxL (hc : X.calm = true) : CallR X (.builtin "max") (fun xs H Q => ∃ (p : Addr) (x : Int) (r : List Int), xs = [.ref p] ∧ SqL X.K H p ((x :: r).map V.int) ∧ Q (.int (PU.maxF x r)) H) := by
  intro pins s σ H xs us Q I rs h
  obtain ⟨p, x, r, rfl, hq, q⟩ := h
  obtain ⟨u, rfl, rx⟩ := vals1 rs
  cases rx
  have hh : X.A.in1.handled = none := I.ok.hd hc
  obtain ⟨its, rv, pl, hz⟩ := I.list hq
  have hlen := rv.length
  rw [List.length_map] at hlen
  have hlt : @LT.lt Nat instLTNat p s.heap.objs.size := by obtain ⟨o, n, e, _⟩ := pl; exact Heap.lt_size e
  have hn : 0 < its.toArray.size := by rw [List.size_toArray, ← hlen]; simp
  refine call_max_walk (wpAny_pyIter_list pl.isList ?_)
  refine ⟨_, _, _, _, _, _, _, rfl, Walks.list (A := X.A.in1) hh s.heap.objs.size p (Nat.ne_of_lt hlt) its.toArray, ⟨⟨_, Heap.get?_push_size _ rfl, rfl, rfl⟩, pl.isList.push _⟩, fun b hb => ?_, hn, CmpOf.ints_gt (fun j => (x :: r).getD j 0) fun j v hv => vals_at rv (by simpa using hv), fun v h' tk hv hk => ?_⟩
  · show b < (s.heap.push _).objs.size
    rw [Heap.size_push]
    have hb' : b = s.heap.objs.size ∨ b = p := by simpa using hb
    rcases hb' with z | z <;> (delta Addr at *; omega)
  · have hv' := hv
    rw [List.getElem?_toArray] at hv'
    obtain ⟨t, rfl⟩ := vals_at rv hv'
    obtain ⟨b1, b2⟩ := argBest_gt (fun j => (x :: r).getD j 0) (its.toArray.size - 1)
    rw [List.size_toArray] at b1 b2 hn
    have e : (x :: r).getD (argBest (fun i j => decide ((x :: r).getD i 0 > (x :: r).getD j 0)) (its.toArray.size - 1)) 0 = PU.maxF x r := by
      rw [List.size_toArray]
      refine best_eqM ?_ fun a ha => ?_
      · have hk : argBest (fun i j => decide ((x :: r).getD i 0 > (x :: r).getD j 0)) (its.length - 1) < (x :: r).length := by omega
        rw [List.getD_eq_getElem?_getD, List.getElem?_eq_getElem hk]
        exact List.getElem_mem hk
      · obtain ⟨j, hj, ej⟩ := List.mem_iff_getElem.mp ha
        have := b2 j (by omega)
        rw [List.getD_eq_getElem?_getD (l := x :: r) (i := j), List.getElem?_eq_getElem hj] at this
        rw [← ej]
        exact this
    rw [e]
    refine ⟨.int _, H, I.kept fun b o e => hk b o (fun z => ?_) (Heap.get?_push_of_some _ e), ⟨_, rfl⟩, q⟩
    have z' : b = s.heap.objs.size := by simpa using z
    exact Nat.ne_of_lt (Heap.lt_size e) z'
theorem call_maxT (hc : X.calm = true) : CallR X (.builtin "max") (fun xs H Q => ∃ (p : Addr) (x : Int) (r : List Int), xs = [.ref p] ∧ SqT X.K H p ((x :: r).map V.int) ∧ Q (.int (PU.maxF x r)) H) := by
  intro pins s σ H xs us Q I rs h
  obtain ⟨p, x, r, rfl, hq, q⟩ := h
  obtain ⟨u, rfl, rx⟩ := vals1 rs
  cases rx
  have hh : X.A.in1.handled = none := I.ok.hd hc
  obtain ⟨its, rv, pl, hz⟩ := I.tuple hq
  have hlen := rv.length
  rw [List.length_map] at hlen
  have hlt : @LT.lt Nat instLTNat p s.heap.objs.size := pl.lt
  have hn : 0 < its.toArray.size := by rw [List.size_toArray, ← hlen]; simp
  refine call_max_walk (wpAny_pyIter_tuple (show s.heap.IsTuple p its.toArray from pl) ?_)
  refine ⟨_, _, _, _, _, _, _, rfl, Walks.tuple (A := X.A.in1) hh s.heap.objs.size p (Nat.ne_of_lt hlt) its.toArray, ⟨⟨_, Heap.get?_push_size _ rfl, rfl, rfl⟩, IsTup.push pl _⟩, fun b hb => ?_, hn, CmpOf.ints_gt (fun j => (x :: r).getD j 0) fun j v hv => vals_at rv (by simpa using hv), fun v h' tk hv hk => ?_⟩
  · show b < (s.heap.push _).objs.size
    rw [Heap.size_push]
    have hb' : b = s.heap.objs.size ∨ b = p := by simpa using hb
    rcases hb' with z | z <;> (delta Addr at *; omega)
  · have hv' := hv
    rw [List.getElem?_toArray] at hv'
    obtain ⟨t, rfl⟩ := vals_at rv hv'
    obtain ⟨b1, b2⟩ := argBest_gt (fun j => (x :: r).getD j 0) (its.toArray.size - 1)
    rw [List.size_toArray] at b1 b2 hn
    have e : (x :: r).getD (argBest (fun i j => decide ((x :: r).getD i 0 > (x :: r).getD j 0)) (its.toArray.size - 1)) 0 = PU.maxF x r := by
      rw [List.size_toArray]
      refine best_eqM ?_ fun a ha => ?_
      · have hk : argBest (fun i j => decide ((x :: r).getD i 0 > (x :: r).getD j 0)) (its.length - 1) < (x :: r).length := by omega
        rw [List.getD_eq_getElem?_getD, List.getElem?_eq_getElem hk]
        exact List.getElem_mem hk
      · obtain ⟨j, hj, ej⟩ := List.mem_iff_getElem.mp ha
        have := b2 j (by omega)
        rw [List.getD_eq_getElem?_getD (l := x :: r) (i := j), List.getElem?_eq_getElem hj] at this
        rw [← ej]
        exact this
    rw [e]
    refine ⟨.int _, H, I.kept fun b o e => hk b o (fun z => ?_) (Heap.get?_push_of_some _ e), ⟨_, rfl⟩, q⟩
    have z' : b = s.heap.objs.size := by simpa using z
    exact Nat.ne_of_lt (Heap.lt_size e) z'
theorem pick_step (its : List Value) (lo hi : Option Int) {k : Nat} (hk : 0 < k) : slicePick its.toArray lo hi (some (k : Int)) = (PU.stepD k (PU.cutD its lo hi)).toArray := by
  have hpos : ((some (k : Int)).getD 1) > 0 := by show (k : Int) > 0; omega
  have hb : ∀ (n : Nat), (sliceBounds lo hi (some (k : Int)) n).1 = ((HT.sIx n 0 lo : Nat) : Int) ∧ (sliceBounds lo hi (some (k : Int)) n).2.1 = ((HT.sIx n n hi : Nat) : Int) ∧ (sliceBounds lo hi (some (k : Int)) n).2.2 = (k : Int) := fun n => by
    have h1 := slice_bounds lo hi n
    refine ⟨?_, ?_, rfl⟩
    · rw [← h1.1]
      cases lo with
      | none => simp only [sliceBounds, Option.getD_some, Option.getD_none]; rw [if_pos (show (k : Int) > 0 by omega), if_pos (by decide)]
      | some i => simp only [sliceBounds, Option.getD_some, Option.getD_none]; rw [if_pos (show (k : Int) > 0 by omega), if_pos (show (1 : Int) > 0 by decide)]
    · rw [← h1.2.1]
      cases hi with
      | none => simp only [sliceBounds, Option.getD_some, Option.getD_none]; rw [if_pos (show (k : Int) > 0 by omega), if_pos (by decide)]
      | some i => simp only [sliceBounds, Option.getD_some, Option.getD_none]; rw [if_pos (show (k : Int) > 0 by omega), if_pos (show (1 : Int) > 0 by decide)]
  obtain ⟨h1, h2, h3⟩ := hb its.toArray.size
  unfold slicePick
  rw [h1, h2, h3, List.size_toArray]
  generalize hA : HT.sIx its.length 0 lo = A
  generalize hB : HT.sIx its.length its.length hi = B
  have hcut : PU.cutD its lo hi = (its.drop A).take (B - A) := by unfold PU.cutD; rw [hA, hB]
  have hBle : B ≤ its.length := by rw [← hB]; exact HT.sIx_le _ _ (Nat.le_refl _) hi
  rw [hcut]
  congr 1
  unfold PU.stepD sliceRange
  rw [if_pos (show (k : Int) > 0 by omega), List.length_take, List.length_drop, Nat.min_eq_left (by omega), List.filterMap_map]
  have hcount : (if (A : Int) < (B : Int) then ((B : Int) - (A : Int) + (k : Int) - 1) / (k : Int) else 0).toNat = (B - A + k - 1) / k := by
    by_cases hAB : A < B
    · rw [if_pos (by omega), show (B : Int) - (A : Int) + (k : Int) - 1 = ((B - A + k - 1 : Nat) : Int) by omega, ← Int.natCast_ediv, Int.toNat_natCast]
    · rw [if_neg (by omega), show B - A = 0 by omega]
      show 0 = (0 + k - 1) / k
      rw [Nat.div_eq_of_lt (by omega)]
  rw [hcount]
  refine fm_congr fun m hm => ?_
  have hm' := List.mem_range.mp hm
  show its.toArray[((A : Int) + (k : Int) * (m : Int)).toNat]? = _
  have hmk : m * k < B - A := by
    have h5 : m + 1 ≤ (B - A + k - 1) / k := hm'
    have h6 := Nat.div_mul_le_self (B - A + k - 1) k
    have h7 : (m + 1) * k ≤ (B - A + k - 1) / k * k := Nat.mul_le_mul_right k h5
    rw [Nat.succ_mul] at h7
    omega
  have e0 : ((A : Int) + (k : Int) * (m : Int)).toNat = A + m * k := by
    rw [show (k : Int) * (m : Int) = ((m * k : Nat) : Int) by rw [Int.natCast_mul, Int.mul_comm]]
    omega
  rw [e0, List.getElem?_toArray, List.getElem?_take_of_lt hmk, List.getElem?_drop]
theorem Vals.pick : ∀ {xs : List V} {us : List Value}, Vals xs us → ∀ (is : List Nat), Vals (is.filterMap fun (i : Nat) => xs[i]?) (is.filterMap fun (i : Nat) => us[i]?)
  | xs, us, r, [] => .nil
  | xs, us, r, i :: is => by
    rw [List.filterMap_cons, List.filterMap_cons]
    cases e : xs[i]? with
    | none => rw [r.none_of e]; exact Vals.pick r is
    | some x =>
      obtain ⟨u, e1, e2⟩ := r.get e
      rw [e1]
      exact .cons e2 (Vals.pick r is)
theorem Vals.step {xs : List V} {us : List Value} (r : Vals xs us) (k : Nat) : Vals (PU.stepD k xs) (PU.stepD k us) := by
  unfold PU.stepD
  rw [r.length]
  have := Vals.pick r ((List.range ((us.length + k - 1) / k)).map fun (i : Nat) => i * k)
  rw [List.filterMap_map, List.filterMap_map] at this
  exact this
theorem stepD_len {α : Type} (k : Nat) (l : List α) (hk : 0 < k) : (PU.stepD k l).length ≤ l.length := by
  unfold PU.stepD
  refine Nat.le_trans (List.length_filterMap_le _ _) ?_
  rw [List.length_range]
  cases k with
  | zero => omega
  | succ k =>
    cases hl : l.length with
    | zero => rw [Nat.div_eq_of_lt (by omega)]; exact Nat.le_refl _
    | succ n =>
      refine Nat.div_le_of_le_mul ?_
      rw [Nat.succ_mul_succ]
      have : n ≤ k * n + n := by omega
      omega
def rSl3 (K : PySem.W.Frag) (k : Nat) : V → Option Int → Option Int → Hp → VK → Prop := fun x lo hi H Q => ∃ a xs, x = .ref a ∧ SqL K H a xs ∧ ∀ p, H p = none → Q (.ref p) (upd H p (.lst (PU.stepD k (cutV xs lo hi))))
theorem pe_slice3 {e : Expr} {te : TE} {lo hi : Option Expr} {tl th : TO} {pos p2 p3 : Pos} {k j : Nat} (hk : 0 < k) (he : PE X e te) (hl : PO X lo tl) (hu : PO X hi th) : PE X (.Subscript e (.Slice lo hi (some (.Constant (.int (k : Int)) j p3)) p2) pos) (tSl (rSl3 X.K k) te tl th) := by
  intro pins s σ H Q I h
  refine Subscript_ (thn (he pins s σ H _ I h) fun v s1 ⟨x, H1, I1, r1, q1⟩ => ?_)
  refine wpAny_Slice (thn (hl pins s1 σ H1 _ I1 q1) fun vl s2 ⟨l, H2, I2, pl, q2⟩ => thn (hu pins s2 σ H2 _ I2 q2) fun vu s3 ⟨u, H3, I3, pu, q3⟩ => ?_)
  obtain ⟨a, xs, rfl, hx, q⟩ := q3
  cases r1
  rw [evalPart_some]
  refine wpAny_Constant_int ?_
  have I4 : Inv X pins σ H3 { s3 with heap := s3.heap.push { cls := .type "slice", data := .fields #[vl, vu, .int (k : Int) s3.toks] }, toks := s3.toks + 1 } := I3.kept (t' := s3.toks + 1) fun b ob q => Heap.get?_push_of_some _ q
  obtain ⟨its, r, ht, hz⟩ := I4.list hx
  have hlen := r.length
  show wpAny (model X.prog X.w) X.A (subscriptTail e _ (.ref a) (.ref s3.heap.objs.size)) (EP X pins σ Q) X.xe { s3 with heap := s3.heap.push { cls := .type "slice", data := .fields #[vl, vu, .int (k : Int) s3.toks] }, toks := s3.toks + 1 }
  refine tail_any (ops := [.ref a, .ref s3.heap.objs.size]) ht.isList.typeIs slot_list_getitem.lookup ?_ (by with_unfolding_all rfl)
  refine wpAny_getItem_list_slice ht.isList (Heap.IsSliceOf.new ..) pl pu (.int (k : Int) s3.toks) (by intro z; injection z with z; omega) ?_ (by rw [List.size_toArray] <;> omega)
  rw [pick_step its l u hk]
  refine ⟨.ref _, _, I4.laid (t' := s3.toks + 1) (o := .lst (PU.stepD k (cutV xs l u))) (fun b ob q => Heap.get?_push_of_some _ q) (Nat.le_refl _) ?_, rfl, q _ (I4.hok.fresh (Nat.le_refl _))⟩
  refine ⟨Nat.le_trans (stepD_len k _ hk) (Nat.le_trans (cutV_length xs l u) hz), _, 0, Vals.step ?_ k, Heap.get?_push_size _ rfl⟩
  unfold PU.cutD cutV
  rw [hlen]
  exact (r.drop _).take _
end
end L2
namespace PU
open PySem PySem.Spec L2
open PyProof.Rows hiding St
section
variable {X : Cx} {a b c : Expr} {es : List Expr} {pos : Pos} {f g k : Fe} {fa : Fa}
theorem in_read (neg : Bool) {x y : D} {d : D} {i : Int} {l : List D} {ns : List Int} (e1 : isInt x = some i) (e2 : isSeq y = some l) (e3 : allOf isInt l = some ns) (hd : d = .bool (if neg then !ns.contains i else ns.contains i)) (H : Hp) (vx vy : V) (Q : VK)
    (hx : Rep X.K H x vx) (hy : Rep X.K H y vy) (q : ∀ v H', Same H H' → Rep X.K H' d v → Q v H') : rIn X.K neg vx vy H Q := by
  have hxi := isInt_some e1
  subst hxi
  have hl := allOf_int e3
  subst hl
  rw [rep_int hx]
  subst hd
  cases y with
  | list l' =>
    cases e2
    obtain ⟨p, xs, rfl, h1, h2⟩ := rep_lst hy
    have := reps_ints h2
    subst this
    exact ⟨p, _, rfl, .inl h1, rfl, flat_ints ns, by rw [inV_ints]; exact q _ H (Same.refl H) (Rep.ofBool _)⟩
  | tuple l' =>
    cases e2
    obtain ⟨p, xs, rfl, h1, h2⟩ := rep_tup hy
    have := reps_ints h2
    subst this
    exact ⟨p, _, rfl, .inr h1, rfl, flat_ints ns, by rw [inV_ints]; exact q _ H (Same.refl H) (Rep.ofBool _)⟩
  | _ => cases e2
theorem cd_nin : CmpD X .NotIn oNin := ⟨rIn X.K true, op_notIn_seq, fun x y d e H vx vy Q hx hy q => by
  obtain ⟨i, e1, e⟩ := bind_some e
  obtain ⟨l, e2, e⟩ := bind_some e
  obtain ⟨ns, e3, e⟩ := bind_some e
  exact in_read true e1 e2 e3 (Option.some.inj e).symm H vx vy Q hx hy q⟩
theorem pu_index {p1 p2 : Pos} (ha : Pu X a f) (hb : Pu X b g) (hbase : attributeBase a "index" X.env (eval a X.env) = eval a X.env := by rfl)
    (hfew : ((backTo p2 (starEach [b] X.env)).all (fun x => !x.1) && (backToKw p2 (keywordEach [] X.env)).all (fun x => x.1.isSome) && decide ([b].length + ([] : List Keyword).length + (if ([] : List Keyword).isEmpty then 0 else 1) < 30)) = true := by rfl)
    (hline : (p1.endLine == p2.line) = true := by rfl) (hs : starEach [b] X.env = [(false, eval b X.env)] := by rfl) : Pu X (.Call (.Attribute a "index" p1) [b] [] p2) (eOp oIndex f g) :=
  PE.imp (L2.PE.or (pe_bm PySem.F.plainAttrs_list PySem.F.slot_list_index PySem.F.type_list_index mt_index ha.un (pa_cons hb.un pa_nil hs) hbase hfew hline hs rfl) (pe_bmT PySem.F.slot_tuple_index PySem.F.type_tuple_index mt_indexT ha.un (pa_cons hb.un pa_nil hs) hbase hfew hline hs rfl)) fun σ H Q ⟨δ, d, r, e, q⟩ => by
  obtain ⟨x, e1, e⟩ := bind_some e
  obtain ⟨y, e2, e⟩ := bind_some e
  cases x with
  | list l => cases y with
   | int i =>
    have e0 : ((allOf isInt l).bind fun ns => if ns.contains i then some (PyData.int (ns.idxOf i : Nat)) else none) = some d := e
    obtain ⟨ns, e3, e9⟩ := bind_some e0
    by_cases hm : ns.contains i = true
    · rw [if_pos hm] at e9
      cases e9
      have hl := allOf_int e3
      subst hl
      refine .inl ⟨δ, _, r, e1, fun v H1 s1 h1 => ?_⟩
      obtain ⟨p, xs, rfl, h2, h3⟩ := rep_lst h1
      have := reps_ints h3
      subst this
      refine ⟨.inl ⟨rfl, _, h2⟩, δ, _, r.mono s1, e2, fun u H2 s2 h4 => ?_⟩
      rw [rep_int h4]
      exact ⟨p, ns, i, rfl, rfl, s2.seq h2, by simpa using hm, q _ H2 (s1.trans s2) (Rep.ofInt _)⟩
    · rw [if_neg hm] at e9; cases e9
   | _ => cases e
  | tuple l => cases y with
   | int i =>
    have e0 : ((allOf isInt l).bind fun ns => if ns.contains i then some (PyData.int (ns.idxOf i : Nat)) else none) = some d := e
    obtain ⟨ns, e3, e9⟩ := bind_some e0
    by_cases hm : ns.contains i = true
    · rw [if_pos hm] at e9
      cases e9
      have hl := allOf_int e3
      subst hl
      refine .inr ⟨δ, _, r, e1, fun v H1 s1 h1 => ?_⟩
      obtain ⟨p, xs, rfl, h2, h3⟩ := rep_tup h1
      have := reps_ints h3
      subst this
      refine ⟨⟨p, _, rfl, h2⟩, δ, _, r.mono s1, e2, fun u H2 s2 h4 => ?_⟩
      rw [rep_int h4]
      exact ⟨p, ns, i, rfl, rfl, sqT_mono s2 h2, by simpa using hm, q _ H2 (s1.trans s2) (Rep.ofInt _)⟩
    · rw [if_neg hm] at e9; cases e9
   | _ => cases e
  | _ => cases y <;> cases e
theorem cd_min (hc : X.calm = true) : CallD X (.builtin "min") fMin := ⟨_, (call_min2 hc).or ((call_minL hc).or (call_minT hc)), fun ds d e H vs Q h q => by
  unfold fMin at e
  split at e
  · cases e
    obtain ⟨v, u, rfl, h1, h2⟩ := reps2 h
    rw [rep_int h1, rep_int h2]
    exact .inl ⟨_, _, rfl, q _ H (Same.refl H) (Rep.ofInt _)⟩
  · obtain ⟨ns, e1, e9⟩ := bind_some e
    have hl := allOf_int e1
    cases ns with
    | nil => cases e9
    | cons x r =>
      cases e9
      subst hl
      obtain ⟨v, rfl, h1⟩ := reps1 h
      obtain ⟨p, xs, rfl, h2, h3⟩ := rep_lst h1
      have := reps_ints h3
      subst this
      exact .inr (.inl ⟨p, x, r, rfl, h2, q _ H (Same.refl H) (Rep.ofInt _)⟩)
  · obtain ⟨ns, e1, e9⟩ := bind_some e
    have hl := allOf_int e1
    cases ns with
    | nil => cases e9
    | cons x r =>
      cases e9
      subst hl
      obtain ⟨v, rfl, h1⟩ := reps1 h
      obtain ⟨p, xs, rfl, h2, h3⟩ := rep_tup h1
      have := reps_ints h3
      subst this
      exact .inr (.inr ⟨p, x, r, rfl, h2, q _ H (Same.refl H) (Rep.ofInt _)⟩)
  · cases e⟩
theorem cd_max (hc : X.calm = true) : CallD X (.builtin "max") fMax := ⟨_, (call_max2 hc).or ((call_maxL hc).or (call_maxT hc)), fun ds d e H vs Q h q => by
  unfold fMax at e
  split at e
  · cases e
    obtain ⟨v, u, rfl, h1, h2⟩ := reps2 h
    rw [rep_int h1, rep_int h2]
    exact .inl ⟨_, _, rfl, q _ H (Same.refl H) (Rep.ofInt _)⟩
  · obtain ⟨ns, e1, e9⟩ := bind_some e
    have hl := allOf_int e1
    cases ns with
    | nil => cases e9
    | cons x r =>
      cases e9
      subst hl
      obtain ⟨v, rfl, h1⟩ := reps1 h
      obtain ⟨p, xs, rfl, h2, h3⟩ := rep_lst h1
      have := reps_ints h3
      subst this
      exact .inr (.inl ⟨p, x, r, rfl, h2, q _ H (Same.refl H) (Rep.ofInt _)⟩)
  · obtain ⟨ns, e1, e9⟩ := bind_some e
    have hl := allOf_int e1
    cases ns with
    | nil => cases e9
    | cons x r =>
      cases e9
      subst hl
      obtain ⟨v, rfl, h1⟩ := reps1 h
      obtain ⟨p, xs, rfl, h2, h3⟩ := rep_tup h1
      have := reps_ints h3
      subst this
      exact .inr (.inr ⟨p, x, r, rfl, h2, q _ H (Same.refl H) (Rep.ofInt _)⟩)
  · cases e⟩
theorem cd_int : CallD X (.type "int") fInt := ⟨_, call_int1, fun ds d e H vs Q h q => by
  unfold fInt at e
  split at e
  · cases e
    obtain ⟨v, rfl, h1⟩ := reps1 h
    rw [rep_int h1]
    exact .inl ⟨_, rfl, q _ H (Same.refl H) (Rep.ofInt _)⟩
  · cases e
    obtain ⟨v, rfl, h1⟩ := reps1 h
    rw [rep_bool h1]
    exact .inr ⟨_, rfl, q _ H (Same.refl H) (Rep.ofInt _)⟩
  · cases e⟩
theorem step_reps {K : PySem.W.Frag} {H : Hp} {ds : List D} {xs : List V} (h : Reps K H ds xs) (n : Nat) : Reps K H (stepD n ds) (stepD n xs) := by
  unfold stepD
  rw [h.length]
  have key : ∀ is : List Nat, Reps K H (is.filterMap fun (i : Nat) => ds[i * n]?) (is.filterMap fun (i : Nat) => xs[i * n]?) := fun is => by
    induction is with
    | nil => exact Reps.nil
    | cons i is ih =>
      rw [List.filterMap_cons, List.filterMap_cons]
      cases e : ds[i * n]? with
      | none =>
        have : xs[i * n]? = none := List.getElem?_eq_none_iff.mpr (by rw [h.length]; exact List.getElem?_eq_none_iff.mp e)
        rw [this]
        exact ih
      | some d =>
        obtain ⟨x, e1, e2⟩ := h.getD e
        rw [e1]
        exact Reps.cons e2 ih
  exact key _
variable {lo hi : Option Expr} {fl fh : Fp} {p2 p3 : Pos}
theorem pu_slice3 {n j : Nat} (ha : Pu X a f) (hl : PuO X lo fl) (hu : PuO X hi fh) (hk : 0 < n := by decide) : Pu X (.Subscript a (.Slice lo hi (some (.Constant (.int (n : Int)) j p3)) p2) pos) (eSl3 f fl fh n) := PE.imp (pe_slice3 hk ha.un hl.un hu.un) fun σ H Q ⟨δ, d, r, e, q⟩ => by
  obtain ⟨x, e1, e⟩ := bind_some e
  obtain ⟨l, e2, e⟩ := bind_some e
  obtain ⟨u, e3, e⟩ := bind_some e
  refine ⟨δ, x, r, e1, fun v H1 s1 h1 => ⟨δ, l, r.mono s1, e2, fun H2 s2 => ⟨δ, u, r.mono (s1.trans s2), e3, fun H3 s3 => ?_⟩⟩⟩
  have h3 := h1.mono (s2.trans s3)
  cases x with
  | list ds =>
    cases e
    obtain ⟨p, xs, rfl, h4, h5⟩ := rep_lst h3
    exact ⟨p, xs, rfl, h4, fun t ht => q _ _ (((s1.trans s2).trans s3).trans (same_upd ht _)) (Rep.newLst ht (step_reps (cut_reps h5 l u) n))⟩
  | _ => cases e
end
end PU
namespace L2
open PySem PySem.Spec
open PyProof.Rows hiding St
section
variable {prog : Program} {w : World} {A : Around} {E : Value → Shared → Prop} {s : Shared}
variable {z TI TO i1 i2 l1 l2 : Addr} {n1 n2 k : Nat} {P1 P2 : Nat → Value → Prop} {T1 T2 : Nat → Heap → Prop} {a b : Value}
theorem keepD {it l : Addr} {n : Nat} {P : Nat → Value → Prop} {T : Nat → Heap → Prop} (D : Draws prog w A it [it, l] n P T) {j : Nat} {h h' : Heap} {c : Addr} (q : T j h) (sb : Heap.SameBut c h h') (n1 : it ≠ c) (n2 : l ≠ c) : T j h' :=
  D.frame j h h' q fun b hb o e => by
    have hb' : b = it ∨ b = l := by simpa using hb
    rcases hb' with rfl | rfl
    · exact sb.extBut _ _ n1 e
    · exact sb.extBut _ _ n2 e
theorem zipD_item {Q : Value → Shared → Prop} (D1 : Draws prog w A i1 [i1, l1] n1 P1 T1) (D2 : Draws prog w A i2 [i2, l2] n2 P2 T2) (ap : ZipApart z TI TO i1 i2 l1 l2) (hz : IsZip s.heap z TI TO .none) (hI : IsPair s.heap TI (.ref i1) (.ref i2)) (hO : IsPair s.heap TO a b)
    (q1 : T1 k s.heap) (q2 : T2 k s.heap) (lt1 : k < n1) (lt2 : k < n2)
    (hQ : ∀ x y h' tk, P1 k x → P2 k y → IsZip h' z TI TO (rawInt s.heap.objs.size) → IsPair h' TO x y → T1 (k + 1) h' → T2 (k + 1) h' → IsPair h' s.heap.objs.size x y →
      (∀ c o, c ≠ z → c ≠ TO → c ≠ i1 → c ≠ i2 → s.heap.get? c = some o → h'.get? c = some o) → Q (.ref s.heap.objs.size) { s with heap := h', toks := tk }) :
    wpAny (model prog w) A (Builtin.«zip.__next__» ⟨[.ref z], []⟩) (fun fin s' => ∃ v, fin = .done (.ret v) ∧ Q v s') E s := by
  obtain ⟨hp, g, d, tk0, os⟩ := s
  show wpAny _ _ (field (.ref z) 2 >>= _) _ _ ⟨hp, g, d, tk0, os⟩
  refine wpAny_bind (wpAny_field hz rfl (x := .bool false) rfl ?_)
  show wpAny _ _ (field (.ref z) 3 >>= _) _ _ ⟨hp, g, d, tk0, os⟩
  refine wpAny_bind (wpAny_field hz rfl (x := .ref TI) rfl (wpAny_bind (wpAny_seqItems hI rfl ?_)))
  show wpAny _ _ (Builtin.SmallTypes.ownedTupleIsFree (.ref z) >>= _) _ _ ⟨hp, g, d, tk0, os⟩
  refine wpAny_bind ?_
  unfold Builtin.SmallTypes.ownedTupleIsFree
  refine wpAny_bind (wpAny_field hz rfl (x := .none) rfl (wpAny_pure ?_))
  rw [if_pos (by decide)]
  refine wpAny_bind (wpAny_rule (wpAny_bind (wpAny_field hz rfl (x := .ref TO) rfl (wpAny_bind (wpAny_setField_rec hz (by simp) fun u1 z1 sb1 => ?_)))))
  have z1' : IsZip u1 z TI TO .ellipsis := z1
  have sb1' : Heap.SameBut z hp u1 := sb1
  refine wpAny_bind ?_
  simp only [List.zipIdx_cons, List.zipIdx_nil, List.forIn_cons, List.forIn_nil]
  have o1 : IsPair u1 TO a b := sb1'.extBut _ _ ap.TOz hO
  refine wpAny_bind (wpAny_bind (wpAny_onRaise ?_))
  show wpAny _ _ (Builtin.SmallTypes.nextOf (.ref i1) >>= _) _ _ ⟨u1, g, d, tk0, os⟩
  refine wpAny_bind (D1.item k _ _ _ lt1 (keepD D1 q1 sb1' ap.i1z ap.l1z) fun x u2 tk2 px t1 sb2 => wpAny_pure ?_)
  have sb2' : Heap.SameBut i1 u1 u2 := sb2
  have o2 : IsPair u2 TO a b := sb2'.extBut _ _ ap.TOi1 o1
  refine wpAny_bind (wpAny_seqItems o2 rfl (wpAny_bind (wpAny_updateSeq_pair o2 fun u3 o3 sb3 => wpAny_bind (wpAny_letGo (wpAny_pure ?_)))))
  have o3' : IsPair u3 TO x b := o3
  have sb3' : Heap.SameBut TO u2 u3 := sb3
  refine wpAny_bind (wpAny_bind (wpAny_onRaise ?_))
  show wpAny _ _ (Builtin.SmallTypes.nextOf (.ref i2) >>= _) _ _ ⟨u3, g, d, tk2, os⟩
  have t2 : T2 k u3 := keepD D2 (keepD D2 (keepD D2 q2 sb1' ap.i2z ap.l2z) sb2' ap.i12.symm ap.l2i1) sb3' ap.TOi2.symm ap.l2TO
  refine wpAny_bind (D2.item k _ _ _ lt2 t2 fun y u4 tk4 py t4 sb4 => wpAny_pure ?_)
  have sb4' : Heap.SameBut i2 u3 u4 := sb4
  have o4 : IsPair u4 TO x b := sb4'.extBut _ _ ap.TOi2 o3'
  refine wpAny_bind (wpAny_seqItems o4 rfl (wpAny_bind (wpAny_updateSeq_pair o4 fun u5 o5 sb5 => wpAny_bind (wpAny_letGo (wpAny_pure (wpAny_pure ?_))))))
  have o5' : IsPair u5 TO x y := o5
  have sb5' : Heap.SameBut TO u4 u5 := sb5
  refine wpAny_bind (wpAny_seqItems o5' rfl (wpAny_bind (wpAny_newTuple ?_)))
  have size5 : u5.objs.size = hp.objs.size := by rw [sb5'.1, sb4'.1, sb3'.1, sb2'.1, sb1'.1]
  have z5 : IsZip u5 z TI TO .ellipsis := sb5'.extBut _ _ ap.TOz.symm (sb4'.extBut _ _ ap.i2z.symm (sb3'.extBut _ _ ap.TOz.symm (sb2'.extBut _ _ ap.i1z.symm z1')))
  have keep5 : ∀ c o, c ≠ z → c ≠ TO → c ≠ i1 → c ≠ i2 → hp.get? c = some o → u5.get? c = some o := fun c o c1 c2 c3 c4 e =>
    sb5'.extBut _ _ c2 (sb4'.extBut _ _ c4 (sb3'.extBut _ _ c2 (sb2'.extBut _ _ c3 (sb1'.extBut _ _ c1 e))))
  have r1 : T1 (k + 1) u5 := keepD D1 (keepD D1 (keepD D1 t1 sb3' ap.TOi1.symm ap.l1TO) sb4' ap.i12 ap.l1i2) sb5' ap.TOi1.symm ap.l1TO
  have r2 : T2 (k + 1) u5 := keepD D2 t4 sb5' ap.TOi2.symm ap.l2TO
  show wpAny _ _ (Builtin.SmallTypes.ownedTupleHandOut (.ref z) (.ref u5.objs.size) >>= _) _ _ ⟨_, g, d, tk4, os⟩
  refine wpAny_bind ?_
  unfold Builtin.SmallTypes.ownedTupleHandOut
  have z6 : IsZip (u5.push { cls := .type "tuple", data := .seq #[x, y] }) z TI TO .ellipsis := Heap.get?_push_of_some _ z5
  refine wpAny_bind (wpAny_setField_rec z6 (by simp) fun u7 z7 sb7 => ?_)
  have z7' : IsZip u7 z TI TO (rawInt u5.objs.size) := z7
  refine wpAny_setField_rec z7' (by simp) fun u8 z8 sb8 => ?_
  have z8' : IsZip u8 z TI TO (rawInt u5.objs.size) := z8
  have sb7' : Heap.SameBut z (u5.push { cls := .type "tuple", data := .seq #[x, y] }) u7 := sb7
  have sb8' : Heap.SameBut z u7 u8 := sb8
  have upto : ∀ c o, c ≠ z → u5.get? c = some o → u8.get? c = some o := fun c o c1 e => sb8'.extBut _ _ c1 (sb7'.extBut _ _ c1 (Heap.get?_push_of_some _ e))
  have zlt : @LT.lt Nat instLTNat z u5.objs.size := Heap.lt_size z5
  have new8 : IsPair u8 u5.objs.size x y := sb8'.extBut _ _ (Nat.ne_of_gt zlt) (sb7'.extBut _ _ (Nat.ne_of_gt zlt) (Heap.get?_push_size _ rfl))
  have kp1 : T1 (k + 1) u8 := D1.frame _ _ _ r1 fun c hc o e => upto c o (by
    have hc' : c = i1 ∨ c = l1 := by simpa using hc
    rcases hc' with rfl | rfl
    · exact ap.i1z
    · exact ap.l1z) e
  have kp2 : T2 (k + 1) u8 := D2.frame _ _ _ r2 fun c hc o e => upto c o (by
    have hc' : c = i2 ∨ c = l2 := by simpa using hc
    rcases hc' with rfl | rfl
    · exact ap.i2z
    · exact ap.l2z) e
  rw [size5] at z8' new8
  refine wpAny_pure ⟨_, rfl, ?_⟩
  show Q (.ref u5.objs.size) _
  rw [size5]
  exact hQ x y u8 tk4 px py z8' (upto _ _ ap.TOz o5') kp1 kp2 new8 fun c o c1 c2 c3 c4 e => upto c o c1 (keep5 c o c1 c2 c3 c4 e)
theorem zipD_end {Q : Fin → Shared → Prop} (D1 : Draws prog w A i1 [i1, l1] n1 P1 T1) (D2 : Draws prog w A i2 [i2, l2] n2 P2 T2) (ap : ZipApart z TI TO i1 i2 l1 l2) (hz : IsZip s.heap z TI TO .none) (hI : IsPair s.heap TI (.ref i1) (.ref i2)) (hO : IsPair s.heap TO a b)
    (q1 : T1 k s.heap) (q2 : T2 k s.heap) (hk : k = n1 ∨ (k < n1 ∧ k = n2))
    (hE : ∀ h' e tk, (∀ c o, c ≠ z → c ≠ TO → c ≠ i1 → c ≠ i2 → s.heap.get? c = some o → h'.get? c = some o) → (∃ o, h'.get? e = some o ∧ o.cls = .type "StopIteration") → E (.ref e) { s with heap := h', toks := tk }) :
    wpAny (model prog w) A (Builtin.«zip.__next__» ⟨[.ref z], []⟩) Q E s := by
  obtain ⟨hp, g, d, tk0, os⟩ := s
  show wpAny _ _ (field (.ref z) 2 >>= _) _ _ ⟨hp, g, d, tk0, os⟩
  refine wpAny_bind (wpAny_field hz rfl (x := .bool false) rfl ?_)
  show wpAny _ _ (field (.ref z) 3 >>= _) _ _ ⟨hp, g, d, tk0, os⟩
  refine wpAny_bind (wpAny_field hz rfl (x := .ref TI) rfl (wpAny_bind (wpAny_seqItems hI rfl ?_)))
  show wpAny _ _ (Builtin.SmallTypes.ownedTupleIsFree (.ref z) >>= _) _ _ ⟨hp, g, d, tk0, os⟩
  refine wpAny_bind ?_
  unfold Builtin.SmallTypes.ownedTupleIsFree
  refine wpAny_bind (wpAny_field hz rfl (x := .none) rfl (wpAny_pure ?_))
  rw [if_pos (by decide)]
  refine wpAny_bind (wpAny_rule (wpAny_bind (wpAny_field hz rfl (x := .ref TO) rfl (wpAny_bind (wpAny_setField_rec hz (by simp) fun u1 z1 sb1 => ?_)))))
  have z1' : IsZip u1 z TI TO .ellipsis := z1
  have sb1' : Heap.SameBut z hp u1 := sb1
  refine wpAny_bind ?_
  simp only [List.zipIdx_cons, List.zipIdx_nil, List.forIn_cons, List.forIn_nil]
  have o1 : IsPair u1 TO a b := sb1'.extBut _ _ ap.TOz hO
  refine wpAny_bind (wpAny_bind (wpAny_onRaise ?_))
  show wpAny _ _ (Builtin.SmallTypes.nextOf (.ref i1) >>= _) _ _ ⟨u1, g, d, tk0, os⟩
  rcases hk with rfl | ⟨lt1, rfl⟩
  · refine wpAny_bind (D1.done _ _ _ (keepD D1 q1 sb1' ap.i1z ap.l1z) fun u2 e sb2 he => ?_)
    obtain ⟨oe, hoe, hce⟩ := he
    have z2 : IsZip u2 z TI TO .ellipsis := sb2 _ _ ap.i1z.symm z1'
    have ez : e ≠ z := fun y => by subst y; rw [z2] at hoe; cases hoe; simp at hce
    exact wpAny_setField_rec z2 (by simp) fun u3 _ sb3 => hE u3 e tk0 (fun c o c1 _ c3 _ y => sb3.extBut _ _ c1 (sb2 _ _ c3 (sb1'.extBut _ _ c1 y))) ⟨oe, sb3.extBut _ _ ez hoe, hce⟩
  · refine wpAny_bind (D1.item _ _ _ _ lt1 (keepD D1 q1 sb1' ap.i1z ap.l1z) fun x u2 tk2 px t1 sb2 => wpAny_pure ?_)
    have sb2' : Heap.SameBut i1 u1 u2 := sb2
    have o2 : IsPair u2 TO a b := sb2'.extBut _ _ ap.TOi1 o1
    refine wpAny_bind (wpAny_seqItems o2 rfl (wpAny_bind (wpAny_updateSeq_pair o2 fun u3 o3 sb3 => wpAny_bind (wpAny_letGo (wpAny_pure ?_)))))
    have sb3' : Heap.SameBut TO u2 u3 := sb3
    refine wpAny_bind (wpAny_bind (wpAny_onRaise ?_))
    show wpAny _ _ (Builtin.SmallTypes.nextOf (.ref i2) >>= _) _ _ ⟨u3, g, d, tk2, os⟩
    have t2 := keepD D2 (keepD D2 (keepD D2 q2 sb1' ap.i2z ap.l2z) sb2' ap.i12.symm ap.l2i1) sb3' ap.TOi2.symm ap.l2TO
    refine wpAny_bind (D2.done _ _ _ t2 fun u4 e sb4 he => ?_)
    obtain ⟨oe, hoe, hce⟩ := he
    have z4 : IsZip u4 z TI TO .ellipsis := sb4 _ _ ap.i2z.symm (sb3'.extBut _ _ ap.TOz.symm (sb2'.extBut _ _ ap.i1z.symm z1'))
    have ez : e ≠ z := fun y => by subst y; rw [z4] at hoe; cases hoe; simp at hce
    exact wpAny_setField_rec z4 (by simp) fun u5 _ sb5 => hE u5 e tk2 (fun c o c1 c2 c3 c4 y => sb5.extBut _ _ c1 (sb4 _ _ c4 (sb3'.extBut _ _ c2 (sb2'.extBut _ _ c3 (sb1'.extBut _ _ c1 y))))) ⟨oe, sb5.extBut _ _ ez hoe, hce⟩
end
def Itz (K : PySem.W.Frag) (t1 t2 : Bool) (a b : Addr) : It :=
  ⟨fun i H => ∃ xs ys x y, SqS t1 K H a xs ∧ SqS t2 K H b ys ∧ xs[i]? = some x ∧ ys[i]? = some y,
    fun i H x H' => ∃ p u v, x = .ref p ∧ H p = none ∧ H' = upd H p (.tup [u, v]) ∧ (∀ xs, SqS t1 K H a xs → xs[i]? = some u) ∧ ∀ ys, SqS t2 K H b ys → ys[i]? = some v,
    fun i H => ∃ xs ys, SqS t1 K H a xs ∧ SqS t2 K H b ys ∧ i = min xs.length ys.length⟩
theorem seqIter_obj {t : Bool} {h : Heap} {ip a : Addr} {i : Nat} (hs : IsSeqIter t h ip a i) : ∃ o, h.get? ip = some o ∧ ∀ v, o.data ≠ .cell v := by
  cases t with
  | true => obtain ⟨o, e1, _, d⟩ := (show h.IsTupleIter _ _ _ from hs); exact ⟨o, e1, fun v q => by rw [d] at q; cases q⟩
  | false => obtain ⟨o, e1, _, d⟩ := (show h.IsListIter _ _ _ from hs); exact ⟨o, e1, fun v q => by rw [d] at q; cases q⟩
theorem seqIter_at {t : Bool} {h h' : Heap} {ip a : Addr} {i : Nat} (hs : IsSeqIter t h ip a i) (k : ∀ o, h.get? ip = some o → h'.get? ip = some o) : IsSeqIter t h' ip a i := by
  cases t with
  | true => exact (show h.IsTupleIter _ _ _ from hs).at k
  | false => exact (show h.IsListIter _ _ _ from hs).at k
theorem turn_zip {P : Program} {w : World} {K : PySem.W.Frag} {elts : List Expr} {kt : Nat} {pos : Pos} (t1 t2 : Bool) (a b z TI TO i1 i2 : Addr) (ap : ZipApart z TI TO i1 i2 a b) (a1 : a ≠ TI) (b1 : b ≠ TI) :
    Turn P w K (.Tuple elts kt pos) (Itz K t1 t2 a b) [z, TI, TO, i1, i2] z (fun i h => IsZip h z TI TO .none ∧ IsPair h TI (.ref i1) (.ref i2) ∧ (∃ u v, IsPair h TO u v) ∧ IsSeqIter t1 h i1 a i ∧ IsSeqIter t2 h i2 b i) where
  mem := by simp
  obj := fun i h st c hc => by
    obtain ⟨hz, hI, ⟨u, v, hO⟩, s1, s2⟩ := st
    have hc' : c = z ∨ c = TI ∨ c = TO ∨ c = i1 ∨ c = i2 := by simpa using hc
    rcases hc' with rfl | rfl | rfl | rfl | rfl
    · exact ⟨_, hz, fun v q => nomatch q⟩
    · exact ⟨_, hI, fun v q => nomatch q⟩
    · exact ⟨_, hO, fun v q => nomatch q⟩
    · exact seqIter_obj s1
    · exact seqIter_obj s2
  keep := fun i h h' st kk => by
    obtain ⟨hz, hI, ⟨u, v, hO⟩, s1, s2⟩ := st
    exact ⟨kk z (by simp) _ hz, kk TI (by simp) _ hI, ⟨u, v, kk TO (by simp) _ hO⟩, seqIter_at s1 fun o e => kk i1 (by simp) o e, seqIter_at s2 fun o e => kk i2 (by simp) o e⟩
  item := by
    intro X hP hw hK hc i pins s σ H E I hf st hg
    subst hP hw hK
    obtain ⟨xs, ys, x, y, hq1, hq2, hx, hy⟩ := hg
    obtain ⟨its1, rv1, pl1, hz1, hlt1⟩ := I.seq hq1
    obtain ⟨its2, rv2, pl2, hz2, hlt2⟩ := I.seq hq2
    obtain ⟨u, hu, ru⟩ := rv1.get hx
    obtain ⟨v, hv, rv⟩ := rv2.get hy
    obtain ⟨hz, hI, ⟨oa, ob, hO⟩, s1, s2⟩ := st
    have e1 : i < its1.toArray.size := by rw [List.size_toArray]; exact (List.getElem?_eq_some_iff.mp hu).1
    have e2 : i < its2.toArray.size := by rw [List.size_toArray]; exact (List.getElem?_eq_some_iff.mp hv).1
    have hT : s.TypeIs (.ref z) "zip" := ⟨_, hz, rfl⟩
    unfold pyNext
    refine wpAny_bind (wpAny_attempt (wpAny_callSpecial?_slot (name := Str.ofString "__next__") hT PySem.F.slot_zip_next
      (wpAny_call_entry PySem.F.slot_zip_next hT PySem.F.entry_zip_next (zipD_item (draws_seq t1 (prog := X.prog) (w := X.w) (A := X.A.in1) (I.ok.hd hc) i1 a ap.l1i1 its1.toArray) (draws_seq t2 (prog := X.prog) (w := X.w) (A := X.A.in1) (I.ok.hd hc) i2 b ap.l2i2 its2.toArray)
        ap hz hI hO ⟨s1, pl1⟩ ⟨s2, pl2⟩ e1 e2 fun x' y' h1 tk px py z1 o1 d1 d2 new k1 => wpAny_pure ?_) (PySem.F.args_zip_next_1 _))))
    have hxu : x' = u := by
      have : its1.toArray[i]? = some u := by simpa using hu
      rw [px] at this
      exact Option.some.inj this
    have hyv : y' = v := by
      have : its2.toArray[i]? = some v := by simpa using hv
      rw [py] at this
      exact Option.some.inj this
    subst hxu hyv
    refine ⟨_, rfl, wpAny_letOwnedTupleGo_zip z1 fun h2 z2 sb => ?_⟩
    have hTz : s.heap.objs.size ≠ z := Nat.ne_of_gt (Heap.lt_size hz)
    have hkk : ∀ c o, c ∉ [z, TI, TO, i1, i2] → s.heap.get? c = some o → h2.get? c = some o := fun c o hc' q => sb.extBut _ _ (fun e => hc' (by simp [e])) (k1 c o (fun e => hc' (by simp [e])) (fun e => hc' (by simp [e])) (fun e => hc' (by simp [e])) (fun e => hc' (by simp [e])) q)
    have I2 : Inv X pins σ H { s with heap := h2, toks := tk } := I.turnedL hkk hf
    have hTn : H s.heap.objs.size = none := I.hok.fresh (Nat.le_refl _)
    have I3 : Inv X pins σ (upd H s.heap.objs.size (.tup [x, y])) { s with heap := h2, toks := tk } := I2.track (I.fpOk (Nat.le_refl _) hTn) I.sz
      ⟨by show 2 ≤ sizeLine; decide, [x', y'], .cons ru (.cons rv .nil), _, sb.extBut _ _ hTz new, rfl, rfl, _, rfl⟩
    refine ⟨.ref s.heap.objs.size, _, I3, rfl, ⟨s.heap.objs.size, x, y, rfl, hTn, rfl, fun zs hzs => by rw [I.seq_inj hzs hq1]; exact hx, fun zs hzs => by rw [I.seq_inj hzs hq2]; exact hy⟩,
      ⟨z2, sb.extBut _ _ ap.TIz (k1 _ _ ap.TIz ap.TITO ap.TIi1 ap.TIi2 hI), ⟨_, _, sb.extBut _ _ ap.TOz o1⟩, seqIter_at d1.1 fun o e => sb.extBut _ _ ap.i1z e, seqIter_at d2.1 fun o e => sb.extBut _ _ ap.i2z e⟩, fun c hc' => ?_⟩
    have hcl : @LT.lt Nat instLTNat c s.heap.objs.size := by
      have hc2 : c = z ∨ c = TI ∨ c = TO ∨ c = i1 ∨ c = i2 := by simpa using hc'
      rcases hc2 with rfl | rfl | rfl | rfl | rfl
      · exact Heap.lt_size hz
      · exact Heap.lt_size hI
      · exact Heap.lt_size hO
      · obtain ⟨o, e, _⟩ := seqIter_obj s1; exact Heap.lt_size e
      · obtain ⟨o, e, _⟩ := seqIter_obj s2; exact Heap.lt_size e
    rw [upd_ne (Nat.ne_of_lt hcl)]
    exact (hf c hc').1
  done := by
    intro X hP hw hK hc i pins s σ H E I hf st hg
    subst hP hw hK
    obtain ⟨xs, ys, hq1, hq2, hi⟩ := hg
    obtain ⟨its1, rv1, pl1, hz1, hlt1⟩ := I.seq hq1
    obtain ⟨its2, rv2, pl2, hz2, hlt2⟩ := I.seq hq2
    obtain ⟨hz, hI, ⟨oa, ob, hO⟩, s1, s2⟩ := st
    have hT : s.TypeIs (.ref z) "zip" := ⟨_, hz, rfl⟩
    have hk : i = its1.toArray.size ∨ (i < its1.toArray.size ∧ i = its2.toArray.size) := by
      rw [List.size_toArray, List.size_toArray, ← rv1.length, ← rv2.length]
      omega
    unfold pyNext
    refine wpAny_bind (wpAny_attempt (wpAny_callSpecial?_slot (name := Str.ofString "__next__") hT PySem.F.slot_zip_next
      (wpAny_call_entry PySem.F.slot_zip_next hT PySem.F.entry_zip_next (zipD_end (draws_seq t1 (prog := X.prog) (w := X.w) (A := X.A.in1) (I.ok.hd hc) i1 a ap.l1i1 its1.toArray) (draws_seq t2 (prog := X.prog) (w := X.w) (A := X.A.in1) (I.ok.hd hc) i2 b ap.l2i2 its2.toArray)
        ap hz hI hO ⟨s1, pl1⟩ ⟨s2, pl2⟩ hk fun h' e tk hk' he => ?_) (PySem.F.args_zip_next_1 _))))
    obtain ⟨o, ho, hc'⟩ := he
    refine wpAny_bind (wpAny_isInstance (T := "StopIteration") (b := true) ⟨o, ho, hc'⟩ isSubtype_stop (wpAny_pure ⟨rfl, ?_⟩))
    exact I.turnedL (fun c o hc2 q => hk' c o (fun e => hc2 (by simp [e])) (fun e => hc2 (by simp [e])) (fun e => hc2 (by simp [e])) (fun e => hc2 (by simp [e])) q) hf
  self := fun A i s Q E st h => wpAny_pyIter_zip st.1 h
def itO (t : Bool) (l : Addr) : Obj := { cls := .type (if t then "tuple_iterator" else "list_iterator"), data := .fields #[.ref l, .int 0 0] }
theorem iter_seq {prog : Program} {w : World} {A : Around} {E : Value → Shared → Prop} {s : Shared} {t : Bool} {l : Addr} {xs : Array Value} {Q : Value → Shared → Prop} (h : IsSeq t s.heap l xs) (q : Q (.ref s.heap.objs.size) { s with heap := s.heap.push (itO t l) }) : wpAny (model prog w) A (pyIter (.ref l)) Q E s := by
  cases t with
  | true => exact wpAny_pyIter_tuple h q
  | false => exact wpAny_pyIter_list h q
theorem isSeq_push {t : Bool} {h : Heap} {l : Addr} {xs : Array Value} (o : Obj) (q : IsSeq t h l xs) : IsSeq t (h.push o) l xs := by
  cases t with
  | true => exact (show h.IsTuple l xs from q).at fun _ e => Heap.get?_push_of_some _ e
  | false => exact (show h.IsList l xs from q).push o
set_option maxHeartbeats 1000000 in
theorem meets_zipS (t1 t2 : Bool) (l1 l2 : Addr) (xs ys : Array Value) :
    Meets (Builtin.«zip.__new__» ⟨[.type "zip", .ref l1, .ref l2], []⟩) (fun _ R s => IsSeq t1 s.heap l1 xs ∧ IsSeq t2 s.heap l2 ys ∧
      R (.ok (.ret (.ref ((((s.heap.push (itO t1 l1)).push (itO t2 l2)).push { cls := .type "tuple", data := .seq #[.ref s.heap.objs.size, .ref (s.heap.push (itO t1 l1)).objs.size] }).push { cls := .type "tuple", data := .seq #[.none, .none] }).objs.size)))
        { s with heap := ((((s.heap.push (itO t1 l1)).push (itO t2 l2)).push { cls := .type "tuple", data := .seq #[.ref s.heap.objs.size, .ref (s.heap.push (itO t1 l1)).objs.size] }).push { cls := .type "tuple", data := .seq #[.none, .none] }).push { cls := .type "zip", data := .fields #[.none, .bool false, .bool false, .ref ((s.heap.push (itO t1 l1)).push (itO t2 l2)).objs.size, .ref (((s.heap.push (itO t1 l1)).push (itO t2 l2)).push { cls := .type "tuple", data := .seq #[.ref s.heap.objs.size, .ref (s.heap.push (itO t1 l1)).objs.size] }).objs.size] } }) :=
  .of_wp fun prog w A R s h => by
    obtain ⟨hp, g, d, tk, os⟩ := s
    obtain ⟨h1, h2, h⟩ := h
    have hsub := sub_zip
    have f1 : IsSeq t1 (Shared.heap ⟨hp, g, d, tk, os⟩) l1 xs := h1
    have f2 : IsSeq t2 (Shared.heap ⟨hp.push (itO t1 l1), g, d, tk, os⟩) l2 ys := isSeq_push _ h2
    wp_walk using iter_seq f1, iter_seq f2
    exact ⟨_, rfl, h⟩
theorem call_zipS {prog : Program} {w : World} {A : Around} {E : Value → Shared → Prop} {s : Shared} {t1 t2 : Bool} {l1 l2 : Addr} {xs ys : Array Value} {Q : Value → Shared → Prop} (h1 : IsSeq t1 s.heap l1 xs) (h2 : IsSeq t2 s.heap l2 ys)
    (h : ∀ h', IsZip h' (s.heap.objs.size + 4) (s.heap.objs.size + 2) (s.heap.objs.size + 3) .none → IsPair h' (s.heap.objs.size + 2) (.ref s.heap.objs.size) (.ref (s.heap.objs.size + 1)) →
      IsPair h' (s.heap.objs.size + 3) .none .none → IsSeqIter t1 h' s.heap.objs.size l1 0 → IsSeqIter t2 h' (s.heap.objs.size + 1) l2 0 → (∀ c o, s.heap.get? c = some o → h'.get? c = some o) → Q (.ref (s.heap.objs.size + 4)) { s with heap := h' }) :
    wpAny (model prog w) A (call (.type "zip") [.ref l1, .ref l2]) Q E s := by
  refine callType_new PySem.F.called_zip (by decide) (PySem.F.typeCall_zip_2 _ _) (PySem.F.newCall_zip_2 _ _) (fun obj => PySem.F.args_object_init_3 obj _ _) PySem.F.entry_zip_new (meets_zipS t1 t2 l1 l2 xs ys) ⟨h1, h2, ?_⟩
  generalize ho1 : itO t1 l1 = o1
  generalize ho2 : itO t2 l2 = o2
  have f1 : o1.isFreed = false := by rw [← ho1]; rfl
  have f2 : o2.isFreed = false := by rw [← ho2]; rfl
  generalize hp : s.heap = hp0
  have n1 : (hp0.push o1).objs.size = hp0.objs.size + 1 := Heap.size_push ..
  generalize e1 : hp0.push o1 = p1 at n1
  have g1 : p1.get? hp0.objs.size = some o1 := by rw [← e1]; exact Heap.get?_push_size _ f1
  have c1 : ∀ c o, hp0.get? c = some o → p1.get? c = some o := fun c o q => by rw [← e1]; exact Heap.get?_push_of_some _ q
  have n2 : (p1.push o2).objs.size = hp0.objs.size + 2 := by rw [Heap.size_push, n1]
  generalize e2 : p1.push o2 = p2 at n2
  have g2 : p2.get? (hp0.objs.size + 1) = some o2 := by rw [← e2, ← n1]; exact Heap.get?_push_size _ f2
  have c2 : ∀ c o, p1.get? c = some o → p2.get? c = some o := fun c o q => by rw [← e2]; exact Heap.get?_push_of_some _ q
  rw [n1, n2]
  generalize e3 : p2.push { cls := .type "tuple", data := .seq #[.ref hp0.objs.size, .ref (hp0.objs.size + 1)] } = p3
  have n3 : p3.objs.size = hp0.objs.size + 3 := by rw [← e3, Heap.size_push, n2]
  have g3 : IsPair p3 (hp0.objs.size + 2) (.ref hp0.objs.size) (.ref (hp0.objs.size + 1)) := by rw [← e3, ← n2]; exact Heap.get?_push_size _ rfl
  have c3 : ∀ c o, p2.get? c = some o → p3.get? c = some o := fun c o q => by rw [← e3]; exact Heap.get?_push_of_some _ q
  generalize e4 : p3.push { cls := .type "tuple", data := .seq #[.none, .none] } = p4
  have n4 : p4.objs.size = hp0.objs.size + 4 := by rw [← e4, Heap.size_push, n3]
  have g4 : IsPair p4 (hp0.objs.size + 3) .none .none := by rw [← e4, ← n3]; exact Heap.get?_push_size _ rfl
  have c4 : ∀ c o, p3.get? c = some o → p4.get? c = some o := fun c o q => by rw [← e4]; exact Heap.get?_push_of_some _ q
  rw [n3]
  generalize e5 : p4.push { cls := .type "zip", data := .fields #[.none, .bool false, .bool false, .ref (hp0.objs.size + 2), .ref (hp0.objs.size + 3)] } = p5
  have g5 : IsZip p5 (hp0.objs.size + 4) (hp0.objs.size + 2) (hp0.objs.size + 3) .none := by rw [← e5, ← n4]; exact Heap.get?_push_size _ rfl
  have c5 : ∀ c o, p4.get? c = some o → p5.get? c = some o := fun c o q => by rw [← e5]; exact Heap.get?_push_of_some _ q
  rw [n4]
  have it1 : IsSeqIter t1 p5 hp0.objs.size l1 0 := by
    have q : p5.get? hp0.objs.size = some (itO t1 l1) := by rw [ho1]; exact c5 _ _ (c4 _ _ (c3 _ _ (c2 _ _ g1)))
    cases t1 with
    | true => exact ⟨_, q, rfl, rfl⟩
    | false => exact ⟨_, q, rfl, rfl⟩
  have it2 : IsSeqIter t2 p5 (hp0.objs.size + 1) l2 0 := by
    have q : p5.get? (hp0.objs.size + 1) = some (itO t2 l2) := by rw [ho2]; exact c5 _ _ (c4 _ _ (c3 _ _ g2))
    cases t2 with
    | true => exact ⟨_, q, rfl, rfl⟩
    | false => exact ⟨_, q, rfl, rfl⟩
  subst hp
  exact ⟨⟨_, g5, rfl⟩, h p5 g5 (c5 _ _ (c4 _ _ g3)) (c5 _ _ g4) it1 it2 fun c o q => c5 _ _ (c4 _ _ (c3 _ _ (c2 _ _ (c1 _ _ q))))⟩
end L2
namespace PU
open PySem PySem.Spec L2
open PyProof.Rows hiding St
section
variable {X : Cx} {a b : Expr} {elts : List Expr} {kt : Nat} {pt pos : Pos} {f g : Fe}
theorem zipD_length (l m : List D) : (zipD l m).length = min l.length m.length := by unfold zipD; rw [List.length_map, List.length_zip]
theorem zipD_get {l m : List D} {i : Nat} {d e : D} (h1 : l[i]? = some d) (h2 : m[i]? = some e) : (zipD l m)[i]? = some (.tuple [d, e]) := by
  unfold zipD
  rw [List.getElem?_map, (List.getElem?_zip_eq_some (z := (d, e))).mpr ⟨h1, h2⟩]
  rfl
theorem itd_zip {K : PySem.W.Frag} {H : Hp} {t1 t2 : Bool} {p q : Addr} {xs ys : List V} {ds es : List D} (h1 : SqS t1 K H p xs) (r1 : Reps K H ds xs) (h2 : SqS t2 K H q ys) (r2 : Reps K H es ys) : ItD K (zipD ds es) (Itz K t1 t2 p q) H where
  go := fun i H2 s2 hi => by
    rw [zipD_length] at hi
    obtain ⟨x, e1, _⟩ := r1.getD (List.getElem?_eq_getElem (show i < ds.length by omega))
    obtain ⟨y, e2, _⟩ := r2.getD (List.getElem?_eq_getElem (show i < es.length by omega))
    exact ⟨xs, ys, x, y, sqS_mono s2 h1, sqS_mono s2 h2, e1, e2⟩
  yld := fun i H2 x H3 s2 hy hi => by
    obtain ⟨c, u, v, rfl, hc, rfl, hu, hv⟩ := hy
    obtain ⟨d, e1, e2⟩ := (r1.mono s2).get (hu xs (sqS_mono s2 h1))
    obtain ⟨e, e3, e4⟩ := (r2.mono s2).get (hv ys (sqS_mono s2 h2))
    exact ⟨same_upd hc _, _, zipD_get e1 e3, Rep.newTup hc (Reps.cons e2 (Reps.cons e4 Reps.nil))⟩
  stop := fun H2 s2 => ⟨xs, ys, sqS_mono s2 h1, sqS_mono s2 h2, by rw [zipD_length, r1.length, r2.length]⟩
  frm := fun i H2 x H3 a zs hx hy => by
    obtain ⟨c, u, v, rfl, hc, rfl, hu, hv⟩ := hy
    have hne : c ≠ a := fun z => by rw [z, hx] at hc; cases hc
    refine ⟨⟨c, u, v, rfl, by rw [rm_ne hne]; exact hc, ?_, fun zs h => hu zs (sqS_mono (same_rm _ a) h), fun zs h => hv zs (sqS_mono (same_rm _ a) h)⟩, by rw [upd_ne (Ne.symm hne)]; exact hx⟩
    funext b
    by_cases hb : b = a
    · subst hb; rw [rm_same, upd_ne (Ne.symm hne), rm_same]
    · rw [rm_ne hb]
      by_cases hbq : b = c
      · subst hbq; rw [upd_same, upd_same]
      · rw [upd_ne hbq, upd_ne hbq, rm_ne hb]
theorem rep_seq {K : PySem.W.Frag} {H : Hp} {d : D} {l : List D} {v : V} (e : isSeq d = some l) (h : Rep K H d v) : ∃ (t : Bool) (p : Addr) (xs : List V), v = .ref p ∧ SqS t K H p xs ∧ Reps K H l xs := by
  cases d with
  | list l' => cases e; obtain ⟨p, xs, h1, h2, h3⟩ := rep_lst h; exact ⟨false, p, xs, h1, h2, h3⟩
  | tuple l' => cases e; obtain ⟨p, xs, h1, h2, h3⟩ := rep_tup h; exact ⟨true, p, xs, h1, h2, h3⟩
  | _ => cases e
theorem pui_zip {p0 : Pos} (hg : Gl X "zip") (hm : X.mg "zip" = none) (hc : X.calm = true) (ha : Pu X a f) (hb' : Pu X b g) (hb : bootBuiltins "zip" = some (.type "zip") := by decide +kernel)
    (hs : starEach [a, b] X.env = (false, eval a X.env) :: starEach [b] X.env := by rfl) (hs2 : starEach [b] X.env = [(false, eval b X.env)] := by rfl) (hpl : (backTo pos (starEach [b] X.env)).any (·.1) = false := by rfl) :
    PuI X (.Tuple elts kt pt) (.Call (.Name "zip" p0) [a, b] [] pos) (iZip f g) := by
  refine ⟨?_⟩
  intro pins s σ H R I h
  obtain ⟨δ, es, rs, e, q⟩ := h
  obtain ⟨d, e1, e⟩ := bind_some e
  obtain ⟨l, e2, e⟩ := bind_some e
  obtain ⟨d', e3, e⟩ := bind_some e
  obtain ⟨m, e4, e⟩ := bind_some e
  cases e
  refine Call_ (ld_blt I hg hm hb (PyProof.Rows.callWith_type1 (thn ((pua_cons ha (pua_cons hb' pua_nil hs2) hs).un pos pins s σ H (fun vs H1 => ∃ v v', vs = [v, v'] ∧ Same H H1 ∧ Rep X.K H1 d v ∧ Rep X.K H1 d' v') I
    ⟨δ, [d, d'], rs, by unfold aCons aNil; rw [e1, e3]; rfl, fun vs H1 s1 h1 => by obtain ⟨v, v', rfl, h2, h3⟩ := reps2 h1; exact ⟨v, v', rfl, s1, h2, h3⟩⟩) fun us s1 ⟨vs, H1, I1, r1, q1⟩ => ?_) hs hpl))
  obtain ⟨v, v', rfl, s1', h1, h2⟩ := q1
  obtain ⟨u, u', rfl, ru, ru'⟩ := vals2 r1
  obtain ⟨t1, p, xs, rfl, sq1, rp1⟩ := rep_seq e2 h1
  obtain ⟨t2, p', ys, rfl, sq2, rp2⟩ := rep_seq e4 h2
  cases ru
  cases ru'
  obtain ⟨its1, rv1, pl1, hz1, hlt1⟩ := I1.seq sq1
  obtain ⟨its2, rv2, pl2, hz2, hlt2⟩ := I1.seq sq2
  refine call_zipS pl1 pl2 fun h' a1 a2 a3 a4 a5 a6 => ?_
  have l1 : @LT.lt Nat instLTNat p s1.heap.objs.size := hlt1
  have l2 : @LT.lt Nat instLTNat p' s1.heap.objs.size := hlt2
  have ne : ∀ {x y : Nat}, x < y → x ≠ y := fun h => Nat.ne_of_lt h
  refine wpAny_pyIter_zip a1 ⟨s1.heap.objs.size + 4, [s1.heap.objs.size + 4, s1.heap.objs.size + 2, s1.heap.objs.size + 3, s1.heap.objs.size, s1.heap.objs.size + 1], _, _, H1, rfl, I1.kept (t' := s1.toks) a6,
    turn_zip t1 t2 p p' (s1.heap.objs.size + 4) (s1.heap.objs.size + 2) (s1.heap.objs.size + 3) s1.heap.objs.size (s1.heap.objs.size + 1)
      ⟨ne (by omega), ne (by omega), ne (by omega), ne (by omega), ne (by omega), Ne.symm (ne (by omega)), Ne.symm (ne (by omega)), Ne.symm (ne (by omega)), Ne.symm (ne (by omega)), ne (by omega), ne (by omega), ne (by omega), ne (by omega), ne (by omega), ne (by omega), ne (by omega), ne (by omega), ne (by omega)⟩ (ne (by omega)) (ne (by omega)),
    ⟨a1, a2, ⟨_, _, a3⟩, a4, a5⟩, fun c hcm => ?_, q _ _ s1' (itd_zip sq1 rp1 sq2 rp2)⟩
  have hle : s1.heap.objs.size ≤ c := by
    have hcm' : c = s1.heap.objs.size + 4 ∨ c = s1.heap.objs.size + 2 ∨ c = s1.heap.objs.size + 3 ∨ c = s1.heap.objs.size ∨ c = s1.heap.objs.size + 1 := by simpa using hcm
    rcases hcm' with z | z | z | z | z <;> (rw [z]; first | exact Nat.le_add_right _ _ | exact Nat.le_refl _)
  exact I1.fpOk hle (I1.hok.fresh hle)
end
end PU
namespace RG
def sumN (f : Nat → Int) : Nat → Int
  | 0 => 0
  | n + 1 => sumN f n + f n
theorem sumN_congr {f g : Nat → Int} : ∀ {n : Nat}, (∀ i, i < n → f i = g i) → sumN f n = sumN g n
  | 0, _ => rfl
  | n + 1, h => by
    show sumN f n + f n = sumN g n + g n
    rw [sumN_congr fun i hi => h i (by omega), h n (by omega)]
theorem sumN_add (f g : Nat → Int) : ∀ n, sumN (fun i => f i + g i) n = sumN f n + sumN g n
  | 0 => rfl
  | n + 1 => by
    show sumN (fun i => f i + g i) n + (f n + g n) = (sumN f n + f n) + (sumN g n + g n)
    rw [sumN_add f g n]; omega
theorem sumN_mul (c : Int) (f : Nat → Int) : ∀ n, sumN (fun i => c * f i) n = c * sumN f n
  | 0 => by simp [sumN]
  | n + 1 => by
    show sumN (fun i => c * f i) n + c * f n = c * (sumN f n + f n)
    rw [sumN_mul c f n, Int.mul_add]
theorem sumN_zero : ∀ n, sumN (fun _ => 0) n = 0
  | 0 => rfl
  | n + 1 => by show sumN (fun _ => 0) n + 0 = 0; rw [sumN_zero n]; rfl
theorem sumN_ite (k : Nat) (c : Int) : ∀ n, sumN (fun i => if i = k then c else 0) n = if k < n then c else 0
  | 0 => by simp [sumN]
  | n + 1 => by
    show sumN (fun i => if i = k then c else 0) n + (if n = k then c else 0) = _
    rw [sumN_ite k c n]
    by_cases h1 : k < n
    · rw [if_pos h1, if_neg (by omega), if_pos (by omega)]; omega
    · rw [if_neg h1]
      by_cases h2 : n = k
      · rw [if_pos h2, if_pos (by omega)]; omega
      · rw [if_neg h2, if_neg (by omega)]; rfl
theorem sumN_mod {b : Int} {f : Nat → Int} {k : Nat} : ∀ {n : Nat}, (∀ j, j < n → j ≠ k → f j % b = 0) → sumN f n % b = (if k < n then f k else 0) % b
  | 0, _ => by simp [sumN]
  | n + 1, h => by
    have ih := sumN_mod (n := n) fun j hj hk => h j (by omega) hk
    show (sumN f n + f n) % b = _
    by_cases hk : n = k
    · subst hk
      rw [if_neg (by omega)] at ih
      rw [if_pos (by omega), Int.add_emod, ih]
      simp
    · have h2 := h n (by omega) hk
      rw [Int.add_emod, h2, ih]
      by_cases h1 : k < n
      · rw [if_pos h1, if_pos (by omega)]; simp
      · rw [if_neg h1, if_neg (by omega)]; simp
theorem sumN_swap (f : Nat → Nat → Int) (m : Nat) : ∀ n, sumN (fun i => sumN (fun j => f i j) m) n = sumN (fun j => sumN (fun i => f i j) n) m
  | 0 => by
    show (0 : Int) = sumN (fun j => 0) m
    rw [sumN_zero]
  | n + 1 => by
    show sumN (fun i => sumN (fun j => f i j) m) n + sumN (fun j => f n j) m = sumN (fun j => sumN (fun i => f i j) n + f n j) m
    rw [sumN_swap f m n, sumN_add]
def Ls (b : Int) (v : Int) : Prop := v % b ≠ 0
instance (b v : Int) : Decidable (Ls b v) := inferInstanceAs (Decidable (v % b ≠ 0))
def Adj (H W : Nat) (b : Int) (G : Nat → Nat → Int) (l m : Nat) : Prop :=
  (l < H ∧ H ≤ m ∧ m < H + W ∧ Ls b (G l (m - H))) ∨ (m < H ∧ H ≤ l ∧ l < H + W ∧ Ls b (G m (l - H)))
structure Zero (H W : Nat) (G : Nat → Nat → Int) : Prop where
  rows : ∀ i, i < H → sumN (fun j => G i j) W = 0
  cols : ∀ j, j < W → sumN (fun i => G i j) H = 0
section
variable {H W : Nat} {b : Int} {G : Nat → Nat → Int}
theorem Adj.symm {l m : Nat} (h : Adj H W b G l m) : Adj H W b G m l := by
  rcases h with h | h
  · exact .inr h
  · exact .inl h
theorem Adj.lt {l m : Nat} (h : Adj H W b G l m) : l < H + W := by
  rcases h with ⟨h, _⟩ | ⟨_, _, h, _⟩ <;> omega
theorem Adj.side {l m : Nat} (h : Adj H W b G l m) : (l < H) ↔ ¬ (m < H) := by
  rcases h with ⟨h1, h2, _⟩ | ⟨h1, h2, _⟩ <;> omega
theorem Adj.ne {l m : Nat} (h : Adj H W b G l m) : l ≠ m := by
  rcases h with ⟨h1, h2, _⟩ | ⟨h1, h2, _⟩ <;> omega
theorem another (z : Zero H W G) {l m : Nat} (h : Adj H W b G l m) : ∃ m', Adj H W b G l m' ∧ m' ≠ m := by
  rcases h with ⟨h1, h2, h3, h4⟩ | ⟨h1, h2, h3, h4⟩
  · by_cases hex : ∃ j, j < W ∧ j ≠ m - H ∧ Ls b (G l j)
    · obtain ⟨j, hj, hne, hl⟩ := hex
      exact ⟨H + j, .inl ⟨h1, by omega, by omega, by rw [show H + j - H = j by omega]; exact hl⟩, by omega⟩
    · exfalso
      have hm := sumN_mod (b := b) (f := fun j => G l j) (k := m - H) (n := W) fun j hj hne => by
        by_cases hz : G l j % b = 0
        · exact hz
        · exact absurd ⟨j, hj, hne, hz⟩ hex
      rw [z.rows l h1, if_pos (by omega)] at hm
      simp at hm
      exact h4 hm.symm
  · by_cases hex : ∃ i, i < H ∧ i ≠ m ∧ Ls b (G i (l - H))
    · obtain ⟨i, hi, hne, hl⟩ := hex
      exact ⟨i, .inr ⟨hi, h2, h3, hl⟩, hne⟩
    · exfalso
      have hm := sumN_mod (b := b) (f := fun i => G i (l - H)) (k := m) (n := H) fun i hi hne => by
        by_cases hz : G i (l - H) % b = 0
        · exact hz
        · exact absurd ⟨i, hi, hne, hz⟩ hex
      rw [z.cols (l - H) (by omega), if_pos h1] at hm
      simp at hm
      exact h4 hm.symm
end
def Ch (A : Nat → Nat → Prop) : List Nat → Prop
  | [] => True
  | [_] => True
  | x :: y :: r => A x y ∧ Ch A (y :: r)
theorem Ch.tail {A : Nat → Nat → Prop} {x : Nat} : ∀ {r : List Nat}, Ch A (x :: r) → Ch A r
  | [], _ => trivial
  | _ :: _, h => h.2
theorem Ch.drop {A : Nat → Nat → Prop} : ∀ {r : List Nat} (n : Nat), Ch A r → Ch A (r.drop n)
  | _, 0, h => h
  | [], _ + 1, h => h
  | _ :: _, n + 1, h => Ch.drop n (Ch.tail h)
theorem Ch.snoc {A : Nat → Nat → Prop} {y : Nat} : ∀ {r : List Nat} (hr : r ≠ []), Ch A r → A (r.getLast hr) y → Ch A (r ++ [y])
  | [x], _, _, h => ⟨h, trivial⟩
  | x :: z :: r, _, h, h2 => by
    refine ⟨h.1, ?_⟩
    have := Ch.snoc (r := z :: r) (List.cons_ne_nil _ _) h.2 (by rw [List.getLast_cons (List.cons_ne_nil _ _)] at h2; exact h2)
    exact this
theorem Ch.get {A : Nat → Nat → Prop} : ∀ {r : List Nat} (h : Ch A r) (i : Nat) (hi : i + 1 < r.length), A (r[i]'(by omega)) (r[i + 1]'hi)
  | x :: y :: r, h, 0, _ => h.1
  | x :: y :: r, h, i + 1, hi => Ch.get (r := y :: r) h.2 i (by simpa using hi)
  | [x], _, i, hi => absurd hi (by simp)
  | [], _, i, hi => absurd hi (by simp)
structure Ring (A : Nat → Nat → Prop) (r : List Nat) : Prop where
  ch : Ch A r
  nd : r.Nodup
  len : 3 ≤ r.length
  close : ∀ (h : r ≠ []), A (r.getLast h) (r.head h)
structure Walk (A : Nat → Nat → Prop) (n : Nat) (path : List Nat) (ahead : Nat) : Prop where
  ne : path ≠ []
  nd : path.Nodup
  ch : Ch A path
  near : A (path.getLast ne) ahead
  back : ∀ (pre : List Nat) (x y : Nat), path = pre ++ [x, y] → ahead ≠ x
  lt : ∀ l ∈ path, l < n
theorem nodup_le {n : Nat} : ∀ {l : List Nat}, l.Nodup → (∀ x ∈ l, x < n) → l.length ≤ n := by
  induction n with
  | zero =>
    intro l _ h
    cases l with
    | nil => simp
    | cons x r => exact absurd (h x List.mem_cons_self) (by omega)
  | succ n ih =>
    intro l hd h
    have h1 := ih (l := l.erase n) (hd.erase n) fun x hx => by
      have hx' := List.mem_of_mem_erase hx
      have := h x hx'
      have hne : x ≠ n := fun e => by subst e; exact (List.Nodup.not_mem_erase hd) hx
      omega
    rw [List.length_erase] at h1
    split at h1 <;> omega
theorem Walk.go {A : Nat → Nat → Prop} {n : Nat} {path : List Nat} {ahead y : Nat} (w : Walk A n path ahead) (hn : ahead ∉ path) (hl : ahead < n) (hy : A ahead y) (hne : y ≠ path.getLast w.ne) : Walk A n (path ++ [ahead]) y where
  ne := by simp
  nd := by
    rw [List.nodup_append]
    refine ⟨w.nd, by simp, fun a ha c hc e => ?_⟩
    have : c = ahead := by simpa using hc
    subst this
    subst e
    exact hn ha
  ch := w.ch.snoc w.ne w.near
  near := by simpa using hy
  back := fun pre x z e => by
    have h1 : path ++ [ahead] = (pre ++ [x]) ++ [z] := by rw [e]; simp
    have h2 := (List.append_inj' h1 rfl).1
    have : path.getLast w.ne = x := by
      have : path.getLast w.ne = (pre ++ [x]).getLast (by simp) := by congr 1
      rw [this]; simp
    rw [← this]
    exact hne
  lt := fun l h => by
    rcases List.mem_append.mp h with h | h
    · exact w.lt l h
    · have : l = ahead := by simpa using h
      subst this
      exact hl
theorem Walk.ring {A : Nat → Nat → Prop} {n : Nat} {path : List Nat} {ahead : Nat} (w : Walk A n path ahead) (irr : ∀ x y, A x y → x ≠ y) (hm : ahead ∈ path) : Ring A (path.drop (path.idxOf ahead)) ∧ (path.drop (path.idxOf ahead)).head? = some ahead := by
  have hlt : path.idxOf ahead < path.length := List.idxOf_lt_length_of_mem hm
  have hhead : (path.drop (path.idxOf ahead)).head? = some ahead := by
    rw [List.head?_drop, List.getElem?_eq_getElem hlt, List.getElem_idxOf hlt]
  have hdrop : path.drop (path.idxOf ahead) = ahead :: path.drop (path.idxOf ahead + 1) := by
    rw [List.drop_eq_getElem_cons hlt, List.getElem_idxOf hlt]
  have hlast : ∀ h, (path.drop (path.idxOf ahead)).getLast h = path.getLast w.ne := fun h => by rw [List.getLast_drop]
  refine ⟨⟨w.ch.drop _, w.nd.sublist (List.drop_sublist _ _), ?_, fun h => ?_⟩, hhead⟩
  · rw [hdrop]
    have hl := hlast (by rw [hdrop]; simp)
    cases hr : path.drop (path.idxOf ahead + 1) with
    | nil =>
      exfalso
      have e : path.getLast w.ne = ahead := by
        rw [← hl]
        have : path.drop (path.idxOf ahead) = [ahead] := by rw [hdrop, hr]
        simp [this]
      have := w.near
      rw [e] at this
      exact irr _ _ this rfl
    | cons y r =>
      cases r with
      | nil =>
        exfalso
        have e : path = path.take (path.idxOf ahead) ++ [ahead, y] := by
          have := (List.take_append_drop (path.idxOf ahead) path).symm
          rw [hdrop, hr] at this
          exact this
        exact w.back _ ahead y e rfl
      | cons z r => simp
  · rw [hlast]
    have : (path.drop (path.idxOf ahead)).head h = ahead := by
      have := hhead
      rw [List.head?_eq_some_head h] at this
      exact Option.some.inj this
    rw [this]
    exact w.near
def place (H : Nat) (l m : Nat) : Nat × Nat := (min l m, max l m - H)
def rot (r : List Nat) : List Nat := r.drop 1 ++ r.take 1
def places (H : Nat) (r : List Nat) : List (Nat × Nat) := (r.zip (rot r)).map fun p => place H p.1 p.2
theorem rot_length (r : List Nat) : (rot r).length = r.length := by
  unfold rot
  rw [List.length_append, List.length_drop, List.length_take]
  omega
theorem rot_get {r : List Nat} (i : Nat) (h : i < r.length) : (rot r)[i]? = some (if h' : i + 1 < r.length then r[i + 1] else r[0]'(by omega)) := by
  unfold rot
  by_cases h' : i + 1 < r.length
  · rw [dif_pos h', List.getElem?_append_left (by rw [List.length_drop]; omega), List.getElem?_drop, Nat.add_comm 1 i, List.getElem?_eq_getElem h']
  · rw [dif_neg h', List.getElem?_append_right (by rw [List.length_drop]; omega), List.length_drop]
    have e : i - (r.length - 1) = 0 := by omega
    rw [e]
    cases r with
    | nil => exact absurd h (by simp)
    | cons x r => simp
theorem places_length (H : Nat) (r : List Nat) : (places H r).length = r.length := by
  unfold places
  rw [List.length_map, List.length_zip, rot_length]
  omega
def nxt (r : List Nat) (i : Nat) (h : i < r.length) : Nat := if h' : i + 1 < r.length then r[i + 1] else r[0]'(by omega)
theorem places_get {H : Nat} {r : List Nat} (i : Nat) (h : i < r.length) : (places H r)[i]? = some (place H r[i] (nxt r i h)) := by
  unfold places nxt
  rw [List.getElem?_map]
  have : (r.zip (rot r))[i]? = some (r[i], if h' : i + 1 < r.length then r[i + 1] else r[0]'(by omega)) := by
    rw [List.getElem?_zip_eq_some]
    exact ⟨List.getElem?_eq_getElem h, rot_get i h⟩
  rw [this]
  rfl
section
variable {H W : Nat} {b : Int} {G : Nat → Nat → Int} {r : List Nat}
theorem Ring.adj (R : Ring (Adj H W b G) r) (i : Nat) (h : i < r.length) : Adj H W b G r[i] (nxt r i h) := by
  unfold nxt
  by_cases h' : i + 1 < r.length
  · rw [dif_pos h']; exact R.ch.get i h'
  · rw [dif_neg h']
    have hne : r ≠ [] := fun e => by subst e; simp at h
    have := R.close hne
    rw [List.getLast_eq_getElem, List.head_eq_getElem] at this
    have e : r.length - 1 = i := by omega
    simpa [e] using this
theorem place_adj {l m : Nat} (h : Adj H W b G l m) : (place H l m).1 < H ∧ (place H l m).2 < W ∧ Ls b (G (place H l m).1 (place H l m).2) ∧ ((l = (place H l m).1 ∧ m = (place H l m).2 + H) ∨ (m = (place H l m).1 ∧ l = (place H l m).2 + H)) := by
  unfold place
  rcases h with ⟨h1, h2, h3, h4⟩ | ⟨h1, h2, h3, h4⟩
  · have e1 : min l m = l := by omega
    have e2 : max l m = m := by omega
    show min l m < H ∧ max l m - H < W ∧ Ls b (G (min l m) (max l m - H)) ∧ _
    rw [e1, e2]
    exact ⟨h1, by omega, h4, .inl ⟨rfl, by omega⟩⟩
  · have e1 : min l m = m := by omega
    have e2 : max l m = l := by omega
    show min l m < H ∧ max l m - H < W ∧ Ls b (G (min l m) (max l m - H)) ∧ _
    rw [e1, e2]
    exact ⟨h1, by omega, h4, .inr ⟨rfl, by omega⟩⟩
theorem get_inj (nd : r.Nodup) {i j : Nat} (hi : i < r.length) (hj : j < r.length) (e : r[i] = r[j]) : i = j := (List.getElem_inj nd).mp e
theorem Ring.place_inj (R : Ring (Adj H W b G) r) {i j : Nat} (hi : i < r.length) (hj : j < r.length) (e : place H r[i] (nxt r i hi) = place H r[j] (nxt r j hj)) : i = j := by
  obtain ⟨_, _, _, a⟩ := place_adj (R.adj i hi)
  obtain ⟨_, _, _, c⟩ := place_adj (R.adj j hj)
  rw [e] at a
  have hl := R.len
  have key : r[i] = r[j] ∨ (r[i] = nxt r j hj ∧ r[j] = nxt r i hi) := by
    rcases a with ⟨a1, a2⟩ | ⟨a1, a2⟩ <;> rcases c with ⟨c1, c2⟩ | ⟨c1, c2⟩
    · exact .inl (a1.trans c1.symm)
    · exact .inr ⟨a1.trans c1.symm, c2.trans a2.symm⟩
    · exact .inr ⟨a2.trans c2.symm, c1.trans a1.symm⟩
    · exact .inl (a2.trans c2.symm)
  rcases key with k | ⟨k1, k2⟩
  · exact get_inj R.nd hi hj k
  · exfalso
    unfold nxt at k1 k2
    by_cases h1 : j + 1 < r.length
    · rw [dif_pos h1] at k1
      have e1 := get_inj R.nd hi h1 k1
      by_cases h2 : i + 1 < r.length
      · rw [dif_pos h2] at k2
        have e2 := get_inj R.nd hj h2 k2
        omega
      · rw [dif_neg h2] at k2
        have e2 := get_inj R.nd hj (by omega) k2
        omega
    · rw [dif_neg h1] at k1
      have e1 := get_inj R.nd hi (by omega) k1
      by_cases h2 : i + 1 < r.length
      · rw [dif_pos h2] at k2
        have e2 := get_inj R.nd hj h2 k2
        omega
      · rw [dif_neg h2] at k2
        have e2 := get_inj R.nd hj (by omega) k2
        omega
theorem Ring.places_nodup (R : Ring (Adj H W b G) r) : (places H r).Nodup := by
  refine List.pairwise_iff_getElem.mpr fun i j hi hj hij e => ?_
  rw [places_length] at hi hj
  have e1 := places_get (H := H) i hi
  have e2 := places_get (H := H) j hj
  rw [List.getElem?_eq_getElem (by rw [places_length]; exact hi)] at e1
  rw [List.getElem?_eq_getElem (by rw [places_length]; exact hj)] at e2
  have := R.place_inj hi hj ((Option.some.inj e1).symm.trans (e.trans (Option.some.inj e2)))
  omega
theorem Ring.places_loose (R : Ring (Adj H W b G) r) {p : Nat × Nat} (h : p ∈ places H r) : p.1 < H ∧ p.2 < W ∧ Ls b (G p.1 p.2) := by
  obtain ⟨i, hi, e⟩ := List.mem_iff_getElem.mp h
  rw [places_length] at hi
  have e' : (places H r)[i]? = some p := by rw [List.getElem?_eq_getElem (by rw [places_length]; exact hi), e]
  rw [places_get i hi] at e'
  have e'' := Option.some.inj e'
  obtain ⟨h1, h2, h3, _⟩ := place_adj (R.adj i hi)
  rw [← e'']
  exact ⟨h1, h2, h3⟩
theorem side_alt {A : Nat → Nat → Prop} {S : Nat → Bool} (hs : ∀ x y, A x y → S y = !S x) : ∀ {r : List Nat}, Ch A r → ∀ (i : Nat) (hi : i < r.length) (h0 : 0 < r.length), S r[i] = (if i % 2 = 0 then S r[0] else !S r[0])
  | r, c, 0, hi, h0 => by simp
  | r, c, i + 1, hi, h0 => by
    have ih := side_alt hs c i (by omega) h0
    have st := hs _ _ (c.get i hi)
    rw [st, ih]
    by_cases h : i % 2 = 0
    · rw [if_pos h, if_neg (by omega)]
    · rw [if_neg h, if_pos (by omega)]; simp
theorem Ring.even (R : Ring (Adj H W b G) r) : r.length % 2 = 0 := by
  have hl := R.len
  have hs : ∀ x y, Adj H W b G x y → decide (y < H) = !decide (x < H) := fun x y h => by
    have := h.side
    by_cases hx : x < H
    · have hy : ¬ y < H := this.mp hx
      rw [decide_eq_true hx, decide_eq_false hy]; rfl
    · have hy : y < H := by
        by_cases hy : y < H
        · exact hy
        · exact absurd (this.mpr hy) hx
      rw [decide_eq_false hx, decide_eq_true hy]; rfl
  have h1 := side_alt (S := fun x => decide (x < H)) hs R.ch (r.length - 1) (by omega) (by omega)
  have h2 := hs _ _ (R.adj (r.length - 1) (by omega))
  have e : nxt r (r.length - 1) (by omega) = r[0]'(by omega) := by
    unfold nxt
    rw [dif_neg (by omega)]
  rw [e] at h2
  have h1' : decide (r[r.length - 1]'(by omega) < H) = (if (r.length - 1) % 2 = 0 then decide (r[0]'(by omega) < H) else !decide (r[0]'(by omega) < H)) := h1
  rw [h1'] at h2
  by_cases h : (r.length - 1) % 2 = 0
  · rw [if_pos h] at h2
    cases hb : decide (r[0]'(by omega) < H) <;> rw [hb] at h2 <;> cases h2
  · omega
end
def evs {α : Type} : List α → List α
  | [] => []
  | [x] => [x]
  | x :: _ :: r => x :: evs r
def ods {α : Type} : List α → List α
  | [] => []
  | [_] => []
  | _ :: y :: r => y :: ods r
theorem evs_sub {α : Type} : ∀ (l : List α), (evs l).Sublist l
  | [] => .slnil
  | [x] => List.Sublist.refl _
  | x :: y :: r => ((evs_sub r).cons y).cons_cons x
theorem ods_sub {α : Type} : ∀ (l : List α), (ods l).Sublist l
  | [] => .slnil
  | [x] => .cons x .slnil
  | x :: y :: r => ((ods_sub r).cons_cons y).cons x
theorem mem_evs_ods {α : Type} {x : α} : ∀ {l : List α}, x ∈ l → x ∈ evs l ∨ x ∈ ods l
  | [y], h => .inl h
  | y :: z :: r, h => by
    rcases List.mem_cons.mp h with e | h
    · exact .inl (by rw [e]; exact List.mem_cons_self)
    · rcases List.mem_cons.mp h with e | h
      · exact .inr (by rw [e]; exact List.mem_cons_self)
      · rcases mem_evs_ods h with q | q
        · exact .inl (List.mem_cons_of_mem _ q)
        · exact .inr (List.mem_cons_of_mem _ q)
theorem evs_ods_apart {α : Type} {x : α} : ∀ {l : List α}, l.Nodup → x ∈ evs l → x ∈ ods l → False
  | [], _, h, _ => by cases h
  | [y], _, _, h => by cases h
  | y :: z :: r, nd, h1, h2 => by
    obtain ⟨n1, nd⟩ := List.nodup_cons.mp nd
    obtain ⟨n2, nd⟩ := List.nodup_cons.mp nd
    rcases List.mem_cons.mp h1 with e1 | k1
    · rcases List.mem_cons.mp h2 with e2 | k2
      · exact n1 (by rw [← e1, e2]; exact List.mem_cons_self)
      · exact n1 (by rw [← e1]; exact List.mem_cons_of_mem _ ((ods_sub r).mem k2))
    · rcases List.mem_cons.mp h2 with e2 | k2
      · exact n2 (by rw [← e2]; exact (evs_sub r).mem k1)
      · exact evs_ods_apart nd k1 k2
def alt : List Int → Int
  | [] => 0
  | x :: r => x - alt r
def sumL : List Int → Int
  | [] => 0
  | x :: r => x + sumL r
theorem alt_evs_ods : ∀ (l : List Int), alt l = sumL (evs l) - sumL (ods l)
  | [] => rfl
  | [x] => by simp [alt, evs, ods, sumL]
  | x :: y :: r => by
    show x - (y - alt r) = (x + sumL (evs r)) - (y + sumL (ods r))
    rw [alt_evs_ods r]; omega
theorem evs_map {α β : Type} (f : α → β) : ∀ (l : List α), evs (l.map f) = (evs l).map f
  | [] => rfl
  | [x] => rfl
  | x :: y :: r => by
    show f x :: evs (r.map f) = f x :: (evs r).map f
    rw [evs_map f r]
theorem ods_map {α β : Type} (f : α → β) : ∀ (l : List α), ods (l.map f) = (ods l).map f
  | [] => rfl
  | [x] => rfl
  | x :: y :: r => by
    show f y :: ods (r.map f) = f y :: (ods r).map f
    rw [ods_map f r]
theorem alt_append (x : Int) : ∀ (l : List Int), alt (l ++ [x]) = alt l + (if l.length % 2 = 0 then x else -x)
  | [] => by simp [alt]
  | y :: r => by
    show y - alt (r ++ [x]) = y - alt r + _
    rw [alt_append x r, List.length_cons]
    by_cases h : r.length % 2 = 0
    · rw [if_pos h, if_neg (by omega)]; omega
    · rw [if_neg h, if_pos (by omega)]; omega
theorem alt_zip (f g : Nat → Int) : ∀ (l m : List Nat), l.length = m.length → alt ((l.zip m).map fun p => f p.1 + g p.2) = alt (l.map f) + alt (m.map g)
  | [], [], _ => rfl
  | x :: l, y :: m, h => by
    show (f x + g y) - alt ((l.zip m).map fun p => f p.1 + g p.2) = (f x - alt (l.map f)) + (g y - alt (m.map g))
    rw [alt_zip f g l m (by simpa using h)]; omega
  | [], _ :: _, h => by cases h
  | _ :: _, [], h => by cases h
theorem alt_rot (f : Nat → Int) (r : List Nat) (h : r.length % 2 = 0) : alt ((rot r).map f) = - alt (r.map f) := by
  cases r with
  | nil => rfl
  | cons x r =>
    show alt ((r ++ [x]).map f) = -(f x - alt (r.map f))
    rw [List.map_append]
    show alt (r.map f ++ [f x]) = _
    rw [alt_append, List.length_map]
    rw [List.length_cons] at h
    rw [if_neg (by omega)]; omega
theorem alt_row {H W : Nat} {b : Int} {G : Nat → Nat → Int} {r : List Nat} (R : Ring (Adj H W b G) r) (i : Nat) (hi : i < H) : alt ((places H r).map fun p => if p.1 = i then 1 else 0) = 0 := by
  have e : (places H r).map (fun p => if p.1 = i then (1 : Int) else 0) = (r.zip (rot r)).map fun p => (if p.1 = i then 1 else 0) + (if p.2 = i then 1 else 0) := by
    unfold places
    rw [List.map_map]
    refine List.map_congr_left fun q hq => ?_
    obtain ⟨t, ht, e⟩ := List.mem_iff_getElem.mp hq
    have ht' : t < r.length := by rw [List.length_zip, rot_length] at ht; omega
    have e' : (r.zip (rot r))[t]? = some q := by rw [List.getElem?_eq_getElem ht, e]
    rw [List.getElem?_zip_eq_some] at e'
    obtain ⟨e1, e2⟩ := e'
    rw [rot_get t ht'] at e2
    rw [List.getElem?_eq_getElem ht'] at e1
    have ea := R.adj t ht'
    have q1 : q.1 = r[t] := (Option.some.inj e1).symm
    have q2 : q.2 = nxt r t ht' := (Option.some.inj e2).symm
    rw [← q1, ← q2] at ea
    show (if (place H q.1 q.2).1 = i then (1 : Int) else 0) = _
    unfold place
    rcases ea with ⟨h1, h2, _⟩ | ⟨h1, h2, _⟩
    · have : min q.1 q.2 = q.1 := by omega
      rw [this, if_neg (show ¬ q.2 = i by omega)]; omega
    · have : min q.1 q.2 = q.2 := by omega
      rw [this, if_neg (show ¬ q.1 = i by omega)]; omega
  rw [e, alt_zip (fun x => if x = i then 1 else 0) (fun x => if x = i then 1 else 0) r (rot r) (rot_length r).symm, alt_rot _ r R.even]
  omega
theorem alt_col {H W : Nat} {b : Int} {G : Nat → Nat → Int} {r : List Nat} (R : Ring (Adj H W b G) r) (j : Nat) : alt ((places H r).map fun p => if p.2 = j then 1 else 0) = 0 := by
  have e : (places H r).map (fun p => if p.2 = j then (1 : Int) else 0) = (r.zip (rot r)).map fun p => (if p.1 = j + H then 1 else 0) + (if p.2 = j + H then 1 else 0) := by
    unfold places
    rw [List.map_map]
    refine List.map_congr_left fun q hq => ?_
    obtain ⟨t, ht, e⟩ := List.mem_iff_getElem.mp hq
    have ht' : t < r.length := by rw [List.length_zip, rot_length] at ht; omega
    have e' : (r.zip (rot r))[t]? = some q := by rw [List.getElem?_eq_getElem ht, e]
    rw [List.getElem?_zip_eq_some] at e'
    obtain ⟨e1, e2⟩ := e'
    rw [rot_get t ht'] at e2
    rw [List.getElem?_eq_getElem ht'] at e1
    have ea := R.adj t ht'
    have q1 : q.1 = r[t] := (Option.some.inj e1).symm
    have q2 : q.2 = nxt r t ht' := (Option.some.inj e2).symm
    rw [← q1, ← q2] at ea
    show (if (place H q.1 q.2).2 = j then (1 : Int) else 0) = _
    unfold place
    rcases ea with ⟨h1, h2, _⟩ | ⟨h1, h2, _⟩
    · have : max q.1 q.2 = q.2 := by omega
      show (if max q.1 q.2 - H = j then (1 : Int) else 0) = _
      rw [this, if_neg (show ¬ q.1 = j + H by omega)]
      by_cases hq2 : q.2 = j + H
      · rw [if_pos (by omega), if_pos hq2]; rfl
      · rw [if_neg (by omega), if_neg hq2]; rfl
    · have : max q.1 q.2 = q.1 := by omega
      show (if max q.1 q.2 - H = j then (1 : Int) else 0) = _
      rw [this, if_neg (show ¬ q.2 = j + H by omega)]
      by_cases hq2 : q.1 = j + H
      · rw [if_pos (by omega), if_pos hq2]; rfl
      · rw [if_neg (by omega), if_neg hq2]; rfl
  rw [e, alt_zip (fun x => if x = j + H then 1 else 0) (fun x => if x = j + H then 1 else 0) r (rot r) (rot_length r).symm, alt_rot _ r R.even]
  omega
def add (G : Nat → Nat → Int) (ps : List (Nat × Nat)) (c : Int) : Nat → Nat → Int := fun i j => G i j + c * sumL (ps.map fun p => if p = (i, j) then 1 else 0)
theorem sumL_map_zero {α : Type} {f : α → Int} : ∀ {l : List α}, (∀ x ∈ l, f x = 0) → sumL (l.map f) = 0
  | [], _ => rfl
  | x :: l, h => by
    show f x + sumL (l.map f) = 0
    rw [h x List.mem_cons_self, sumL_map_zero fun y hy => h y (List.mem_cons_of_mem _ hy)]; rfl
theorem hit_out {ps : List (Nat × Nat)} {i j : Nat} (h : (i, j) ∉ ps) : sumL (ps.map fun p => if p = (i, j) then 1 else 0) = 0 :=
  sumL_map_zero fun p hp => if_neg fun e => h (by rw [← e]; exact hp)
theorem hit_in : ∀ {ps : List (Nat × Nat)} {i j : Nat}, ps.Nodup → (i, j) ∈ ps → sumL (ps.map fun p => if p = (i, j) then 1 else 0) = 1
  | p :: r, i, j, nd, h => by
    obtain ⟨n1, nd⟩ := List.nodup_cons.mp nd
    show (if p = (i, j) then (1 : Int) else 0) + sumL (r.map fun p => if p = (i, j) then 1 else 0) = 1
    rcases List.mem_cons.mp h with e | h
    · rw [if_pos e.symm, hit_out (by rw [e]; exact n1)]; rfl
    · rw [if_neg (fun e => n1 (by rw [e]; exact h)), hit_in nd h]; rfl
def shift (G : Nat → Nat → Int) (ps : List (Nat × Nat)) (c : Int) : Nat → Nat → Int := add (add G (evs ps) c) (ods ps) (-c)
theorem shift_val (G : Nat → Nat → Int) (ps : List (Nat × Nat)) (c : Int) (i j : Nat) : shift G ps c i j = G i j + c * alt (ps.map fun p => if p = (i, j) then 1 else 0) := by
  unfold shift add
  rw [alt_evs_ods, evs_map, ods_map, Int.mul_sub, Int.neg_mul]
  omega
theorem sumN_alt (f : Nat → (Nat × Nat) → Int) (n : Nat) : ∀ (ps : List (Nat × Nat)), sumN (fun j => alt (ps.map (f j))) n = alt (ps.map fun p => sumN (fun j => f j p) n)
  | [] => by
    show sumN (fun _ => 0) n = 0
    exact sumN_zero n
  | p :: r => by
    show sumN (fun j => f j p - alt (r.map (f j))) n = sumN (fun j => f j p) n - alt (r.map fun p => sumN (fun j => f j p) n)
    rw [← sumN_alt f n r]
    have e : ∀ m, sumN (fun j => f j p - alt (r.map (f j))) m = sumN (fun j => f j p) m - sumN (fun j => alt (r.map (f j))) m := by
      intro m
      induction m with
      | zero => rfl
      | succ m ih =>
        show sumN (fun j => f j p - alt (r.map (f j))) m + (f m p - alt (r.map (f m))) = (sumN (fun j => f j p) m + f m p) - (sumN (fun j => alt (r.map (f j))) m + alt (r.map (f m)))
        rw [ih]; omega
    exact e n
section
variable {H W : Nat} {b : Int} {G : Nat → Nat → Int} {r : List Nat}
theorem shift_zero (z : Zero H W G) (R : Ring (Adj H W b G) r) (c : Int) : Zero H W (shift G (places H r) c) where
  rows := fun i hi => by
    rw [sumN_congr (g := fun j => G i j + c * alt ((places H r).map fun p => if p = (i, j) then 1 else 0)) fun j _ => shift_val _ _ _ _ _, sumN_add, sumN_mul, z.rows i hi, sumN_alt (fun j p => if p = (i, j) then 1 else 0)]
    have e : (places H r).map (fun p => sumN (fun j => if p = (i, j) then (1 : Int) else 0) W) = (places H r).map fun p => if p.1 = i then 1 else 0 := by
      refine List.map_congr_left fun p hp => ?_
      obtain ⟨_, hw, _⟩ := R.places_loose hp
      by_cases h1 : p.1 = i
      · rw [if_pos h1, sumN_congr (g := fun j => if j = p.2 then 1 else 0) fun j _ => ?_, sumN_ite, if_pos hw]
        by_cases h2 : j = p.2
        · rw [if_pos h2, if_pos (by rw [h2, ← h1])]
        · rw [if_neg h2, if_neg (fun e => h2 (by rw [e]))]
      · rw [if_neg h1, sumN_congr (g := fun _ => 0) fun j _ => if_neg fun e => h1 (by rw [e]), sumN_zero]
    rw [e, alt_row R i hi]
    omega
  cols := fun j hj => by
    rw [sumN_congr (g := fun i => G i j + c * alt ((places H r).map fun p => if p = (i, j) then 1 else 0)) fun i _ => shift_val _ _ _ _ _, sumN_add, sumN_mul, z.cols j hj, sumN_alt (fun i p => if p = (i, j) then 1 else 0)]
    have e : (places H r).map (fun p => sumN (fun i => if p = (i, j) then (1 : Int) else 0) H) = (places H r).map fun p => if p.2 = j then 1 else 0 := by
      refine List.map_congr_left fun p hp => ?_
      obtain ⟨hh, _, _⟩ := R.places_loose hp
      by_cases h1 : p.2 = j
      · rw [if_pos h1, sumN_congr (g := fun i => if i = p.1 then 1 else 0) fun i _ => ?_, sumN_ite, if_pos hh]
        by_cases h2 : i = p.1
        · rw [if_pos h2, if_pos (by rw [h2, ← h1])]
        · rw [if_neg h2, if_neg (fun e => h2 (by rw [e]))]
      · rw [if_neg h1, sumN_congr (g := fun _ => 0) fun i _ => if_neg fun e => h1 (by rw [e]), sumN_zero]
    rw [e, alt_col R j]
    omega
theorem shift_at (R : Ring (Adj H W b G) r) (c : Int) (i j : Nat) : (((i, j) ∈ evs (places H r) ∧ shift G (places H r) c i j = G i j + c) ∨ ((i, j) ∈ ods (places H r) ∧ shift G (places H r) c i j = G i j - c)) ∨ ((i, j) ∉ places H r ∧ shift G (places H r) c i j = G i j) := by
  have nd := R.places_nodup
  have e : shift G (places H r) c i j = (G i j + c * sumL ((evs (places H r)).map fun p => if p = (i, j) then 1 else 0)) + (-c) * sumL ((ods (places H r)).map fun p => if p = (i, j) then 1 else 0) := rfl
  by_cases h1 : (i, j) ∈ evs (places H r)
  · have h2 : (i, j) ∉ ods (places H r) := fun h => evs_ods_apart nd h1 h
    rw [hit_in (nd.sublist (evs_sub _)) h1, hit_out h2] at e
    exact .inl (.inl ⟨h1, by omega⟩)
  · by_cases h2 : (i, j) ∈ ods (places H r)
    · rw [hit_out h1, hit_in (nd.sublist (ods_sub _)) h2] at e
      exact .inl (.inr ⟨h2, by omega⟩)
    · rw [hit_out h1, hit_out h2] at e
      exact .inr ⟨fun h => (mem_evs_ods h).elim h1 h2, by omega⟩
end
def In (b v0 v : Int) : Prop := ∃ q : Int, b * q ≤ v0 ∧ v0 ≤ b * q + b ∧ b * q ≤ v ∧ v ≤ b * q + b ∧ (v0 % b = 0 → v = v0)
theorem In.refl {b : Int} (hb : 0 < b) (v : Int) : In b v v := by
  have h1 := Int.mul_ediv_add_emod v b
  have h2 := Int.emod_nonneg v (show b ≠ 0 by omega)
  have h3 := Int.emod_lt_of_pos v hb
  exact ⟨v / b, by omega, by omega, by omega, by omega, fun _ => rfl⟩
theorem loose_rest {b v q : Int} (hb : 0 < b) (h1 : b * q ≤ v) (h2 : v ≤ b * q + b) (hl : Ls b v) : v % b = v - b * q ∧ b * q < v ∧ v < b * q + b := by
  have hne : v ≠ b * q := fun e => hl (by rw [e]; exact Int.mul_emod_right b q)
  have hne2 : v ≠ b * q + b := fun e => hl (by rw [e, show b * q + b = b * (q + 1) by rw [Int.mul_add]; omega]; exact Int.mul_emod_right b (q + 1))
  refine ⟨?_, by omega, by omega⟩
  have e : v = (v - b * q) + b * q := by omega
  rw [e, Int.add_mul_emod_self_left, Int.emod_eq_of_lt (by omega) (by omega)]
  omega
theorem In.up {b v0 v c : Int} (hb : 0 < b) (h : In b v0 v) (hl : Ls b v) (h0 : 0 ≤ c) (hc : c ≤ b - v % b) : In b v0 (v + c) := by
  obtain ⟨q, h1, h2, h3, h4, h5⟩ := h
  obtain ⟨e, l1, l2⟩ := loose_rest hb h3 h4 hl
  exact ⟨q, h1, h2, by omega, by omega, fun hz => absurd (by rw [h5 hz]; exact hz) hl⟩
theorem In.down {b v0 v c : Int} (hb : 0 < b) (h : In b v0 v) (hl : Ls b v) (h0 : 0 ≤ c) (hc : c ≤ v % b) : In b v0 (v - c) := by
  obtain ⟨q, h1, h2, h3, h4, h5⟩ := h
  obtain ⟨e, l1, l2⟩ := loose_rest hb h3 h4 hl
  exact ⟨q, h1, h2, by omega, by omega, fun hz => absurd (by rw [h5 hz]; exact hz) hl⟩
theorem up_whole {b v : Int} (hb : 0 < b) : (v + (b - v % b)) % b = 0 := by
  have h1 := Int.mul_ediv_add_emod v b
  have e : v + (b - v % b) = b * (v / b + 1) := by rw [Int.mul_add]; omega
  rw [e]
  exact Int.mul_emod_right b _
theorem down_whole {b v : Int} : (v - v % b) % b = 0 := by
  have h1 := Int.mul_ediv_add_emod v b
  have e : v - v % b = b * (v / b) := by omega
  rw [e]
  exact Int.mul_emod_right b _
theorem In.near {b v0 v : Int} (hb : 0 < b) (h : In b v0 v) (hv : v % b = 0) : -b < v - v0 ∧ v - v0 < b := by
  obtain ⟨q, h1, h2, h3, h4, h5⟩ := h
  by_cases hz : v0 % b = 0
  · rw [h5 hz]; omega
  · obtain ⟨_, l1, l2⟩ := loose_rest hb h1 h2 hz
    omega
def cN (p : Nat → Nat) : Nat → Nat
  | 0 => 0
  | n + 1 => cN p n + p n
theorem cN_le {p q : Nat → Nat} : ∀ {n : Nat}, (∀ i, i < n → p i ≤ q i) → cN p n ≤ cN q n
  | 0, _ => Nat.le_refl _
  | n + 1, h => Nat.add_le_add (cN_le fun i hi => h i (by omega)) (h n (by omega))
theorem cN_lt {p q : Nat → Nat} {k : Nat} : ∀ {n : Nat}, (∀ i, i < n → p i ≤ q i) → k < n → p k < q k → cN p n < cN q n
  | n + 1, h, hk, hl => by
    show cN p n + p n < cN q n + q n
    by_cases e : k = n
    · subst e
      have := cN_le (p := p) (q := q) (n := k) fun i hi => h i (by omega)
      omega
    · have := cN_lt (n := n) (fun i hi => h i (by omega)) (by omega) hl
      have := h n (by omega)
      omega
def ind (b v : Int) : Nat := if Ls b v then 1 else 0
def cnt (H W : Nat) (b : Int) (G : Nat → Nat → Int) : Nat := cN (fun i => cN (fun j => ind b (G i j)) W) H
theorem ind_le {b v v' : Int} (h : Ls b v' → Ls b v) : ind b v' ≤ ind b v := by
  unfold ind
  by_cases h1 : Ls b v'
  · rw [if_pos h1, if_pos (h h1)]; exact Nat.le_refl _
  · rw [if_neg h1]; exact Nat.zero_le _
theorem cnt_lt {H W : Nat} {b : Int} {G G' : Nat → Nat → Int} (h : ∀ i j, i < H → j < W → Ls b (G' i j) → Ls b (G i j)) {i j : Nat} (hi : i < H) (hj : j < W) (h1 : Ls b (G i j)) (h2 : ¬ Ls b (G' i j)) : cnt H W b G' < cnt H W b G := by
  refine cN_lt (fun i' hi' => cN_le fun j' hj' => ind_le (h i' j' hi' hj')) hi (cN_lt (fun j' hj' => ind_le (h i j' hi hj')) hj ?_)
  unfold ind
  rw [if_pos h1, if_neg h2]
  decide
structure Fit (H W : Nat) (b : Int) (G0 G : Nat → Nat → Int) : Prop where
  zero : Zero H W G
  near : ∀ i j, i < H → j < W → In b (G0 i j) (G i j)
theorem step {H W : Nat} {b : Int} {G0 G : Nat → Nat → Int} {r : List Nat} {c : Int} (hb : 0 < b) (F : Fit H W b G0 G) (R : Ring (Adj H W b G) r)
    (h1 : ∀ p ∈ evs (places H r), c ≤ b - G p.1 p.2 % b) (h2 : ∀ p ∈ ods (places H r), c ≤ G p.1 p.2 % b) (hm : (∃ p ∈ evs (places H r), c = b - G p.1 p.2 % b) ∨ (∃ p ∈ ods (places H r), c = G p.1 p.2 % b)) :
    Fit H W b G0 (shift G (places H r) c) ∧ (∀ i j, i < H → j < W → Ls b (shift G (places H r) c i j) → Ls b (G i j)) ∧ cnt H W b (shift G (places H r) c) < cnt H W b G := by
  have hc : 0 ≤ c := by
    rcases hm with ⟨p, _, e⟩ | ⟨p, _, e⟩
    · have := Int.emod_lt_of_pos (G p.1 p.2) hb; omega
    · have := Int.emod_nonneg (G p.1 p.2) (show b ≠ 0 by omega); omega
  have le : ∀ i j, (i, j) ∈ evs (places H r) → Ls b (G i j) := fun i j h => (R.places_loose ((evs_sub _).mem h)).2.2
  have lo : ∀ i j, (i, j) ∈ ods (places H r) → Ls b (G i j) := fun i j h => (R.places_loose ((ods_sub _).mem h)).2.2
  have sub : ∀ i j, i < H → j < W → Ls b (shift G (places H r) c i j) → Ls b (G i j) := fun i j _ _ h => by
    rcases shift_at R c i j with (⟨hm, _⟩ | ⟨hm, _⟩) | ⟨_, e⟩
    · exact le i j hm
    · exact lo i j hm
    · rw [e] at h; exact h
  refine ⟨⟨shift_zero F.zero R c, fun i j hi hj => ?_⟩, sub, ?_⟩
  · rcases shift_at R c i j with (⟨hm, e⟩ | ⟨hm, e⟩) | ⟨_, e⟩
    · rw [e]; exact (F.near i j hi hj).up hb (le i j hm) hc (h1 _ hm)
    · rw [e]; exact (F.near i j hi hj).down hb (lo i j hm) hc (h2 _ hm)
    · rw [e]; exact F.near i j hi hj
  · rcases hm with ⟨p, hp, e⟩ | ⟨p, hp, e⟩
    · obtain ⟨q1, q2, q3⟩ := R.places_loose ((evs_sub _).mem hp)
      refine cnt_lt sub q1 q2 q3 fun hl => hl ?_
      rcases shift_at R c p.1 p.2 with (⟨_, e2⟩ | ⟨hm, _⟩) | ⟨hm, _⟩
      · rw [e2, e]; exact up_whole hb
      · exact (evs_ods_apart R.places_nodup hp hm).elim
      · exact absurd ((evs_sub _).mem hp) hm
    · obtain ⟨q1, q2, q3⟩ := R.places_loose ((ods_sub _).mem hp)
      refine cnt_lt sub q1 q2 q3 fun hl => hl ?_
      rcases shift_at R c p.1 p.2 with (⟨hm, _⟩ | ⟨_, e2⟩) | ⟨hm, _⟩
      · exact (evs_ods_apart R.places_nodup hm hp).elim
      · rw [e2, e]; exact down_whole
      · exact absurd ((ods_sub _).mem hp) hm
theorem last_row {H W : Nat} {b : Int} {G : Nat → Nat → Int} (z : Zero (H + 1) W G) (h : ∀ i j, i < H → j < W → ¬ Ls b (G i j)) : ∀ i j, i < H + 1 → j < W → ¬ Ls b (G i j) := fun i j hi hj hl => by
  by_cases he : i < H
  · exact h i j he hj hl
  · have e : i = H := by omega
    subst e
    obtain ⟨m', hm, hne⟩ := another (b := b) z (l := i + 1 + j) (m := i) (.inr ⟨by omega, by omega, by omega, by rw [show i + 1 + j - (i + 1) = j by omega]; exact hl⟩)
    rcases hm with ⟨h1, _⟩ | ⟨h1, h2, h3, h4⟩
    · omega
    · rw [show i + 1 + j - (i + 1) = j by omega] at h4
      exact h m' j (by omega) hj h4
theorem sumN_div {b : Int} {f : Nat → Int} : ∀ {n : Nat}, (∀ i, i < n → f i % b = 0) → sumN (fun i => f i / b) n * b = sumN f n
  | 0, _ => by simp [sumN]
  | n + 1, h => by
    show (sumN (fun i => f i / b) n + f n / b) * b = sumN f n + f n
    rw [Int.add_mul, sumN_div fun i hi => h i (by omega), Int.ediv_mul_cancel (Int.dvd_of_emod_eq_zero (h n (by omega)))]
theorem sumN_neg (f : Nat → Int) : ∀ n, sumN (fun i => - f i) n = - sumN f n
  | 0 => rfl
  | n + 1 => by
    show sumN (fun i => - f i) n + - f n = -(sumN f n + f n)
    rw [sumN_neg f n]; omega
structure Told (h w : Nat) (b : Int) (T N : Nat → Nat → Int) : Prop where
  each : ∀ i j, i < h → j < w → -b < N i j * b - T i j ∧ N i j * b - T i j < b
  row : ∀ i, i < h → -b < sumN (fun j => N i j) w * b - sumN (fun j => T i j) w ∧ sumN (fun j => N i j) w * b - sumN (fun j => T i j) w < b
  col : ∀ j, j < w → -b < sumN (fun i => N i j) h * b - sumN (fun i => T i j) h ∧ sumN (fun i => N i j) h * b - sumN (fun i => T i j) h < b
  all : -b < sumN (fun i => sumN (fun j => N i j) w) h * b - sumN (fun i => sumN (fun j => T i j) w) h ∧ sumN (fun i => sumN (fun j => N i j) w) h * b - sumN (fun i => sumN (fun j => T i j) w) h < b
structure Wide (h w : Nat) (T G0 : Nat → Nat → Int) : Prop where
  inner : ∀ i j, i < h → j < w → G0 i j = T i j
  row : ∀ i, i < h → G0 i w = - sumN (fun j => T i j) w
  col : ∀ j, j < w → G0 h j = - sumN (fun i => T i j) h
  all : G0 h w = sumN (fun i => sumN (fun j => T i j) w) h
theorem Wide.zero {h w : Nat} {T G0 : Nat → Nat → Int} (x : Wide h w T G0) : Zero (h + 1) (w + 1) G0 where
  rows := fun i hi => by
    show sumN (fun j => G0 i j) w + G0 i w = 0
    by_cases he : i < h
    · rw [x.row i he, sumN_congr (g := fun j => T i j) fun j hj => x.inner i j he hj]; omega
    · have e : i = h := by omega
      subst e
      rw [x.all, sumN_congr (g := fun j => - sumN (fun i => T i j) i) fun j hj => x.col j hj, sumN_neg, sumN_swap]; omega
  cols := fun j hj => by
    show sumN (fun i => G0 i j) h + G0 h j = 0
    by_cases he : j < w
    · rw [x.col j he, sumN_congr (g := fun i => T i j) fun i hi => x.inner i j hi he]; omega
    · have e : j = w := by omega
      subst e
      rw [x.all, sumN_congr (g := fun i => - sumN (fun k => T i k) j) fun i hi => x.row i hi, sumN_neg]; omega
theorem told {h w : Nat} {b : Int} {T G0 G : Nat → Nat → Int} (hb : 0 < b) (x : Wide h w T G0) (F : Fit (h + 1) (w + 1) b G0 G) (hs : ∀ i j, i < h + 1 → j < w + 1 → ¬ Ls b (G i j)) : Told h w b T (fun i j => G i j / b) := by
  have hz : ∀ i j, i < h + 1 → j < w + 1 → G i j % b = 0 := fun i j hi hj => by
    by_cases e : G i j % b = 0
    · exact e
    · exact absurd e (hs i j hi hj)
  have nr : ∀ i j, i < h + 1 → j < w + 1 → -b < G i j - G0 i j ∧ G i j - G0 i j < b := fun i j hi hj => (F.near i j hi hj).near hb (hz i j hi hj)
  have rows : ∀ i, i < h + 1 → sumN (fun j => G i j) w = - G i w := fun i hi => by
    have := F.zero.rows i hi
    have e : sumN (fun j => G i j) w + G i w = 0 := this
    omega
  have cols : ∀ j, j < w + 1 → sumN (fun i => G i j) h = - G h j := fun j hj => by
    have := F.zero.cols j hj
    have e : sumN (fun i => G i j) h + G h j = 0 := this
    omega
  refine ⟨fun i j hi hj => ?_, fun i hi => ?_, fun j hj => ?_, ?_⟩
  · rw [Int.ediv_mul_cancel (Int.dvd_of_emod_eq_zero (hz i j (by omega) (by omega))), ← x.inner i j hi hj]
    exact nr i j (by omega) (by omega)
  · rw [sumN_div fun j hj => hz i j (by omega) (by omega), rows i (by omega)]
    have := nr i w (by omega) (by omega)
    rw [x.row i hi] at this
    omega
  · rw [sumN_div fun i hi => hz i j (by omega) (by omega), cols j (by omega)]
    have := nr h j (by omega) (by omega)
    rw [x.col j hj] at this
    omega
  · have e : sumN (fun i => sumN (fun j => G i j / b) w) h * b = G h w := by
      have e1 : sumN (fun i => sumN (fun j => G i j / b) w) h * b = sumN (fun i => sumN (fun j => G i j / b) w * b) h := by
        rw [Int.mul_comm, ← sumN_mul]
        exact sumN_congr fun i _ => Int.mul_comm _ _
      rw [e1, sumN_congr (g := fun i => - G i w) fun i hi => ?_, sumN_neg, cols w (by omega)]
      · omega
      · rw [sumN_div fun j hj => hz i j (by omega) (by omega), rows i (by omega)]
    rw [e]
    have := nr h w (by omega) (by omega)
    rw [x.all] at this
    exact this
end RG
namespace RG
def gAt (g : List (List Int)) (i j : Nat) : Int := (g.getD i []).getD j 0
structure Rect (g : List (List Int)) (H W : Nat) : Prop where
  tall : g.length = H
  wide : ∀ r ∈ g, r.length = W
theorem Rect.row {g : List (List Int)} {H W : Nat} (x : Rect g H W) {i : Nat} (h : i < H) : (g.getD i []).length = W ∧ g[i]? = some (g.getD i []) := by
  have hi : i < g.length := by rw [x.tall]; exact h
  have e : g[i]? = some g[i] := List.getElem?_eq_getElem hi
  have e2 : g.getD i [] = g[i] := by rw [List.getD_eq_getElem?_getD, e]; rfl
  rw [e2]
  exact ⟨x.wide _ (List.getElem_mem hi), e⟩
theorem gAt_get {g : List (List Int)} {H W : Nat} (x : Rect g H W) {i j : Nat} (h : i < H) (hj : j < W) : (g.getD i [])[j]? = some (gAt g i j) := by
  have hl := (x.row h).1
  unfold gAt
  rw [List.getD_eq_getElem?_getD (l := g.getD i []), List.getElem?_eq_getElem (by rw [hl]; exact hj)]
  rfl
def cross (g : List (List Int)) (b : Int) (l : Nat) : List Nat :=
  if l < g.length then ((((g.getD l []).zipIdx).filter fun p => p.1 % b != 0).map fun p => g.length + p.2)
  else (((g.zipIdx).filter fun p => p.1.getD (l - g.length) 0 % b != 0).map fun p => p.2)
theorem mem_cross {g : List (List Int)} {H W : Nat} {b : Int} (x : Rect g H W) {l m : Nat} (hl : l < H + W) : m ∈ cross g b l ↔ Adj H W b (gAt g) l m := by
  unfold cross
  rw [x.tall]
  by_cases h : l < H
  · rw [if_pos h]
    constructor
    · intro hm
      obtain ⟨p, hp, rfl⟩ := List.mem_map.mp hm
      obtain ⟨h1, h2⟩ := List.mem_filter.mp hp
      obtain ⟨v, k⟩ := p
      have hk := List.mem_zipIdx_iff_getElem?.mp h1
      have hkW : k < W := by have := (List.getElem?_eq_some_iff.mp hk).1; rw [(x.row h).1] at this; exact this
      have e := gAt_get x h hkW
      rw [hk] at e
      refine .inl ⟨h, by omega, by omega, ?_⟩
      rw [show H + k - H = k by omega, ← Option.some.inj e]
      have h2' : (v % b != 0) = true := h2
      exact fun z => by rw [z] at h2'; simp at h2'
    · intro ha
      rcases ha with ⟨_, h2, h3, h4⟩ | ⟨_, h2, _⟩
      · refine List.mem_map.mpr ⟨(gAt g l (m - H), m - H), List.mem_filter.mpr ⟨List.mem_zipIdx_iff_getElem?.mpr (gAt_get x h (by omega)), ?_⟩, by show H + (m - H) = m; omega⟩
        show (gAt g l (m - H) % b != 0) = true
        exact bne_iff_ne.mpr h4
      · omega
  · rw [if_neg h]
    constructor
    · intro hm
      obtain ⟨p, hp, rfl⟩ := List.mem_map.mp hm
      obtain ⟨h1, h2⟩ := List.mem_filter.mp hp
      obtain ⟨r, k⟩ := p
      have hk := List.mem_zipIdx_iff_getElem?.mp h1
      have hkH : k < H := by have := (List.getElem?_eq_some_iff.mp hk).1; rw [x.tall] at this; exact this
      have e := (x.row hkH).2
      rw [hk] at e
      have e' : r = g.getD k [] := Option.some.inj e
      refine .inr ⟨hkH, by omega, hl, ?_⟩
      have h2' : (r.getD (l - H) 0 % b != 0) = true := h2
      rw [e'] at h2'
      exact bne_iff_ne.mp h2'
    · intro ha
      rcases ha with ⟨h1, _⟩ | ⟨h1, h2, h3, h4⟩
      · omega
      · refine List.mem_map.mpr ⟨(g.getD m [], m), List.mem_filter.mpr ⟨List.mem_zipIdx_iff_getElem?.mpr (x.row h1).2, ?_⟩, rfl⟩
        exact bne_iff_ne.mpr h4
def nextL (g : List (List Int)) (b : Int) (prev ahead : Nat) : Nat := ((cross g b ahead).filter fun m => m != prev).headD 0
def ringL (g : List (List Int)) (b : Int) : Nat → List Nat → Nat → List Nat
  | 0, path, _ => path
  | n + 1, path, ahead => if ahead ∈ path then path.drop (path.idxOf ahead) else ringL g b n (path ++ [ahead]) (nextL g b (path.getLastD 0) ahead)
section
variable {g : List (List Int)} {H W : Nat} {b : Int}
theorem getLastD_eq {l : List Nat} (h : l ≠ []) : l.getLastD 0 = l.getLast h := by
  cases l with
  | nil => exact absurd rfl h
  | cons x r => rw [List.getLastD_eq_getLast?, List.getLast?_eq_some_getLast (List.cons_ne_nil x r)]; rfl
theorem next_ok (x : Rect g H W) (z : Zero H W (gAt g)) {prev ahead : Nat} (h : Adj H W b (gAt g) prev ahead) : ((cross g b ahead).filter fun m => m != prev) ≠ [] ∧ Adj H W b (gAt g) ahead (nextL g b prev ahead) ∧ nextL g b prev ahead ≠ prev := by
  obtain ⟨m', hm, hne⟩ := another z h.symm
  have hin : m' ∈ (cross g b ahead).filter fun m => m != prev := List.mem_filter.mpr ⟨(mem_cross x h.symm.lt).mpr hm, bne_iff_ne.mpr hne⟩
  have hnil : ((cross g b ahead).filter fun m => m != prev) ≠ [] := fun e => by rw [e] at hin; cases hin
  refine ⟨hnil, ?_⟩
  have hh : nextL g b prev ahead ∈ (cross g b ahead).filter fun m => m != prev := by
    unfold nextL
    cases e : (cross g b ahead).filter fun m => m != prev with
    | nil => exact absurd e hnil
    | cons y r => exact List.mem_cons_self
  obtain ⟨h1, h2⟩ := List.mem_filter.mp hh
  exact ⟨(mem_cross x h.symm.lt).mp h1, bne_iff_ne.mp h2⟩
theorem walk_next (x : Rect g H W) (z : Zero H W (gAt g)) {path : List Nat} {ahead : Nat} (w : Walk (Adj H W b (gAt g)) (H + W) path ahead) (hn : ahead ∉ path) : Walk (Adj H W b (gAt g)) (H + W) (path ++ [ahead]) (nextL g b (path.getLastD 0) ahead) := by
  rw [getLastD_eq w.ne]
  obtain ⟨_, h2, h3⟩ := next_ok x z w.near
  exact w.go hn w.near.symm.lt h2 h3
theorem ringL_ok (x : Rect g H W) (z : Zero H W (gAt g)) : ∀ (n : Nat) (path : List Nat) (ahead : Nat), Walk (Adj H W b (gAt g)) (H + W) path ahead → H + W < n + path.length → Ring (Adj H W b (gAt g)) (ringL g b n path ahead)
  | 0, path, ahead, w, hn => by
    have := nodup_le w.nd w.lt
    omega
  | n + 1, path, ahead, w, hn => by
    unfold ringL
    by_cases hm : ahead ∈ path
    · rw [if_pos hm]
      exact (w.ring (fun _ _ h => h.ne) hm).1
    · rw [if_neg hm]
      refine ringL_ok x z n _ _ (walk_next x z w hm) ?_
      rw [List.length_append, List.length_singleton]
      omega
theorem walk_start (x : Rect g H W) {row : Nat} (hr : row < H) (hne : cross g b row ≠ []) : Walk (Adj H W b (gAt g)) (H + W) [row] ((cross g b row).headD 0) where
  ne := by simp
  nd := by simp
  ch := trivial
  near := by
    show Adj H W b (gAt g) row _
    cases e : cross g b row with
    | nil => exact absurd e hne
    | cons y r => exact (mem_cross x (by omega)).mp (by rw [e]; exact List.mem_cons_self)
  back := fun pre p q e => by
    have := congrArg List.length e
    simp at this
  lt := fun l h => by
    have : l = row := by simpa using h
    omega
def ringOf (g : List (List Int)) (b : Int) (row n : Nat) : List Nat := ringL g b n [row] ((cross g b row).headD 0)
def setG (g : List (List Int)) (i j : Nat) (v : Int) : List (List Int) := g.set i ((g.getD i []).set j v)
theorem rect_setG (x : Rect g H W) (i j : Nat) (v : Int) (hi : i < H) : Rect (setG g i j v) H W where
  tall := by unfold setG; rw [List.length_set]; exact x.tall
  wide := fun r hr => by
    unfold setG at hr
    rcases List.mem_or_eq_of_mem_set hr with h | h
    · exact x.wide r h
    · rw [h, List.length_set]; exact (x.row hi).1
theorem gAt_setG (x : Rect g H W) {i j : Nat} (v : Int) (hi : i < H) (hj : j < W) (i' j' : Nat) : gAt (setG g i j v) i' j' = if (i, j) = (i', j') then v else gAt g i' j' := by
  have hlen : i < g.length := by rw [x.tall]; exact hi
  unfold gAt setG
  by_cases h1 : i = i'
  · subst h1
    rw [List.getD_eq_getElem?_getD (l := g.set i _), List.getElem?_set_self hlen]
    show ((g.getD i []).set j v).getD j' 0 = _
    by_cases h2 : j = j'
    · subst h2
      rw [if_pos rfl, List.getD_eq_getElem?_getD, List.getElem?_set_self (by rw [(x.row hi).1]; exact hj)]
      rfl
    · rw [if_neg (fun e => h2 (Prod.mk.inj e).2), List.getD_eq_getElem?_getD, List.getElem?_set_ne h2, ← List.getD_eq_getElem?_getD]
  · rw [if_neg (fun e => h1 (Prod.mk.inj e).1), List.getD_eq_getElem?_getD (l := g.set i _), List.getElem?_set_ne h1, ← List.getD_eq_getElem?_getD]
def addG (g : List (List Int)) (p : Nat × Nat) (c : Int) : List (List Int) := setG g p.1 p.2 (gAt g p.1 p.2 + c)
def addsG (g : List (List Int)) : List (Nat × Nat) → Int → List (List Int)
  | [], _ => g
  | p :: r, c => addsG (addG g p c) r c
theorem rect_addsG : ∀ {ps : List (Nat × Nat)} {g : List (List Int)} {c : Int}, Rect g H W → (∀ p ∈ ps, p.1 < H ∧ p.2 < W) → Rect (addsG g ps c) H W
  | [], _, _, x, _ => x
  | p :: r, g, c, x, h => by
    show Rect (addsG (addG g p c) r c) H W
    exact rect_addsG (rect_setG x _ _ _ (h p List.mem_cons_self).1) fun q hq => h q (List.mem_cons_of_mem _ hq)
theorem gAt_addsG : ∀ {ps : List (Nat × Nat)} {g : List (List Int)} {c : Int}, Rect g H W → (∀ p ∈ ps, p.1 < H ∧ p.2 < W) → gAt (addsG g ps c) = add (gAt g) ps c
  | [], g, c, x, _ => by
    funext i j
    show gAt g i j = gAt g i j + c * 0
    omega
  | p :: r, g, c, x, h => by
    obtain ⟨h1, h2⟩ := h p List.mem_cons_self
    have x' : Rect (addG g p c) H W := rect_setG x _ _ _ h1
    show gAt (addsG (addG g p c) r c) = _
    rw [gAt_addsG x' fun q hq => h q (List.mem_cons_of_mem _ hq)]
    funext i j
    show gAt (setG g p.1 p.2 (gAt g p.1 p.2 + c)) i j + c * sumL (r.map fun p => if p = (i, j) then 1 else 0) = gAt g i j + c * ((if p = (i, j) then 1 else 0) + sumL (r.map fun p => if p = (i, j) then 1 else 0))
    rw [gAt_setG x _ h1 h2, Int.mul_add]
    by_cases e : (p.1, p.2) = (i, j)
    · have e' : p = (i, j) := e
      rw [if_pos e, if_pos e']
      rw [e']
      show gAt g i j + c + _ = _
      omega
    · have e' : ¬ p = (i, j) := e
      rw [if_neg e, if_neg e']
      omega
def roomsUp (g : List (List Int)) (b : Int) (ps : List (Nat × Nat)) : List Int := ps.map fun p => b - gAt g p.1 p.2 % b
def roomsDown (g : List (List Int)) (b : Int) (ps : List (Nat × Nat)) : List Int := ps.map fun p => gAt g p.1 p.2 % b
def leastF (x : Int) : List Int → Int
  | [] => x
  | y :: r => leastF (if y < x then y else x) r
def leastL : List Int → Int
  | [] => 0
  | x :: r => leastF x r
theorem leastF_mem : ∀ (l : List Int) (x : Int), leastF x l ∈ x :: l
  | [], x => by simp [leastF]
  | y :: r, x => by
    show leastF (if y < x then y else x) r ∈ _
    have := leastF_mem r (if y < x then y else x)
    rcases List.mem_cons.mp this with e | e
    · rw [e]
      by_cases h : y < x
      · rw [if_pos h]; simp
      · rw [if_neg h]; simp
    · exact List.mem_cons_of_mem _ (List.mem_cons_of_mem _ e)
theorem leastF_le : ∀ (l : List Int) (x : Int) (y : Int), y ∈ x :: l → leastF x l ≤ y
  | [], x, y, h => by
    have : y = x := by simpa using h
    rw [this]; exact Int.le_refl _
  | z :: r, x, y, h => by
    show leastF (if z < x then z else x) r ≤ y
    have hh := leastF_le r (if z < x then z else x) (if z < x then z else x) List.mem_cons_self
    rcases List.mem_cons.mp h with e | h
    · rw [e]
      by_cases hz : z < x
      · rw [if_pos hz] at hh ⊢; omega
      · rw [if_neg hz] at hh ⊢; exact hh
    · rcases List.mem_cons.mp h with e | h
      · rw [e]
        by_cases hz : z < x
        · rw [if_pos hz] at hh ⊢; exact hh
        · rw [if_neg hz] at hh ⊢; omega
      · exact leastF_le r _ y (List.mem_cons_of_mem _ h)
theorem least_mem (l : List Int) (x : Int) : leastL (x :: l) ∈ x :: l := leastF_mem l x
theorem least_le (l : List Int) (x : Int) (y : Int) (h : y ∈ x :: l) : leastL (x :: l) ≤ y := leastF_le l x y h
def amountL (g : List (List Int)) (b : Int) (ps : List (Nat × Nat)) : Int := leastL (roomsUp g b (evs ps) ++ roomsDown g b (ods ps))
def shiftL (g : List (List Int)) (b : Int) (r : List Nat) : List (List Int) :=
  addsG (addsG g (evs (places g.length r)) (amountL g b (places g.length r))) (ods (places g.length r)) (-(amountL g b (places g.length r)))
theorem evs_ne {α : Type} : ∀ {l : List α}, l ≠ [] → evs l ≠ []
  | [], h => absurd rfl h
  | [x], _ => by simp [evs]
  | x :: y :: r, _ => by simp [evs]
theorem shift_ok {G0 : Nat → Nat → Int} {r : List Nat} (hb : 0 < b) (x : Rect g H W) (F : Fit H W b G0 (gAt g)) (R : Ring (Adj H W b (gAt g)) r) :
    Rect (shiftL g b r) H W ∧ Fit H W b G0 (gAt (shiftL g b r)) ∧ (∀ i j, i < H → j < W → Ls b (gAt (shiftL g b r) i j) → Ls b (gAt g i j)) ∧ cnt H W b (gAt (shiftL g b r)) < cnt H W b (gAt g) := by
  have hin : ∀ p ∈ places H r, p.1 < H ∧ p.2 < W := fun p hp => ⟨(R.places_loose hp).1, (R.places_loose hp).2.1⟩
  have he : ∀ p ∈ evs (places H r), p.1 < H ∧ p.2 < W := fun p hp => hin p ((evs_sub _).mem hp)
  have ho : ∀ p ∈ ods (places H r), p.1 < H ∧ p.2 < W := fun p hp => hin p ((ods_sub _).mem hp)
  have x1 := rect_addsG (c := amountL g b (places H r)) x he
  have eq : gAt (shiftL g b r) = shift (gAt g) (places H r) (amountL g b (places H r)) := by
    unfold shiftL
    rw [x.tall, gAt_addsG x1 ho, gAt_addsG x he]
    rfl
  have hne : evs (places H r) ≠ [] := evs_ne fun e => by
    have h1 := places_length H r
    rw [e] at h1
    have := R.len
    simp at h1
    omega
  have hrooms : ∃ y l, roomsUp g b (evs (places H r)) ++ roomsDown g b (ods (places H r)) = y :: l := by
    cases e : evs (places H r) with
    | nil => exact absurd e hne
    | cons p q => exact ⟨_, _, rfl⟩
  obtain ⟨y, l, hyl⟩ := hrooms
  have hmem : amountL g b (places H r) ∈ roomsUp g b (evs (places H r)) ++ roomsDown g b (ods (places H r)) := by
    unfold amountL
    rw [hyl]
    exact least_mem l y
  have hle : ∀ v ∈ roomsUp g b (evs (places H r)) ++ roomsDown g b (ods (places H r)), amountL g b (places H r) ≤ v := fun v hv => by
    unfold amountL
    rw [hyl] at hv ⊢
    exact least_le l y v hv
  have st := step (c := amountL g b (places H r)) hb F R (fun p hp => hle _ (List.mem_append_left _ (List.mem_map.mpr ⟨p, hp, rfl⟩))) (fun p hp => hle _ (List.mem_append_right _ (List.mem_map.mpr ⟨p, hp, rfl⟩))) (by
    rcases List.mem_append.mp hmem with h | h
    · obtain ⟨p, hp, e⟩ := List.mem_map.mp h
      exact .inl ⟨p, hp, e.symm⟩
    · obtain ⟨p, hp, e⟩ := List.mem_map.mp h
      exact .inr ⟨p, hp, e.symm⟩)
  rw [eq]
  refine ⟨?_, st⟩
  unfold shiftL
  rw [x.tall]
  exact rect_addsG x1 ho
end
def settleL (b : Int) (row : Nat) : Nat → List (List Int) → List (List Int)
  | 0, g => g
  | n + 1, g => if cross g b row = [] then g else settleL b row n (shiftL g b (ringOf g b row 100))
structure Sett (H W : Nat) (b : Int) (G0 : Nat → Nat → Int) (g : List (List Int)) : Prop where
  rect : Rect g H W
  fit : Fit H W b G0 (gAt g)
  small : H + W ≤ 50
theorem one_shift {H W : Nat} {b : Int} {G0 : Nat → Nat → Int} {g : List (List Int)} {row : Nat} (hb : 0 < b) (S : Sett H W b G0 g) (hr : row < H) (hne : cross g b row ≠ []) :
    Ring (Adj H W b (gAt g)) (ringOf g b row 100) ∧ Sett H W b G0 (shiftL g b (ringOf g b row 100)) ∧
      (∀ i j, i < H → j < W → Ls b (gAt (shiftL g b (ringOf g b row 100)) i j) → Ls b (gAt g i j)) ∧ cnt H W b (gAt (shiftL g b (ringOf g b row 100))) < cnt H W b (gAt g) := by
  have R : Ring (Adj H W b (gAt g)) (ringOf g b row 100) := by
    refine ringL_ok S.rect S.fit.zero _ _ _ (walk_start S.rect hr hne) ?_
    have := S.small
    simp
    omega
  obtain ⟨h1, h2, h3, h4⟩ := shift_ok hb S.rect S.fit R
  exact ⟨R, ⟨h1, h2, S.small⟩, h3, h4⟩
theorem settle_ok {H W : Nat} {b : Int} {G0 : Nat → Nat → Int} {row : Nat} (hb : 0 < b) (hr : row < H) : ∀ (n : Nat) (g : List (List Int)), Sett H W b G0 g → cnt H W b (gAt g) < n →
    Sett H W b G0 (settleL b row n g) ∧ (∀ i j, i < H → j < W → Ls b (gAt (settleL b row n g) i j) → Ls b (gAt g i j)) ∧ ∀ j, j < W → ¬ Ls b (gAt (settleL b row n g) row j)
  | 0, g, S, h => by omega
  | n + 1, g, S, h => by
    unfold settleL
    by_cases he : cross g b row = []
    · rw [if_pos he]
      refine ⟨S, fun _ _ _ _ q => q, fun j hj hl => ?_⟩
      have hm : H + j ∈ cross g b row := (mem_cross S.rect (by omega)).mpr (.inl ⟨hr, by omega, by omega, by rw [show H + j - H = j by omega]; exact hl⟩)
      rw [he] at hm
      cases hm
    · rw [if_neg he]
      obtain ⟨_, S2, sub, lt⟩ := one_shift hb S hr he
      obtain ⟨q1, q2, q3⟩ := settle_ok hb hr n _ S2 (by omega)
      exact ⟨q1, fun i j hi hj q => sub i j hi hj (q2 i j hi hj q), q3⟩
def turns (g : List (List Int)) : Nat := g.length * (g.getD 0 []).length + 1
theorem cN_const (c : Nat) : ∀ n, cN (fun _ => c) n = n * c
  | 0 => by simp [cN]
  | n + 1 => by show cN (fun _ => c) n + c = _; rw [cN_const c n, Nat.succ_mul]
theorem cnt_le (H W : Nat) (b : Int) (G : Nat → Nat → Int) : cnt H W b G ≤ H * W := by
  unfold cnt
  rw [← cN_const W H]
  refine cN_le fun i _ => ?_
  have h1 := cN_const 1 W
  rw [Nat.mul_one] at h1
  have h2 : cN (fun j => ind b (G i j)) W ≤ cN (fun _ => 1) W := cN_le fun j _ => by
    unfold ind
    split <;> omega
  omega
theorem turns_ok {H W : Nat} {b : Int} {G0 : Nat → Nat → Int} {g : List (List Int)} (S : Sett H W b G0 g) (h0 : 0 < H) : cnt H W b (gAt g) < turns g := by
  have := cnt_le H W b (gAt g)
  unfold turns
  rw [S.rect.tall, (S.rect.row h0).1]
  omega
def allL (b : Int) : Nat → List (List Int) → List (List Int)
  | 0, g => g
  | n + 1, g => settleL b n (turns (allL b n g)) (allL b n g)
theorem all_ok {H W : Nat} {b : Int} {G0 : Nat → Nat → Int} {g : List (List Int)} (hb : 0 < b) (S : Sett H W b G0 g) : ∀ n, n ≤ H → Sett H W b G0 (allL b n g) ∧ ∀ i j, i < n → j < W → ¬ Ls b (gAt (allL b n g) i j)
  | 0, _ => ⟨S, fun i j h _ => by omega⟩
  | n + 1, hn => by
    obtain ⟨S1, h1⟩ := all_ok hb S n (by omega)
    obtain ⟨q1, q2, q3⟩ := settle_ok (row := n) hb (by omega) (turns (allL b n g)) (allL b n g) S1 (turns_ok S1 (by omega))
    refine ⟨q1, fun i j hi hj hl => ?_⟩
    by_cases e : i = n
    · subst e; exact q3 j hj hl
    · exact h1 i j (by omega) hj (q2 i j (by omega) hj hl)
end RG
namespace RG
structure Rest (b p c r : Int) : Prop where
  lo : c / b * p ≤ r
  hi : r ≤ c / b * p + p
  no : c % b = 0 → r = c / b * p
structure RestG (h w : Nat) (b p : Int) (T R : Nat → Nat → Int) : Prop where
  each : ∀ i j, i < h → j < w → Rest b p (T i j) (R i j)
  row : ∀ i, i < h → Rest b p (sumN (fun j => T i j) w) (sumN (fun j => R i j) w)
  col : ∀ j, j < w → Rest b p (sumN (fun i => T i j) h) (sumN (fun i => R i j) h)
  all : Rest b p (sumN (fun i => sumN (fun j => T i j) w) h) (sumN (fun i => sumN (fun j => R i j) w) h)
theorem sumN_sub (f g : Nat → Int) (n : Nat) : sumN (fun i => f i - g i) n = sumN f n - sumN g n := by
  have := sumN_add f (fun i => - g i) n
  rw [sumN_neg] at this
  rw [show (fun i => f i - g i) = fun i => f i + - g i from funext fun i => by omega, this]
  omega
end RG
namespace RG
section
variable {H W : Nat} {b : Int} {G : Nat → Nat → Int}
theorem sumN_dvd {f : Nat → Int} : ∀ {n : Nat}, (∀ i, i < n → f i % b = 0) → sumN f n % b = 0
  | 0, _ => by show (0 : Int) % b = 0; simp
  | n + 1, h => by
    show (sumN f n + f n) % b = 0
    rw [Int.add_emod, sumN_dvd fun i hi => h i (by omega), h n (by omega)]
    simp
theorem closed_place (z : Zero H W G) {S : Nat → Bool} {r c : Nat} (hr : r < H) (hc : c < W) (hS : S r = true) (hg : S (H + c) = false)
    (hrow : ∀ i j, i < H → j < W → S i = true → Ls b (G i j) → S (H + j) = true ∨ (i = r ∧ j = c)) (hcol : ∀ i j, i < H → j < W → S (H + j) = true → Ls b (G i j) → S i = true) : ¬ Ls b (G r c) := by
  intro hl
  let A : Nat → Nat → Int := fun i j => if S i then G i j else 0
  let B : Nat → Nat → Int := fun i j => if S (H + j) then G i j else 0
  have hA : sumN (fun i => sumN (fun j => A i j) W) H = 0 := by
    have : ∀ i, i < H → sumN (fun j => A i j) W = 0 := fun i hi => by
      by_cases h : S i = true
      · rw [sumN_congr (g := fun j => G i j) fun j _ => if_pos h]; exact z.rows i hi
      · rw [sumN_congr (g := fun _ => 0) fun j _ => if_neg h]; exact sumN_zero W
    rw [sumN_congr (g := fun _ => 0) this]; exact sumN_zero H
  have hB : sumN (fun i => sumN (fun j => B i j) W) H = 0 := by
    rw [sumN_swap]
    have : ∀ j, j < W → sumN (fun i => B i j) H = 0 := fun j hj => by
      by_cases h : S (H + j) = true
      · rw [sumN_congr (g := fun i => G i j) fun i _ => if_pos h]; exact z.cols j hj
      · rw [sumN_congr (g := fun _ => 0) fun i _ => if_neg h]; exact sumN_zero H
    rw [sumN_congr (g := fun _ => 0) this]; exact sumN_zero W
  have hne : ¬ (S (H + c) = true) := by rw [hg]; simp
  have off : ∀ i j, i < H → j < W → ¬ (i = r ∧ j = c) → (A i j - B i j) % b = 0 := fun i j hi hj hn => by
    show ((if S i then G i j else 0) - (if S (H + j) then G i j else 0)) % b = 0
    by_cases h1 : S i = true
    · by_cases h2 : S (H + j) = true
      · rw [if_pos h1, if_pos h2, Int.sub_self]; simp
      · rw [if_pos h1, if_neg h2, Int.sub_zero]
        by_cases hz : G i j % b = 0
        · exact hz
        · rcases hrow i j hi hj h1 hz with h | h
          · exact absurd h h2
          · exact absurd h hn
    · by_cases h2 : S (H + j) = true
      · rw [if_neg h1, if_pos h2]
        by_cases hz : G i j % b = 0
        · rw [Int.zero_sub]; exact Int.emod_eq_zero_of_dvd (Int.dvd_neg.mpr (Int.dvd_of_emod_eq_zero hz))
        · exact absurd (hcol i j hi hj h2 hz) h1
      · rw [if_neg h1, if_neg h2]; simp
  have on : A r c - B r c = G r c := by
    show (if S r then G r c else 0) - (if S (H + c) then G r c else 0) = G r c
    rw [if_pos hS, if_neg hne, Int.sub_zero]
  have hsum : sumN (fun i => sumN (fun j => A i j - B i j) W) H = 0 := by
    rw [sumN_congr (g := fun i => sumN (fun j => A i j) W - sumN (fun j => B i j) W) fun i _ => sumN_sub _ _ W, sumN_sub, hA, hB]; rfl
  have hrow' : ∀ i, i < H → i ≠ r → sumN (fun j => A i j - B i j) W % b = 0 := fun i hi hn => sumN_dvd fun j hj => off i j hi hj fun h => hn h.1
  have h1 := sumN_mod (b := b) (f := fun i => sumN (fun j => A i j - B i j) W) (k := r) (n := H) hrow'
  have h2 := sumN_mod (b := b) (f := fun j => A r j - B r j) (k := c) (n := W) fun j hj hn => off r j hr hj fun h => hn h.2
  rw [hsum, if_pos hr] at h1
  rw [if_pos hc, on] at h2
  rw [h2] at h1
  exact hl (by rw [← h1]; simp)
end
abbrev Pm := List (Nat × List Nat)
def keysP (ps : Pm) : List Nat := ps.map (·.1)
def pathP (ps : Pm) (l : Nat) : List Nat := (ps.lookup l).getD []
def seeP (start goal l : Nat) (s : Pm × List Nat) (m : Nat) : Pm × List Nat :=
  if m ∉ keysP s.1 ∧ (l, m) ≠ (start, goal) then (s.1 ++ [(m, pathP s.1 l ++ [m])], s.2 ++ [m]) else s
def bfsP (g : List (List Int)) (b : Int) (start goal : Nat) : Nat → Pm → List Nat → List Nat
  | 0, _, _ => []
  | n + 1, ps, ws => if goal ∈ keysP ps then pathP ps goal else match ws with
    | [] => []
    | l :: ws => let s := (cross g b l).foldl (seeP start goal l) (ps, ws); bfsP g b start goal n s.1 s.2
def pathL (g : List (List Int)) (b : Int) (r c : Nat) : List Nat := bfsP g b r (g.length + c) (2 * (g.length + (g.getD 0 []).length) + 5) [(r, [r])] [r]
structure Paths (A : Nat → Nat → Prop) (n start goal : Nat) (ps : Pm) : Prop where
  nd : (keysP ps).Nodup
  lt : ∀ l ∈ keysP ps, l < n
  st : (start, [start]) ∈ ps
  ok : ∀ l p, (l, p) ∈ ps → ∃ (hne : p ≠ []), p.head hne = start ∧ p.getLast hne = l ∧ p.Nodup ∧ Ch A p ∧ (∀ x ∈ p, x ∈ keysP ps) ∧ (l = goal → 3 ≤ p.length)
theorem lookup_mem : ∀ {ps : Pm} {l : Nat}, l ∈ keysP ps → (l, pathP ps l) ∈ ps
  | [], _, h => by cases h
  | (k, p) :: r, l, h => by
    unfold pathP
    by_cases e : l = k
    · subst e
      rw [List.lookup_cons_self]
      exact List.mem_cons_self
    · rw [List.lookup_cons]
      have hb : (l == k) = false := beq_eq_false_iff_ne.mpr e
      rw [hb]
      have h' : l ∈ keysP r := by
        rcases List.mem_cons.mp h with h | h
        · exact absurd h e
        · exact h
      exact List.mem_cons_of_mem _ (lookup_mem h')
theorem mem_keys {ps : Pm} {l : Nat} {p : List Nat} (h : (l, p) ∈ ps) : l ∈ keysP ps := List.mem_map.mpr ⟨(l, p), h, rfl⟩
theorem keys_app (ps qs : Pm) : keysP (ps ++ qs) = keysP ps ++ keysP qs := List.map_append
theorem Paths.more {A : Nat → Nat → Prop} {n start goal : Nat} {ps : Pm} (x : Paths A n start goal ps) {l m : Nat} (hl : l ∈ keysP ps) (hm : m ∉ keysP ps) (ha : A l m) (hn : m < n) (hne : (l, m) ≠ (start, goal)) : Paths A n start goal (ps ++ [(m, pathP ps l ++ [m])]) where
  nd := by
    rw [keys_app]
    exact List.nodup_append.mpr ⟨x.nd, List.nodup_cons.mpr ⟨(fun h => nomatch h), List.nodup_nil⟩, fun a ha b hb e => hm (by
      have : b = m := List.mem_singleton.mp hb
      rw [← this, ← e]; exact ha)⟩
  lt := fun k hk => by
    rw [keys_app] at hk
    rcases List.mem_append.mp hk with hk | hk
    · exact x.lt k hk
    · have : k = m := List.mem_singleton.mp hk
      rw [this]; exact hn
  st := List.mem_append_left _ x.st
  ok := fun k p hp => by
    rcases List.mem_append.mp hp with hp | hp
    · obtain ⟨h0, h1, h2, h3, h4, h5, h6⟩ := x.ok k p hp
      exact ⟨h0, h1, h2, h3, h4, fun y hy => by rw [keys_app]; exact List.mem_append_left _ (h5 y hy), h6⟩
    · have e := List.mem_singleton.mp hp
      obtain ⟨e1, e2⟩ := Prod.mk.inj e
      subst e1 e2
      obtain ⟨h0, h1, h2, h3, h4, h5, h6⟩ := x.ok l _ (lookup_mem hl)
      refine ⟨by simp, ?_, by simp, ?_, Ch.snoc h0 h4 (by rw [h2]; exact ha), fun y hy => ?_, fun hg => ?_⟩
      · rw [List.head_append_of_ne_nil h0]; exact h1
      · exact List.nodup_append.mpr ⟨h3, List.nodup_cons.mpr ⟨(fun h => nomatch h), List.nodup_nil⟩, fun a ha b hb e => hm (by
          have : b = k := List.mem_singleton.mp hb
          rw [← this, ← e]; exact h5 a ha)⟩
      · rw [keys_app]
        rcases List.mem_append.mp hy with hy | hy
        · exact List.mem_append_left _ (h5 y hy)
        · exact List.mem_append_right _ hy
      · rw [List.length_append, List.length_singleton]
        have h7 : 2 ≤ (pathP ps l).length := by
          cases hp : pathP ps l with
          | nil => exact absurd hp h0
          | cons a t =>
            cases t with
            | nil =>
              exfalso
              have e1 : (pathP ps l).head h0 = (pathP ps l).getLast h0 := by simp only [hp]; rfl
              rw [h1, h2] at e1
              exact hne (by rw [e1, hg])
            | cons _ _ => simp
        omega
structure Wide2 (A : Nat → Nat → Prop) (n start goal : Nat) (ps : Pm) (ws : List Nat) : Prop where
  pa : Paths A n start goal ps
  sub : ∀ l ∈ ws, l ∈ keysP ps
  done : ∀ l ∈ keysP ps, l ∉ ws → ∀ m, A l m → m ∈ keysP ps ∨ (l, m) = (start, goal)
theorem see_all {A : Nat → Nat → Prop} {n start goal l : Nat} (ms : List Nat) : ∀ (ps : Pm) (ws : List Nat), Paths A n start goal ps → l ∈ keysP ps → (∀ k ∈ ws, k ∈ keysP ps) → (∀ m ∈ ms, A l m ∧ m < n) →
    (∀ k ∈ keysP ps, k ∉ ws → k ≠ l → ∀ m, A k m → m ∈ keysP ps ∨ (k, m) = (start, goal)) →
    let s := ms.foldl (seeP start goal l) (ps, ws)
    Paths A n start goal s.1 ∧ (∀ k ∈ s.2, k ∈ keysP s.1) ∧ (∀ m ∈ ms, m ∈ keysP s.1 ∨ (l, m) = (start, goal)) ∧ (∀ k ∈ keysP ps, k ∈ keysP s.1) ∧
      (∀ k ∈ keysP s.1, k ∉ s.2 → k ≠ l → ∀ m, A k m → m ∈ keysP s.1 ∨ (k, m) = (start, goal)) ∧ 2 * (n - s.1.length) + s.2.length ≤ 2 * (n - ps.length) + ws.length := by
  induction ms with
  | nil => exact fun ps ws x hl hw _ hd => ⟨x, hw, (fun _ h => nomatch h), fun _ h => h, hd, Nat.le_refl _⟩
  | cons m ms ih =>
    intro ps ws x hl hw hm hd
    obtain ⟨ha, hn⟩ := hm m List.mem_cons_self
    by_cases hc : m ∉ keysP ps ∧ (l, m) ≠ (start, goal)
    · have e : (m :: ms).foldl (seeP start goal l) (ps, ws) = ms.foldl (seeP start goal l) (ps ++ [(m, pathP ps l ++ [m])], ws ++ [m]) := by
        rw [List.foldl_cons]
        unfold seeP
        rw [if_pos hc]
      rw [e]
      have x' := x.more hl hc.1 ha hn hc.2
      have hk : keysP (ps ++ [(m, pathP ps l ++ [m])]) = keysP ps ++ [m] := keys_app _ _
      obtain ⟨h1, h2, h3, h4, h5, h6⟩ := ih _ (ws ++ [m]) x' (by rw [hk]; exact List.mem_append_left _ hl) (fun k q => by
        rw [hk]
        rcases List.mem_append.mp q with q | q
        · exact List.mem_append_left _ (hw k q)
        · exact List.mem_append_right _ q) (fun k q => hm k (List.mem_cons_of_mem _ q)) (fun k q1 q2 q3 y hy => by
        rw [hk] at q1 ⊢
        rcases List.mem_append.mp q1 with q1 | q1
        · rcases hd k q1 (fun q => q2 (List.mem_append_left _ q)) q3 y hy with h | h
          · exact .inl (List.mem_append_left _ h)
          · exact .inr h
        · exact absurd (List.mem_append_right _ q1) q2)
      refine ⟨h1, h2, fun k q => ?_, fun k q => h4 k (by rw [hk]; exact List.mem_append_left _ q), h5, ?_⟩
      · rcases List.mem_cons.mp q with q | q
        · exact .inl (h4 k (by rw [hk, q]; exact List.mem_append_right _ (List.mem_singleton.mpr rfl)))
        · exact h3 k q
      · have hle : (keysP (ps ++ [(m, pathP ps l ++ [m])])).length ≤ n := nodup_le x'.nd x'.lt
        rw [hk, List.length_append, List.length_singleton] at hle
        have hkl : (keysP ps).length = ps.length := List.length_map _
        rw [List.length_append, List.length_append, List.length_singleton, List.length_singleton] at h6
        omega
    · have e : (m :: ms).foldl (seeP start goal l) (ps, ws) = ms.foldl (seeP start goal l) (ps, ws) := by
        rw [List.foldl_cons]
        unfold seeP
        rw [if_neg hc]
      rw [e]
      obtain ⟨h1, h2, h3, h4, h5, h6⟩ := ih ps ws x hl hw (fun k q => hm k (List.mem_cons_of_mem _ q)) hd
      refine ⟨h1, h2, fun k q => ?_, h4, h5, h6⟩
      rcases List.mem_cons.mp q with q | q
      · subst q
        by_cases hk : k ∈ keysP ps
        · exact .inl (h4 k hk)
        · refine .inr ?_
          by_cases hz : (l, k) = (start, goal)
          · exact hz
          · exact absurd ⟨hk, hz⟩ hc
      · exact h3 k q
section
variable {H W : Nat} {b : Int} {g : List (List Int)}
theorem wide_turn (x : Rect g H W) {start goal l : Nat} {ps : Pm} {ws : List Nat} (w : Wide2 (Adj H W b (gAt g)) (H + W) start goal ps (l :: ws)) :
    let s := (cross g b l).foldl (seeP start goal l) (ps, ws)
    Wide2 (Adj H W b (gAt g)) (H + W) start goal s.1 s.2 ∧ 2 * (H + W - s.1.length) + s.2.length < 2 * (H + W - ps.length) + (l :: ws).length := by
  have hl := w.sub l List.mem_cons_self
  have hll := w.pa.lt l hl
  obtain ⟨h1, h2, h3, h4, h5, h6⟩ := see_all (A := Adj H W b (gAt g)) (n := H + W) (start := start) (goal := goal) (l := l) (cross g b l) ps ws w.pa hl (fun k q => w.sub k (List.mem_cons_of_mem _ q)) (fun m hm => ⟨(mem_cross x hll).mp hm, ((mem_cross x hll).mp hm).symm.lt⟩)
    (fun k q1 q2 q3 m hm => w.done k q1 (fun q => (List.mem_cons.mp q).elim q3 q2) m hm)
  refine ⟨⟨h1, h2, fun k q1 q2 m hm => ?_⟩, by rw [List.length_cons]; omega⟩
  by_cases e : k = l
  · subst e
    exact h3 m ((mem_cross x hll).mpr hm)
  · exact h5 k q1 q2 e m hm
theorem wide_more (x : Rect g H W) (z : Zero H W (gAt g)) {r c : Nat} (hr : r < H) (hc : c < W) (hl : Ls b (gAt g r c)) {ps : Pm} (w : Wide2 (Adj H W b (gAt g)) (H + W) r (H + c) ps []) : H + c ∈ keysP ps := by
  by_cases hm : H + c ∈ keysP ps
  · exact hm
  · exfalso
    refine closed_place (b := b) z (S := fun l => decide (l ∈ keysP ps)) hr hc (decide_eq_true (mem_keys w.pa.st)) (decide_eq_false hm) (fun i j hi hj hs hl => ?_) (fun i j hi hj hs hl => ?_) hl
    · rcases w.done i (of_decide_eq_true hs) (fun q => nomatch q) (H + j) (.inl ⟨hi, by omega, by omega, by rw [show H + j - H = j by omega]; exact hl⟩) with h | h
      · exact .inl (decide_eq_true h)
      · obtain ⟨e1, e2⟩ := Prod.mk.inj h
        exact .inr ⟨e1, by omega⟩
    · rcases w.done (H + j) (of_decide_eq_true hs) (fun q => nomatch q) i (.inr ⟨hi, by omega, by omega, by rw [show H + j - H = j by omega]; exact hl⟩) with h | h
      · exact decide_eq_true h
      · obtain ⟨e1, e2⟩ := Prod.mk.inj h
        omega
structure Round (H W : Nat) (b : Int) (G : Nat → Nat → Int) (r c : Nat) (p : List Nat) : Prop where
  ring : Ring (Adj H W b G) p
  first : p.head? = some r
  last : p.getLast? = some (H + c)
theorem wide_end {r c : Nat} (hr : r < H) (hc : c < W) (hl : Ls b (gAt g r c)) {ps : Pm} {ws : List Nat} (w : Wide2 (Adj H W b (gAt g)) (H + W) r (H + c) ps ws) (hm : H + c ∈ keysP ps) : Round H W b (gAt g) r c (pathP ps (H + c)) := by
  obtain ⟨h0, h1, h2, h3, h4, _, h6⟩ := w.pa.ok _ _ (lookup_mem hm)
  refine ⟨⟨h4, h3, h6 rfl, fun _ => ?_⟩, by rw [List.head?_eq_some_head h0, h1], by rw [List.getLast?_eq_some_getLast h0, h2]⟩
  rw [h1, h2]
  exact .inr ⟨hr, by omega, by omega, by rw [show H + c - H = c by omega]; exact hl⟩
theorem bfs_ok (x : Rect g H W) (z : Zero H W (gAt g)) {r c : Nat} (hr : r < H) (hc : c < W) (hl : Ls b (gAt g r c)) : ∀ (n : Nat) (ps : Pm) (ws : List Nat), Wide2 (Adj H W b (gAt g)) (H + W) r (H + c) ps ws → 2 * (H + W - ps.length) + ws.length < n →
    Round H W b (gAt g) r c (bfsP g b r (H + c) n ps ws)
  | 0, _, _, _, h => absurd h (by omega)
  | n + 1, ps, ws, w, h => by
    unfold bfsP
    by_cases hm : H + c ∈ keysP ps
    · rw [if_pos hm]; exact wide_end hr hc hl w hm
    · rw [if_neg hm]
      cases ws with
      | nil => exact absurd (wide_more x z hr hc hl w) hm
      | cons l ws =>
        obtain ⟨w', h'⟩ := wide_turn x w
        exact bfs_ok x z hr hc hl n _ _ w' (by omega)
theorem wide_start {r goal n : Nat} {A : Nat → Nat → Prop} (hr : r < n) (hg : goal ≠ r) : Wide2 A n r goal [(r, [r])] [r] where
  pa := {
    nd := List.nodup_cons.mpr ⟨(fun h => nomatch h), List.nodup_nil⟩
    lt := fun l h => by rw [List.mem_singleton.mp h]; exact hr
    st := List.mem_singleton.mpr rfl
    ok := fun l p h => by
      obtain ⟨e1, e2⟩ := Prod.mk.inj (List.mem_singleton.mp h)
      subst e1 e2
      exact ⟨by simp, rfl, rfl, List.nodup_cons.mpr ⟨(fun h => nomatch h), List.nodup_nil⟩, trivial, fun y hy => hy, fun e => absurd e.symm hg⟩ }
  sub := fun l h => h
  done := fun l h h' => absurd h h'
theorem path_ok (x : Rect g H W) (z : Zero H W (gAt g)) {r c : Nat} (hr : r < H) (hc : c < W) (hl : Ls b (gAt g r c)) : Round H W b (gAt g) r c (pathL g b r c) := by
  unfold pathL
  rw [x.tall, (x.row (i := 0) (by omega)).1]
  exact bfs_ok x z hr hc hl _ _ _ (wide_start (by omega) (by omega)) (by simp; omega)
end
end RG
namespace RG
theorem mem_evs {α : Type} : ∀ {l : List α} {i : Nat} {x : α}, i % 2 = 0 → l[i]? = some x → x ∈ evs l
  | [], _, _, _, h => by simp at h
  | [y], 0, x, _, h => by
    have : y = x := by simpa using h
    subst this
    simp [evs]
  | [y], i + 1, x, _, h => by simp at h
  | y :: z :: r, 0, x, _, h => by
    have : y = x := by simpa using h
    subst this
    simp [evs]
  | y :: z :: r, 1, x, he, h => by simp at he
  | y :: z :: r, i + 2, x, he, h => by
    have h' : r[i]? = some x := by simpa using h
    have := mem_evs (l := r) (i := i) (by omega) h'
    simp [evs, this]
theorem mem_ods {α : Type} : ∀ {l : List α} {i : Nat} {x : α}, i % 2 = 1 → l[i]? = some x → x ∈ ods l
  | [], _, _, _, h => by simp at h
  | [y], 0, x, he, h => by simp at he
  | [y], i + 1, x, _, h => by simp at h
  | y :: z :: r, 0, x, he, h => by simp at he
  | y :: z :: r, 1, x, _, h => by
    have : z = x := by simpa using h
    subst this
    simp [ods]
  | y :: z :: r, i + 2, x, he, h => by
    have h' : r[i]? = some x := by simpa using h
    have := mem_ods (l := r) (i := i) (by omega) h'
    simp [ods, this]
def ringU (up : Bool) (p : List Nat) : List Nat := if up then p.drop (p.length - 1) ++ p.dropLast else p
theorem ringU_len {up : Bool} {p : List Nat} (h : p ≠ []) : (ringU up p).length = p.length := by
  have := List.length_pos_iff.mpr h
  unfold ringU
  split
  · rw [List.length_append, List.length_drop, List.length_dropLast]; omega
  · rfl
section
variable {H W : Nat} {b : Int} {G : Nat → Nat → Int}
theorem Ch.init {A : Nat → Nat → Prop} : ∀ {r : List Nat}, Ch A r → Ch A r.dropLast
  | [], h => h
  | [_], _ => trivial
  | [x, y], _ => trivial
  | x :: y :: z :: r, h => ⟨h.1, Ch.init (r := y :: z :: r) h.2⟩
theorem drop_last {α : Type} : ∀ {p : List α} {x : α}, p.getLast? = some x → p.drop (p.length - 1) = [x]
  | [], _, h => by simp at h
  | [y], x, h => by simpa using h
  | y :: z :: r, x, h => by
    have := drop_last (p := z :: r) (x := x) (by rw [List.getLast?_cons_cons] at h; exact h)
    simpa using this
theorem ringU_ring {up : Bool} {r c : Nat} {p : List Nat} (R : Round H W b G r c p) : Ring (Adj H W b G) (ringU up p) := by
  cases up with
  | false => exact R.ring
  | true =>
    have hne : p ≠ [] := fun z => by have := R.ring.len; rw [z] at this; simp at this
    have hd := drop_last R.last
    have e : ringU true p = (H + c) :: p.dropLast := by
      unfold ringU
      rw [if_pos rfl, hd]
      rfl
    have hl3 := R.ring.len
    have split : p = p.dropLast ++ [H + c] := by
      have h1 := List.dropLast_concat_getLast hne
      have h2 : p.getLast hne = H + c := by have := R.last; rw [List.getLast?_eq_some_getLast hne] at this; exact Option.some.inj this
      rw [h2] at h1
      exact h1.symm
    have hdl : p.dropLast.length = p.length - 1 := List.length_dropLast
    have hdne : p.dropLast ≠ [] := fun z => by rw [z] at hdl; simp at hdl; omega
    have hcl := R.ring.close hne
    have hlast : p.getLast hne = H + c := by have := R.last; rw [List.getLast?_eq_some_getLast hne] at this; exact Option.some.inj this
    have hhead : p.head hne = p.dropLast.head hdne := by
      cases p with
      | nil => exact absurd rfl hne
      | cons x t =>
        cases t with
        | nil => simp at hl3
        | cons y t => rfl
    rw [hlast, hhead] at hcl
    rw [e]
    refine ⟨?_, ?_, by rw [List.length_cons, hdl]; omega, fun _ => ?_⟩
    · cases hp : p.dropLast with
      | nil => exact absurd hp hdne
      | cons x t =>
        have hch := Ch.init R.ring.ch
        rw [hp] at hch
        refine ⟨?_, hch⟩
        have : p.dropLast.head hdne = x := by simp only [hp]; rfl
        rw [this] at hcl
        exact hcl
    · have nd := R.ring.nd
      rw [split] at nd
      have := List.nodup_append.mp nd
      exact List.nodup_cons.mpr ⟨fun h => this.2.2 _ h _ (List.mem_singleton.mpr rfl) rfl, this.1⟩
    · rw [List.getLast_cons hdne, List.head_cons]
      have hch := R.ring.ch
      have hi : p.length - 2 + 1 < p.length := by omega
      have := hch.get (p.length - 2) hi
      have e1 : p[p.length - 2]'(by omega) = p.dropLast.getLast hdne := by
        rw [List.getLast_eq_getElem, List.getElem_dropLast]
        congr 1
        omega
      have e2 : p[p.length - 2 + 1]'hi = H + c := by
        have h3 : p.length - 2 + 1 = p.length - 1 := by omega
        rw [← hlast, List.getLast_eq_getElem]
        congr 1
      rw [e1, e2] at this
      exact this
theorem ringU_place {up : Bool} {r c : Nat} {p : List Nat} (hr : r < H) (R : Round H W b G r c p) : if up then (r, c) ∈ evs (places H (ringU up p)) else (r, c) ∈ ods (places H (ringU up p)) := by
  have hne : p ≠ [] := fun z => by have := R.ring.len; rw [z] at this; simp at this
  have hl3 := R.ring.len
  have hpl : place H (H + c) r = (r, c) := by
    unfold place
    rw [Nat.min_eq_right (by omega), Nat.max_eq_left (by omega)]
    exact congrArg _ (by omega)
  have h0 : p[0]? = some r := by rw [← List.head?_eq_getElem?]; exact R.first
  cases up with
  | true =>
    rw [if_pos rfl]
    have hlen := ringU_len (up := true) hne
    have e : ringU true p = (H + c) :: p.dropLast := by
      unfold ringU
      rw [if_pos rfl, drop_last R.last]
      rfl
    refine mem_evs (i := 0) rfl ?_
    rw [places_get 0 (by omega)]
    have e1 : (ringU true p)[0]'(by omega) = H + c := by simp only [e]; rfl
    have e2 : nxt (ringU true p) 0 (by omega) = r := by
      unfold nxt
      rw [dif_pos (by omega)]
      have h1 : (ringU true p)[0 + 1]? = some r := by
        rw [e, List.getElem?_cons_succ, List.getElem?_dropLast, if_pos (by omega)]
        exact h0
      exact Option.some.inj (by rw [← List.getElem?_eq_getElem]; exact h1)
    rw [e1, e2, hpl]
  | false =>
    rw [if_neg (by simp)]
    have hev := R.ring.even
    show (r, c) ∈ ods (places H p)
    refine mem_ods (i := p.length - 1) (by omega) ?_
    rw [places_get (p.length - 1) (by omega)]
    have e1 : p[p.length - 1]'(by omega) = H + c := by
      have h1 := R.last
      rw [List.getLast?_eq_getElem?] at h1
      exact Option.some.inj (by rw [← List.getElem?_eq_getElem]; exact h1)
    have e2 : nxt p (p.length - 1) (by omega) = r := by
      unfold nxt
      rw [dif_neg (by omega)]
      exact Option.some.inj (by rw [← List.getElem?_eq_getElem]; exact h0)
    rw [e1, e2, hpl]
end
section
variable {H W : Nat} {b : Int} {g : List (List Int)}
theorem amount_nonneg (hb : 0 < b) {ps : List (Nat × Nat)} (hne : evs ps ≠ []) : 0 ≤ amountL g b ps := by
  have hrooms : ∃ y l, roomsUp g b (evs ps) ++ roomsDown g b (ods ps) = y :: l := by
    cases e : evs ps with
    | nil => exact absurd e hne
    | cons p q => exact ⟨_, _, rfl⟩
  obtain ⟨y, l, hyl⟩ := hrooms
  have hmem : amountL g b ps ∈ roomsUp g b (evs ps) ++ roomsDown g b (ods ps) := by
    unfold amountL
    rw [hyl]
    exact least_mem l y
  rcases List.mem_append.mp hmem with h | h
  · obtain ⟨p, _, e⟩ := List.mem_map.mp h
    have := Int.emod_lt_of_pos (gAt g p.1 p.2) hb
    omega
  · obtain ⟨p, _, e⟩ := List.mem_map.mp h
    have := Int.emod_nonneg (gAt g p.1 p.2) (show b ≠ 0 by omega)
    omega
theorem shiftL_at (x : Rect g H W) {r : List Nat} (R : Ring (Adj H W b (gAt g)) r) : gAt (shiftL g b r) = shift (gAt g) (places H r) (amountL g b (places H r)) := by
  have hin : ∀ p ∈ places H r, p.1 < H ∧ p.2 < W := fun p hp => ⟨(R.places_loose hp).1, (R.places_loose hp).2.1⟩
  have he : ∀ p ∈ evs (places H r), p.1 < H ∧ p.2 < W := fun p hp => hin p ((evs_sub _).mem hp)
  have ho : ∀ p ∈ ods (places H r), p.1 < H ∧ p.2 < W := fun p hp => hin p ((ods_sub _).mem hp)
  unfold shiftL
  rw [x.tall, gAt_addsG (rect_addsG (c := amountL g b (places H r)) x he) ho, gAt_addsG x he]
  rfl
theorem shift_way (hb : 0 < b) (x : Rect g H W) {up : Bool} {r c : Nat} {p : List Nat} (hr : r < H) (R : Round H W b (gAt g) r c p) :
    if up then gAt g r c ≤ gAt (shiftL g b (ringU up p)) r c else gAt (shiftL g b (ringU up p)) r c ≤ gAt g r c := by
  have RR := ringU_ring (up := up) R
  have hpl := ringU_place (up := up) hr R
  have hne : evs (places H (ringU up p)) ≠ [] := evs_ne fun e => by
    have h1 := places_length H (ringU up p)
    rw [e] at h1
    have := RR.len
    simp at h1
    omega
  have ha := amount_nonneg (g := g) hb hne
  rw [shiftL_at x RR]
  cases up with
  | true =>
    rw [if_pos rfl] at hpl ⊢
    rcases shift_at RR (amountL g b (places H (ringU true p))) r c with (⟨_, e⟩ | ⟨h, _⟩) | ⟨h, _⟩
    · rw [e]; omega
    · exact (evs_ods_apart RR.places_nodup hpl h).elim
    · exact absurd ((evs_sub _).mem hpl) h
  | false =>
    rw [if_neg (by simp)] at hpl ⊢
    rcases shift_at RR (amountL g b (places H (ringU false p))) r c with (⟨h, _⟩ | ⟨_, e⟩) | ⟨h, _⟩
    · exact (evs_ods_apart RR.places_nodup h hpl).elim
    · rw [e]; omega
    · exact absurd ((ods_sub _).mem hpl) h
def placeL (b : Int) (r c : Nat) (up : Bool) : Nat → List (List Int) → List (List Int)
  | 0, g => g
  | n + 1, g => if gAt g r c % b = 0 then g else placeL b r c up n (shiftL g b (ringU up (pathL g b r c)))
theorem place_shift {G0 : Nat → Nat → Int} (hb : 0 < b) (S : Sett H W b G0 g) {r c : Nat} {up : Bool} (hr : r < H) (hc : c < W) (hl : Ls b (gAt g r c)) :
    Ring (Adj H W b (gAt g)) (ringU up (pathL g b r c)) ∧ Sett H W b G0 (shiftL g b (ringU up (pathL g b r c))) ∧ cnt H W b (gAt (shiftL g b (ringU up (pathL g b r c)))) < cnt H W b (gAt g) ∧
      if up then gAt g r c ≤ gAt (shiftL g b (ringU up (pathL g b r c))) r c else gAt (shiftL g b (ringU up (pathL g b r c))) r c ≤ gAt g r c := by
  have R := path_ok S.rect S.fit.zero hr hc hl
  have RR := ringU_ring (up := up) R
  obtain ⟨h1, h2, _, h4⟩ := shift_ok hb S.rect S.fit RR
  exact ⟨RR, ⟨h1, h2, S.small⟩, h4, shift_way hb S.rect hr R⟩
theorem place_ok {G0 : Nat → Nat → Int} (hb : 0 < b) {r c : Nat} {up : Bool} (hr : r < H) (hc : c < W) : ∀ (n : Nat) (g : List (List Int)), Sett H W b G0 g → cnt H W b (gAt g) < n →
    Sett H W b G0 (placeL b r c up n g) ∧ gAt (placeL b r c up n g) r c % b = 0 ∧ if up then gAt g r c ≤ gAt (placeL b r c up n g) r c else gAt (placeL b r c up n g) r c ≤ gAt g r c
  | 0, g, S, h => by omega
  | n + 1, g, S, h => by
    unfold placeL
    by_cases he : gAt g r c % b = 0
    · rw [if_pos he]
      refine ⟨S, he, ?_⟩
      split <;> exact Int.le_refl _
    · rw [if_neg he]
      obtain ⟨_, S2, lt, way⟩ := place_shift (up := up) hb S hr hc he
      obtain ⟨q1, q2, q3⟩ := place_ok (up := up) hb hr hc n _ S2 (by omega)
      refine ⟨q1, q2, ?_⟩
      cases up with
      | true => rw [if_pos rfl] at way q3 ⊢; omega
      | false => rw [if_neg (by simp)] at way q3 ⊢; omega
theorem way_up {v0 v : Int} (hb : 0 < b) (h : In b v0 v) (hz : v % b = 0) (hw : v0 ≤ v) : v / b = -(-v0 / b) := by
  have hn := h.near hb hz
  have h1 := Int.mul_ediv_add_emod v b
  have h2 := Int.mul_ediv_add_emod (-v0) b
  have h3 := Int.emod_nonneg (-v0) (show b ≠ 0 by omega)
  have h4 := Int.emod_lt_of_pos (-v0) hb
  rw [hz] at h1
  generalize v / b = p at h1 ⊢
  generalize -v0 / b = q at h2 ⊢
  have k : b * (p + q) = v - v0 - -v0 % b := by rw [Int.mul_add]; omega
  have k1 : -b < b * (p + q) := by omega
  have k2 : b * (p + q) < b := by omega
  have : p + q = 0 := by
    by_cases c1 : 1 ≤ p + q
    · have := Int.mul_le_mul_of_nonneg_left c1 (Int.le_of_lt hb); omega
    · by_cases c2 : p + q ≤ -1
      · have := Int.mul_le_mul_of_nonneg_left c2 (Int.le_of_lt hb); omega
      · omega
  omega
theorem way_down {v0 v : Int} (hb : 0 < b) (h : In b v0 v) (hz : v % b = 0) (hw : v ≤ v0) : v / b = v0 / b := by
  have hn := h.near hb hz
  have h1 := Int.mul_ediv_add_emod v b
  have h2 := Int.mul_ediv_add_emod v0 b
  have h3 := Int.emod_nonneg v0 (show b ≠ 0 by omega)
  have h4 := Int.emod_lt_of_pos v0 hb
  rw [hz] at h1
  generalize v / b = p at h1 ⊢
  generalize v0 / b = q at h2 ⊢
  have k : b * (p - q) = v - v0 + v0 % b := by rw [Int.mul_sub]; omega
  have : p - q = 0 := by
    by_cases c1 : 1 ≤ p - q
    · have := Int.mul_le_mul_of_nonneg_left c1 (Int.le_of_lt hb); omega
    · by_cases c2 : p - q ≤ -1
      · have := Int.mul_le_mul_of_nonneg_left c2 (Int.le_of_lt hb); omega
      · omega
  omega
theorem all_keep (hb : 0 < b) {G0 : Nat → Nat → Int} (S : Sett H W b G0 g) {r c : Nat} (hr : r < H) (hc : c < W) (hz : gAt g r c % b = 0) (n : Nat) (hn : n ≤ H) : gAt (allL b n g) r c = gAt g r c := by
  have S' : Sett H W b (gAt g) g := ⟨S.rect, ⟨S.fit.zero, fun _ _ _ _ => In.refl hb _⟩, S.small⟩
  obtain ⟨_, _, _, _, _, h⟩ := ((all_ok hb S' n hn).1.fit.near r c hr hc)
  exact h hz
end
end RG
namespace PU
open PySem L2
def drawnI (x k : Int) : Int := (((x + 104729 * k + 17) * 69621 % 2147483647) * ((x + 104729 * k + 17) * 69621 % 2147483647) + 3 * ((x + 104729 * k + 17) * 69621 % 2147483647) + k) % 2147483629
def mixI (c k : Int) : Int := (((c + 7919 * k + 1) * 48271 % 2147483647) * ((c + 7919 * k + 1) * 48271 % 2147483647) + 7 * ((c + 7919 * k + 1) * 48271 % 2147483647) + k) % 2147483629
def wideN (n : Int) : Nat := (1 + n % 5).toNat
def tallN (n : Int) : Nat := (1 + n / 5 % 5).toNat
def highI (h : Int) (n : Int) : Int := [3, 20, 100, h].getD (n / 25 % 4).toNat 0
def rowI (h n : Int) (k : Nat) : List Int := (List.range (wideN n)).map fun (j : Nat) => drawnI (drawnI n k) j / 8 % highI h n
def tableI (h n : Int) : List (List Int) := (List.range (tallN n)).map fun k => rowI h n k
def baseI (n : Int) : Int := [1, 2, 3, 7, 12, 1 + n / 6 % 60].getD (n % 6).toNat 0
theorem wideN_le (n : Int) : 1 ≤ wideN n ∧ wideN n ≤ 5 := by unfold wideN; omega
theorem tallN_le (n : Int) : 1 ≤ tallN n ∧ tallN n ≤ 5 := by unfold tallN; omega
theorem baseI_le (n : Int) : 1 ≤ baseI n ∧ baseI n ≤ 60 := by
  unfold baseI
  have h : (n % 6).toNat = 0 ∨ (n % 6).toNat = 1 ∨ (n % 6).toNat = 2 ∨ (n % 6).toNat = 3 ∨ (n % 6).toNat = 4 ∨ (n % 6).toNat = 5 := by omega
  rcases h with h | h | h | h | h | h <;> rw [h] <;> simp <;> omega
theorem highI_le {h : Int} (hh : 3 ≤ h ∧ h ≤ 100001) (n : Int) : 3 ≤ highI h n ∧ highI h n ≤ 100001 := by
  unfold highI
  have h4 : (n / 25 % 4).toNat = 0 ∨ (n / 25 % 4).toNat = 1 ∨ (n / 25 % 4).toNat = 2 ∨ (n / 25 % 4).toNat = 3 := by omega
  rcases h4 with e | e | e | e <;> rw [e] <;> simp <;> omega
structure Tab (t : List (List Int)) (w : Nat) : Prop where
  tall : 1 ≤ t.length ∧ t.length ≤ 5
  wide : 1 ≤ w ∧ w ≤ 5
  rows : ∀ r ∈ t, r.length = w
  vals : ∀ r ∈ t, ∀ v ∈ r, 0 ≤ v ∧ v ≤ 100000
theorem tab_of {h : Int} (hh : 3 ≤ h ∧ h ≤ 100001) (n : Int) : Tab (tableI h n) (wideN n) where
  tall := by unfold tableI; rw [List.length_map, List.length_range]; exact tallN_le n
  wide := wideN_le n
  rows := fun r hr => by
    unfold tableI at hr
    obtain ⟨k, _, rfl⟩ := List.mem_map.mp hr
    unfold rowI
    rw [List.length_map, List.length_range]
  vals := fun r hr v hv => by
    unfold tableI at hr
    obtain ⟨k, _, rfl⟩ := List.mem_map.mp hr
    unfold rowI at hv
    obtain ⟨j, _, rfl⟩ := List.mem_map.mp hv
    have h1 := highI_le hh n
    have h2 := Int.emod_nonneg (drawnI (drawnI n k) j / 8) (show highI h n ≠ 0 by omega)
    have h3 := Int.emod_lt_of_pos (drawnI (drawnI n k) j / 8) (show 0 < highI h n by omega)
    omega
theorem sSeq_nx {f g : Fs} {δ δ' : Dl} (h : f δ = some (.nx δ')) : sSeq f g δ = g δ' := by unfold sSeq; rw [h]; rfl
theorem sSeq_rt {f g : Fs} {δ : Dl} {d : D} (h : f δ = some (.rt d)) : sSeq f g δ = some (.rt d) := by unfold sSeq; rw [h]; rfl
theorem sSet_of {f : Fe} {i : Nat} {δ : Dl} {d : D} (h : f δ = some d) : sSet i f δ = some (.nx (δ.set i (some d))) := by unfold sSet; rw [h]; rfl
theorem sRet_of {f : Fe} {δ : Dl} {d : D} (h : f δ = some d) : sRet f δ = some (.rt d) := by unfold sRet; rw [h]; rfl
theorem sIf_t {p : Fb} {f g : Fs} {δ : Dl} (h : p δ = some true) : sIf p f g δ = f δ := by unfold sIf; rw [h]; rfl
theorem sIf_f {p : Fb} {f g : Fs} {δ : Dl} (h : p δ = some false) : sIf p f g δ = g δ := by unfold sIf; rw [h]; rfl
theorem eOp_of {o : D → D → Option D} {f g : Fe} {δ : Dl} {x y d : D} (h1 : f δ = some x) (h2 : g δ = some y) (h3 : o x y = some d) : eOp o f g δ = some d := by
  unfold eOp
  rw [h1, h2]
  exact h3
theorem eUn_of {o : D → Option D} {f : Fe} {δ : Dl} {x d : D} (h1 : f δ = some x) (h3 : o x = some d) : eUn o f δ = some d := by
  unfold eUn
  rw [h1]
  exact h3
theorem eCall_of {F : List D → Option D} {f : Fa} {δ : Dl} {xs : List D} {d : D} (h1 : f δ = some xs) (h3 : F xs = some d) : eCall F f δ = some d := by
  unfold eCall
  rw [h1]
  exact h3
theorem aCons_of {f : Fe} {g : Fa} {δ : Dl} {x : D} {xs : List D} (h1 : f δ = some x) (h2 : g δ = some xs) : aCons f g δ = some (x :: xs) := by
  unfold aCons
  rw [h1, h2]
  rfl
theorem oI_of {C : Int → Int → Bool} {r : Int → Int → D} {i j : Int} (h : C i j = true) : oI C r (.int i) (.int j) = some (r i j) := by
  show (if C i j then some (r i j) else none) = _
  rw [if_pos h]
theorem mul_of {i j : Int} (h : cMul i j = true) : oMul (.int i) (.int j) = some (.int (i * j)) := by
  show (if cMul i j then some (PyData.int (i * j)) else none) = _
  rw [if_pos h]
theorem cMul_l {i j : Int} (h1 : -(2 ^ 64) < i) (h2 : i < 2 ^ 64) : cMul i j = true := by
  unfold cMul
  rw [decide_eq_true h1, decide_eq_true h2]
  simp
theorem cMul_r {i j : Int} (h1 : -(2 ^ 64) < j) (h2 : j < 2 ^ 64) : cMul i j = true := by
  unfold cMul
  rw [decide_eq_true h1, decide_eq_true h2]
  simp
theorem div_of {i j : Int} (h : 0 < j) (h2 : j < 1073741824) : oDiv (.int i) (.int j) = some (.int (i / j)) := oI_of (by
  unfold cDiv
  rw [decide_eq_true h, decide_eq_true h2]
  rfl)
theorem mod_of {i j : Int} (h : 0 < j) : oMod (.int i) (.int j) = some (.int (i % j)) := oI_of (by
  unfold cMod
  exact decide_eq_true h)
theorem fit_of {n : Nat} (h : n ≤ 16777216) : fit n = true := decide_eq_true h
theorem lcF_map {α : Type} {gf : Fg} {ct : Fb} {fe : Fe} {δ : Dl} {e g : α → D} : ∀ {xs : List α}, (∀ x ∈ xs, ∃ δ1, gf (e x) δ = some δ1 ∧ ct δ1 = some true ∧ fe δ1 = some (g x)) → lcF gf ct fe δ (xs.map e) = some (xs.map g)
  | [], _ => rfl
  | x :: xs, h => by
    obtain ⟨δ1, h1, h2, h3⟩ := h x List.mem_cons_self
    rw [List.map_cons, List.map_cons]
    unfold lcF
    rw [h1]
    show (ct δ1).bind _ = _
    rw [h2]
    show (fe δ1).bind _ = _
    rw [h3]
    show (lcF gf ct fe δ (xs.map e)).bind _ = _
    rw [lcF_map fun y hy => h y (List.mem_cons_of_mem _ hy)]
    rfl
theorem lcF_filter {α : Type} {gf : Fg} {ct : Fb} {fe : Fe} {δ : Dl} {e g : α → D} {p : α → Bool} : ∀ {xs : List α}, (∀ x ∈ xs, ∃ δ1, gf (e x) δ = some δ1 ∧ ct δ1 = some (p x) ∧ (p x = true → fe δ1 = some (g x))) → lcF gf ct fe δ (xs.map e) = some ((xs.filter p).map g)
  | [], _ => rfl
  | x :: xs, h => by
    obtain ⟨δ1, h1, h2, h3⟩ := h x List.mem_cons_self
    rw [List.map_cons]
    unfold lcF
    rw [h1]
    show (ct δ1).bind _ = _
    rw [h2]
    cases hp : p x with
    | true =>
      show (fe δ1).bind _ = _
      rw [h3 hp]
      show (lcF gf ct fe δ (xs.map e)).bind _ = _
      rw [lcF_filter fun y hy => h y (List.mem_cons_of_mem _ hy), List.filter_cons_of_pos hp]
      rfl
    | false =>
      show lcF gf ct fe δ (xs.map e) = _
      rw [lcF_filter fun y hy => h y (List.mem_cons_of_mem _ hy), List.filter_cons_of_neg (by rw [hp]; simp)]
theorem eLc_map {α : Type} {fi : Fi} {sel : List (Option Nat)} {gf : Fg} {ct : Fb} {fe : Fe} {δ : Dl} {e g : α → D} {xs : List α} (hi : fi δ = some (xs.map e)) (hl : xs.length ≤ 16777216) (h : ∀ x ∈ xs, ∃ δ1, gf (e x) (selD sel δ) = some δ1 ∧ ct δ1 = some true ∧ fe δ1 = some (g x)) :
    eLc fi sel gf ct fe δ = some (.list (xs.map g)) := by
  unfold eLc
  rw [hi]
  show (if fit (xs.map e).length then _ else _) = _
  rw [if_pos (fit_of (by rw [List.length_map]; exact hl)), lcF_map h]
  rfl
theorem eLc_filter {α : Type} {fi : Fi} {sel : List (Option Nat)} {gf : Fg} {ct : Fb} {fe : Fe} {δ : Dl} {e g : α → D} {p : α → Bool} {xs : List α} (hi : fi δ = some (xs.map e)) (hl : xs.length ≤ 16777216)
    (h : ∀ x ∈ xs, ∃ δ1, gf (e x) (selD sel δ) = some δ1 ∧ ct δ1 = some (p x) ∧ (p x = true → fe δ1 = some (g x))) : eLc fi sel gf ct fe δ = some (.list ((xs.filter p).map g)) := by
  unfold eLc
  rw [hi]
  show (if fit (xs.map e).length then _ else _) = _
  rw [if_pos (fit_of (by rw [List.length_map]; exact hl)), lcF_filter h]
  rfl
theorem forF_all {gf : Fg} {body : Fs} {P : Dl → Prop} : ∀ {xs : List D} {δ : Dl}, (∀ x ∈ xs, ∀ δ, P δ → ∃ δ1 δ2, gf x δ = some δ1 ∧ body δ1 = some (.nx δ2) ∧ P δ2) → P δ → ∃ δ', forF gf body xs δ = some (.nx δ') ∧ P δ'
  | [], δ, _, h => ⟨δ, rfl, h⟩
  | x :: xs, δ, st, h => by
    obtain ⟨δ1, δ2, h1, h2, h3⟩ := st x List.mem_cons_self δ h
    obtain ⟨δ', h4, h5⟩ := forF_all (fun y hy => st y (List.mem_cons_of_mem _ hy)) h3
    refine ⟨δ', ?_, h5⟩
    unfold forF
    rw [h1]
    show (body δ1).bind _ = _
    rw [h2]
    exact h4
theorem atI_of {α : Type} {l : List α} {i : Nat} {x : α} (h : l[i]? = some x) : atI l (i : Int) = some x := by
  have hi := (List.getElem?_eq_some_iff.mp h).1
  unfold atI ixN
  rw [if_pos (by omega), if_pos (by omega)]
  show l[((i : Nat) : Int).toNat]? = some x
  rw [Int.toNat_natCast]
  exact h
theorem allOf_ints' (ns : List Int) : allOf isInt (ns.map PyData.int) = some ns := by
  induction ns with
  | nil => rfl
  | cons n ns ih => show (allOf isInt (ns.map PyData.int)).bind _ = _; rw [ih]; rfl
theorem fSum_list (ns : List Int) : fSum [.list (ns.map PyData.int)] = some (.int ns.sum) := by
  show (allOf isInt (ns.map PyData.int)).bind _ = _
  rw [allOf_ints']; rfl
theorem fSum_tup (ns : List Int) : fSum [.tuple (ns.map PyData.int)] = some (.int ns.sum) := by
  show (allOf isInt (ns.map PyData.int)).bind _ = _
  rw [allOf_ints']; rfl
theorem neg_of (i : Int) : oNeg (.int i) = some (.int (-i)) := rfl
theorem add_of (i j : Int) : oAdd (.int i) (.int j) = some (.int (i + j)) := rfl
theorem sub_of (i j : Int) : oSub (.int i) (.int j) = some (.int (i - j)) := rfl
theorem eIf_t {p : Fb} {f g : Fe} {δ : Dl} (h : p δ = some true) : eIf p f g δ = f δ := by unfold eIf; rw [h]; rfl
theorem eIf_f {p : Fb} {f g : Fe} {δ : Dl} (h : p δ = some false) : eIf p f g δ = g δ := by unfold eIf; rw [h]; rfl
theorem rng_of (n : Nat) (h : n ≤ 1000) : rngOf [.int (n : Int)] = some ((List.range n).map fun (i : Nat) => PyData.int (i : Int)) := by
  have hc : cR (n : Int) = true := by
    unfold cR
    rw [decide_eq_true (show -(2 ^ 62) ≤ (n : Int) by omega), decide_eq_true (show (n : Int) < 2 ^ 62 by omega)]
    rfl
  have e : rngOf [.int (n : Int)] = some (rngD 0 ((n : Int)).toNat) := by
    simp only [rngOf, hc, if_true]
  rw [e, Int.toNat_natCast]
  unfold rngD
  refine congrArg some (List.map_congr_left fun i _ => ?_)
  rw [Int.zero_add]
theorem iRng_of {f : Fe} {δ : Dl} {n : Nat} (hf : f δ = some (.int (n : Int))) (h : n ≤ 1000) : iRng (aCons f aNil) δ = some ((List.range n).map fun (i : Nat) => PyData.int (i : Int)) := by
  unfold iRng
  rw [aCons_of hf rfl, Option.bind_some, rng_of n h]
theorem iSeq_tup {f : Fe} {δ : Dl} {l : List D} (hf : f δ = some (.tuple l)) : iSeq f δ = some l := by unfold iSeq; rw [hf]; rfl
theorem iSeq_lst {f : Fe} {δ : Dl} {l : List D} (hf : f δ = some (.list l)) : iSeq f δ = some l := by unfold iSeq; rw [hf]; rfl
theorem len_tup {f : Fe} {δ : Dl} {l : List D} (hf : f δ = some (.tuple l)) : eCall fLen (aCons f aNil) δ = some (.int (l.length : Int)) := by
  rw [eCall_of (aCons_of hf rfl) rfl]
theorem len_lst {f : Fe} {δ : Dl} {l : List D} (hf : f δ = some (.list l)) : eCall fLen (aCons f aNil) δ = some (.int (l.length : Int)) := by
  rw [eCall_of (aCons_of hf rfl) rfl]
theorem ix_tup {f g : Fe} {δ : Dl} {l : List D} {i : Nat} {d : D} (hf : f δ = some (.tuple l)) (hg : g δ = some (.int (i : Int))) (h : l[i]? = some d) : eOp oIx f g δ = some d := eOp_of hf hg (atI_of h)
theorem ix_lst {f g : Fe} {δ : Dl} {l : List D} {i : Nat} {d : D} (hf : f δ = some (.list l)) (hg : g δ = some (.int (i : Int))) (h : l[i]? = some d) : eOp oIx f g δ = some d := eOp_of hf hg (atI_of h)
theorem get_int {r : List Int} {j : Nat} (h : j < r.length) : (r.map PyData.int)[j]? = some (.int (r.getD j 0)) := by
  rw [List.getElem?_map, List.getElem?_eq_getElem h, List.getD_eq_getElem?_getD, List.getElem?_eq_getElem h]
  rfl
theorem get_row {t : List (List Int)} {i : Nat} (h : i < t.length) : (t.map encR)[i]? = some (encR (t.getD i [])) := by
  rw [List.getElem?_map, List.getElem?_eq_getElem h, List.getD_eq_getElem?_getD, List.getElem?_eq_getElem h]
  rfl
theorem cT_tup {f : Fe} {δ : Dl} {l : List D} (hf : f δ = some (.tuple l)) : cT f δ = some (!l.isEmpty) := by unfold cT; rw [hf]; rfl
theorem cT_lst {f : Fe} {δ : Dl} {l : List D} (hf : f δ = some (.list l)) : cT f δ = some (!l.isEmpty) := by unfold cT; rw [hf]; rfl
theorem cB_of {f : Fe} {δ : Dl} {t : Bool} (hf : f δ = some (.bool t)) : cB f δ = some t := by unfold cB; rw [hf]; rfl
theorem oSeq_nx {f g : Fo} {δ δ' : Dl} {ds ds' : List D} (h : f δ ds = some (.nx δ', ds')) : oSeq f g δ ds = g δ' ds' := by unfold oSeq; rw [h]; rfl
theorem oLift_nx {f : Fs} {δ δ' : Dl} {ds : List D} (h : f δ = some (.nx δ')) : oLift f δ ds = some (.nx δ', ds) := by unfold oLift; rw [h]; rfl
theorem oApp_of {o : Nat} {f : Fe} {δ : Dl} {ds : List D} {d : D} (h : f δ = some d) (hl : ds.length ≤ 16000000) : oApp o f δ ds = some (.nx δ, ds ++ [d]) := by
  unfold oApp
  rw [h, Option.bind_some, if_pos (fit_of (by omega))]
theorem forO_build {α : Type} {gf : Fg} {body : Fo} {P : Dl → Prop} {e g : α → D} : ∀ {xs : List α} {δ : Dl} {ds : List D}, ds.length + xs.length ≤ 2000 →
    (∀ x ∈ xs, ∀ δ ds, P δ → ds.length ≤ 2000 → ∃ δ1 δ2, gf (e x) δ = some δ1 ∧ body δ1 ds = some (.nx δ2, ds ++ [g x]) ∧ P δ2) → P δ → ∃ δ', forO gf body (xs.map e) δ ds = some (.nx δ', ds ++ xs.map g) ∧ P δ'
  | [], δ, ds, _, _, h => ⟨δ, by simp [forO], h⟩
  | x :: xs, δ, ds, hl, st, h => by
    rw [List.length_cons] at hl
    obtain ⟨δ1, δ2, h1, h2, h3⟩ := st x List.mem_cons_self δ ds h (by omega)
    obtain ⟨δ', h4, h5⟩ := forO_build (xs := xs) (ds := ds ++ [g x]) (by rw [List.length_append, List.length_singleton]; omega) (fun y hy => st y (List.mem_cons_of_mem _ hy)) h3
    refine ⟨δ', ?_, h5⟩
    rw [List.map_cons]
    unfold forO
    rw [h1, Option.bind_some, h2, Option.bind_some]
    show forO gf body (xs.map e) δ2 (ds ++ [g x]) = _
    rw [h4, List.append_assoc]
    rfl
theorem emod_small {x m : Int} (h : 0 < m) (h2 : m < 2 ^ 64) : -(2 ^ 64) < x % m ∧ x % m < 2 ^ 64 := by
  have h1 := Int.emod_nonneg x (show m ≠ 0 by omega)
  have h3 := Int.emod_lt_of_pos x h
  omega
structure Rows (t : List (List Int)) (w : Nat) : Prop where
  tall : 1 ≤ t.length ∧ t.length ≤ 100
  wide : w ≤ 100
  rows : ∀ r ∈ t, r.length = w
theorem Tab.toRows {t : List (List Int)} {w : Nat} (x : Tab t w) : Rows t w := ⟨⟨x.tall.1, by have := x.tall.2; omega⟩, by have := x.wide.2; omega, x.rows⟩
def colI (t : List (List Int)) (j : Nat) : Int := (t.map fun r => r.getD j 0).sum
def sumsD (t : List (List Int)) (w : Nat) : D := .tuple [encR (t.map List.sum), encR ((List.range w).map fun j => colI t j), .int (t.map List.sum).sum]
theorem head_enc {t : List (List Int)} {w : Nat} (x : Rows t w) : ∃ r ts, t = r :: ts ∧ r.length = w := by
  cases t with
  | nil => have := x.tall.1; simp at this
  | cons r ts => exact ⟨r, ts, rfl, x.rows r List.mem_cons_self⟩
theorem cOr_f {p q : Fb} {δ : Dl} (h1 : p δ = some false) : cOr p q δ = q δ := by unfold cOr; rw [h1]; rfl
theorem cOr_t {p q : Fb} {δ : Dl} (h1 : p δ = some true) : cOr p q δ = some true := by unfold cOr; rw [h1]; rfl
theorem cNot_of {p : Fb} {δ : Dl} {t : Bool} (h1 : p δ = some t) : cNot p δ = some (!t) := by unfold cNot; rw [h1]; rfl
theorem cT_bool {f : Fe} {δ : Dl} {t : Bool} (h : f δ = some (.bool t)) : cT f δ = some t := by unfold cT; rw [h]; rfl
theorem eAnd_t {f g : Fe} {δ : Dl} (h : f δ = some (.bool true)) : eAnd f g δ = g δ := by unfold eAnd; rw [h]; rfl
theorem eNot_of {f : Fe} {δ : Dl} {t : Bool} (h : f δ = some (.bool t)) : eNot f δ = some (.bool (!t)) := by unfold eNot; rw [h]; rfl
theorem eIs_of {T : String} {f : Fe} {δ : Dl} {d : D} {t : Bool} (h : f δ = some d) (hd : noD d = true) (hk : isK T d = t) : eIs T f δ = some (.bool t) := by
  unfold eIs
  rw [h, Option.bind_some, if_pos hd, hk]
theorem shaped_int (i : Int) : SeqAt.shaped (.int i) = true := by
  unfold SeqAt.shaped
  rw [show PyData.canLay0 (.int i) = true by simp [PyData.canLay0], show PyData.depth (.int i) = 0 by simp [PyData.depth]]
  rfl
theorem ne_int (i j : Int) : oNe (.int i) (.int j) = some (.bool (!(i == j))) := by
  unfold oNe
  rw [shaped_int, shaped_int]
  simp [PyData.eqv]
theorem ne_eq {i j : Int} (h : i = j) : oNe (.int i) (.int j) = some (.bool false) := by
  rw [ne_int, h]
  simp
mutual
theorem eqv_refl : ∀ d : D, noDict d = true → PyData.eqv d d = true
  | .none, _ => by simp [PyData.eqv]
  | .bool b, _ => by simp [PyData.eqv]
  | .int i, _ => by simp [PyData.eqv]
  | .str x, _ => by simp [PyData.eqv]
  | .list l, h => by simp only [PyData.eqv]; exact eqv_reflL l (by simpa [noDict] using h)
  | .tuple l, h => by simp only [PyData.eqv]; exact eqv_reflL l (by simpa [noDict] using h)
  | .dict _, h => by simp [noDict] at h
theorem eqv_reflL : ∀ l : List D, noDicts l = true → PyData.eqvAll l l = true
  | [], _ => by simp [PyData.eqvAll]
  | d :: ds, h => by
    have h' : noDict d = true ∧ noDicts ds = true := by simpa [noDicts] using h
    simp only [PyData.eqvAll]
    rw [eqv_refl d h'.1, eqv_reflL ds h'.2]
    rfl
end
theorem lay_ints (ns : List Int) : PyData.canLayAll0 (ns.map PyData.int) = true ∧ PyData.depthAll (ns.map PyData.int) = 0 ∧ noDicts (ns.map PyData.int) = true := by
  induction ns with
  | nil => exact ⟨by simp [PyData.canLayAll0], by simp [PyData.depthAll], by simp [noDicts]⟩
  | cons n ns ih =>
    obtain ⟨h1, h2, h3⟩ := ih
    refine ⟨?_, ?_, ?_⟩
    · simp only [List.map_cons, PyData.canLayAll0, PyData.canLay0, h1]; rfl
    · simp only [List.map_cons, PyData.depthAll, PyData.depth, h2]; rfl
    · simp only [List.map_cons, noDicts, noDict, h3]; rfl
theorem lay_row (r : List Int) : PyData.canLay0 (encR r) = true ∧ PyData.depth (encR r) = 1 ∧ noDict (encR r) = true := by
  obtain ⟨h1, h2, h3⟩ := lay_ints r
  unfold encR
  exact ⟨by simp only [PyData.canLay0, h1], by simp only [PyData.depth, h2], by simp only [noDict, h3]⟩
theorem beq_nat (a b : Nat) : ((a : Int) == (b : Int)) = decide (a = b) := by
  rw [Bool.beq_eq_decide_eq, decide_eq_decide]; omega
theorem layAll_mem : ∀ {l : List D} {p : D}, PyData.canLayAll0 l = true → p ∈ l → PyData.canLay0 p = true
  | [], _, _, hp => by cases hp
  | d :: ds, p, h, hp => by
    have h' : PyData.canLay0 d = true ∧ PyData.canLayAll0 ds = true := by simpa [PyData.canLayAll0] using h
    rcases List.mem_cons.mp hp with e | e
    · rw [e]; exact h'.1
    · exact layAll_mem h'.2 e
theorem layAll_of : ∀ {l : List D}, (∀ p ∈ l, PyData.canLay0 p = true) → PyData.canLayAll0 l = true
  | [], _ => by simp [PyData.canLayAll0]
  | d :: ds, h => by
    simp only [PyData.canLayAll0]
    rw [h d List.mem_cons_self, layAll_of fun p hp => h p (List.mem_cons_of_mem _ hp)]
    rfl
theorem noD_of {d : D} (h : PyData.canLay0 d = true) : noD d = true := by
  cases d with
  | dict _ => simp [PyData.canLay0] at h
  | _ => rfl
theorem add_lst (l m : List D) (h : l.length + m.length ≤ 16777216) : oAdd (.list l) (.list m) = some (.list (l ++ m)) := by
  show (if fit (l.length + m.length) then some (PyData.list (l ++ m)) else none) = _
  rw [if_pos (fit_of h)]
theorem oOpen_of {o : Nat} {fa : Fa} {fo : Fo} {δ : Dl} {d : D} {ds0 : List D} (hl : o < δ.length) (h0 : fa δ = some ds0) (hf : ds0.length ≤ 16777216) (h : ∀ p : Addr, ∃ ds, fo (δ.set o (some (opq p))) ds0 = some (.rt d, ds)) : oOpen o fa fo δ = some (.rt d) := by
  unfold oOpen
  have hc : o < δ.length ∧ ∃ d ds0, fa δ = some ds0 ∧ fit ds0.length = true ∧ ∀ p : Addr, ∃ ds, fo (δ.set o (some (opq p))) ds0 = some (.rt d, ds) := ⟨hl, d, ds0, h0, fit_of hf, h⟩
  rw [dif_pos hc]
  obtain ⟨ds1, h1, _, h3⟩ := Classical.choose_spec hc.2
  rw [h0] at h1
  cases h1
  obtain ⟨x, e1⟩ := h (0 : Nat)
  obtain ⟨y, e2⟩ := h3 (0 : Nat)
  rw [e1] at e2
  injection e2 with e3
  have e4 : Fl.rt d = Fl.rt (Classical.choose hc.2) := (Prod.mk.inj e3).1
  rw [← e4]
theorem enum_map {α : Type} (l : List α) (f : α → D) : enumD (l.map f) = l.zipIdx.map fun p => PyData.tuple [.int (p.2 : Int), f p.1] := by
  unfold enumD
  rw [List.zipIdx_map, List.map_map]
  rfl
theorem iEnum_lst {f : Fe} {δ : Dl} {l : List D} (hf : f δ = some (.list l)) : iEnum f δ = some (enumD l) := by unfold iEnum; rw [hf]; rfl
theorem zip_map {α β : Type} (l : List α) (m : List β) (f : α → D) (g : β → D) : zipD (l.map f) (m.map g) = (l.zip m).map fun p => PyData.tuple [f p.1, g p.2] := by
  unfold zipD
  rw [List.zip_map, List.map_map]
  rfl
theorem iZip_of {f g : Fe} {δ : Dl} {x y : D} {l m : List D} (hf : f δ = some x) (hl : isSeq x = some l) (hg : g δ = some y) (hm : isSeq y = some m) : iZip f g δ = some (zipD l m) := by
  unfold iZip
  rw [hf, Option.bind_some, hl, Option.bind_some, hg, Option.bind_some, hm]
  rfl
theorem get_intL {r : List Int} {j : Nat} (h : j < r.length) : (r.map PyData.int)[j]? = some (.int (r.getD j 0)) := get_int h
theorem get_rowL {g : List (List Int)} {i : Nat} (h : i < g.length) : (g.map encL)[i]? = some (encL (g.getD i [])) := by
  rw [List.getElem?_map, List.getElem?_eq_getElem h, List.getD_eq_getElem?_getD, List.getElem?_eq_getElem h]
  rfl
theorem lt_nat {f g : Fe} {δ : Dl} {i j : Nat} (h1 : f δ = some (.int (i : Int))) (h2 : g δ = some (.int (j : Int))) : cB (eOp oLt f g) δ = some (decide (i < j)) := by
  rw [cB_of (eOp_of h1 h2 rfl)]
  exact congrArg some (by rw [decide_eq_decide]; omega)
theorem evs_step {α : Type} : ∀ (l : List α), stepD 2 l = RG.evs l := by
  have key : ∀ (n : Nat) (l : List α), l.length ≤ n → stepD 2 l = RG.evs l := fun n => by
    induction n using Nat.strongRecOn with
    | _ n ih =>
      intro l hl
      match l, hl with
      | [], _ => simp [stepD, RG.evs]
      | [x], _ => simp [stepD, RG.evs]
      | x :: y :: r, hl =>
        have hr : stepD 2 r = RG.evs r := ih r.length (by simp at hl; omega) r (Nat.le_refl _)
        show stepD 2 (x :: y :: r) = x :: RG.evs r
        rw [← hr]
        unfold stepD
        rw [show ((x :: y :: r).length + 2 - 1) / 2 = (r.length + 2 - 1) / 2 + 1 by simp only [List.length_cons]; omega, List.range_succ_eq_map, List.filterMap_cons]
        show x :: _ = _
        rw [List.filterMap_map]
        refine congrArg (x :: ·) ?_
        congr 1
        funext i
        show (x :: y :: r)[(i + 1) * 2]? = r[i * 2]?
        rw [show (i + 1) * 2 = i * 2 + 1 + 1 by omega, List.getElem?_cons_succ, List.getElem?_cons_succ]
  exact fun l => key l.length l (Nat.le_refl _)
theorem ods_evs {α : Type} : ∀ (l : List α), RG.ods l = RG.evs (l.drop 1)
  | [] => rfl
  | [_] => rfl
  | [_, _] => rfl
  | [_, _, _] => rfl
  | _ :: y :: z :: w :: r => by
    show y :: RG.ods (z :: w :: r) = y :: RG.evs (w :: r)
    rw [ods_evs (z :: w :: r)]
    rfl
theorem cut_from {α : Type} (l : List α) (k : Nat) : cutD l (some (k : Int)) none = l.drop k := by
  show (l.drop (if (k : Int) < 0 then ((k : Int) + (l.length : Int)).toNat else min ((k : Int)).toNat l.length)).take (l.length - (if (k : Int) < 0 then ((k : Int) + (l.length : Int)).toNat else min ((k : Int)).toNat l.length)) = _
  rw [if_neg (by omega)]
  show (l.drop (min ((k : Int)).toNat l.length)).take (l.length - min ((k : Int)).toNat l.length) = _
  rw [Int.toNat_natCast]
  by_cases h : k ≤ l.length
  · rw [Nat.min_eq_left h, List.take_of_length_le (by rw [List.length_drop]; omega)]
  · rw [Nat.min_eq_right (by omega), List.drop_eq_nil_of_le (Nat.le_refl _), List.drop_eq_nil_of_le (by omega), List.take_nil]
theorem cut_to {α : Type} (l : List α) (k : Nat) : cutD l none (some (k : Int)) = l.take k := by
  show (l.drop 0).take ((if (k : Int) < 0 then ((k : Int) + (l.length : Int)).toNat else min ((k : Int)).toNat l.length) - 0) = _
  rw [if_neg (by omega), Int.toNat_natCast, List.drop_zero, Nat.sub_zero]
  by_cases h : k ≤ l.length
  · rw [Nat.min_eq_left h]
  · rw [Nat.min_eq_right (by omega), List.take_of_length_le (Nat.le_refl _), List.take_of_length_le (by omega)]
theorem cut_last {α : Type} (l : List α) : cutD l none (some (-1)) = l.dropLast := by
  show (l.drop 0).take ((if (-1 : Int) < 0 then (-1 + (l.length : Int)).toNat else min ((-1 : Int)).toNat l.length) - 0) = _
  rw [if_pos (by decide), List.dropLast_eq_take, List.drop_zero]
  congr 1
  omega
theorem minF_eq : ∀ (l : List Int) (x : Int), minF x l = RG.leastF x l
  | [], _ => rfl
  | y :: r, x => by show minF (if y < x then y else x) r = RG.leastF (if y < x then y else x) r; exact minF_eq r _
theorem forF_test {gf : Fg} {body : Fs} {P : Dl → Prop} {test : D → Bool} {r : D} : ∀ {xs : List D} {δ : Dl}, (∀ x ∈ xs, ∀ δ, P δ → ∃ δ1, gf x δ = some δ1 ∧ ((test x = true ∧ ∃ δ2, body δ1 = some (.nx δ2) ∧ P δ2) ∨ (test x = false ∧ body δ1 = some (.rt r)))) → P δ →
    (xs.all test = true ∧ ∃ δ', forF gf body xs δ = some (.nx δ') ∧ P δ') ∨ (xs.all test = false ∧ forF gf body xs δ = some (.rt r))
  | [], δ, _, h => .inl ⟨rfl, δ, rfl, h⟩
  | x :: xs, δ, st, h => by
    obtain ⟨δ1, h1, h2⟩ := st x List.mem_cons_self δ h
    rcases h2 with ⟨ht, δ2, h3, h4⟩ | ⟨ht, h3⟩
    · have ih := forF_test (fun y hy => st y (List.mem_cons_of_mem _ hy)) h4
      have e : forF gf body (x :: xs) δ = forF gf body xs δ2 := by
        show (gf x δ).bind _ = _
        rw [h1, Option.bind_some, h3]
        rfl
      rw [List.all_cons, ht, Bool.true_and, e]
      exact ih
    · refine .inr ⟨by rw [List.all_cons, ht, Bool.false_and], ?_⟩
      show (gf x δ).bind _ = _
      rw [h1, Option.bind_some, h3]
      rfl
theorem eTup_of {g : Fa} {δ : Dl} {xs : List D} (h : g δ = some xs) (hl : xs.length ≤ 16777216) : eTup g δ = some (.tuple xs) := by
  unfold eTup mkT
  rw [h, Option.bind_some, if_pos (fit_of hl)]
theorem eLst_of {g : Fa} {δ : Dl} {xs : List D} (h : g δ = some xs) (hl : xs.length ≤ 16777216) : eLst g δ = some (.list xs) := by
  unfold eLst mkL
  rw [h, Option.bind_some, if_pos (fit_of hl)]
end PU
namespace PU
open PySem PySem.Spec L2
open PyProof.Rows hiding St
structure GridAt (H : Hp) (g : Addr) (rs : List Addr) (M : List (List Int)) : Prop where
  top : H g = some (.lst (rs.map V.ref))
  len : rs.length = M.length
  row : ∀ (i : Nat) (r : Addr) (m : List Int), rs[i]? = some r → M[i]? = some m → H r = some (.lst (m.map V.int))
  nd : (g :: rs).Nodup
open Classical in
noncomputable def rmG (H : Hp) (g : Addr) (rs : List Addr) : Hp := fun a => if a ∈ g :: rs then none else H a
section
variable {K : PySem.W.Frag} {H H' : Hp} {g : Addr} {rs : List Addr} {M : List (List Int)}
theorem rmG_in {a : Addr} (h : a ∈ g :: rs) : rmG H g rs a = none := by unfold rmG; rw [if_pos h]
theorem rmG_out {a : Addr} (h : a ∉ g :: rs) : rmG H g rs a = H a := by unfold rmG; rw [if_neg h]
theorem same_rmG : Same (rmG H g rs) H := fun b o h => by
  by_cases hb : b ∈ g :: rs
  · rw [rmG_in hb] at h; cases h
  · rw [rmG_out hb] at h; exact h
theorem rmG_mono (s : Same H H') : Same (rmG H g rs) (rmG H' g rs) := fun b o h => by
  by_cases hb : b ∈ g :: rs
  · rw [rmG_in hb] at h; cases h
  · rw [rmG_out hb] at h ⊢; exact s b o h
theorem rmG_upd {a : Addr} {o : HO} (h : a ∈ g :: rs) : rmG (upd H a o) g rs = rmG H g rs := by
  funext b
  by_cases hb : b ∈ g :: rs
  · rw [rmG_in hb, rmG_in hb]
  · rw [rmG_out hb, rmG_out hb, upd_ne (fun z => hb (by rw [z]; exact h))]
theorem GridAt.mono (G : GridAt H g rs M) (s : Same H H') : GridAt H' g rs M := ⟨s _ _ G.top, G.len, fun i r m h1 h2 => s _ _ (G.row i r m h1 h2), G.nd⟩
theorem reps_ix : ∀ {ds : List D} {vs : List V}, ds.length = vs.length → (∀ (i : Nat) d v, ds[i]? = some d → vs[i]? = some v → Rep K H d v) → Reps K H ds vs
  | [], [], _, _ => Reps.nil
  | [], _ :: _, h, _ => by simp at h
  | _ :: _, [], h, _ => by simp at h
  | d :: ds, v :: vs, h, q => Reps.cons (q 0 d v rfl rfl) (reps_ix (by simpa using h) fun i d v h1 h2 => q (i + 1) d v (by simpa using h1) (by simpa using h2))
theorem GridAt.rep (G : GridAt H g rs M) : Rep K H (encG M) (.ref g) := by
  refine Rep.ofLst (SqL.of G.top) (reps_ix (by rw [List.length_map, List.length_map, G.len]) fun i d v h1 h2 => ?_)
  rw [List.getElem?_map] at h1 h2
  cases hm : M[i]? with
  | none => rw [hm] at h1; cases h1
  | some m =>
    cases hr : rs[i]? with
    | none => rw [hr] at h2; cases h2
    | some r =>
      rw [hm] at h1
      rw [hr] at h2
      cases h1
      cases h2
      exact Rep.ofLst (SqL.of (G.row i r m hr hm)) (reps_of_ints m)
theorem GridAt.set (G : GridAt H g rs M) {i : Nat} {r : Addr} (hr : rs[i]? = some r) (m' : List Int) : GridAt (upd H r (.lst (m'.map V.int))) g rs (M.set i m') where
  top := by
    have hne : g ≠ r := fun z => (List.nodup_cons.mp G.nd).1 (by rw [z]; exact List.mem_of_getElem? hr)
    rw [upd_ne hne]; exact G.top
  len := by rw [List.length_set]; exact G.len
  row := fun j q m h1 h2 => by
    by_cases hj : i = j
    · subst hj
      rw [hr] at h1
      cases h1
      have hl : i < M.length := by rw [← G.len]; exact (List.getElem?_eq_some_iff.mp hr).1
      rw [List.getElem?_set_self hl] at h2
      cases h2
      exact upd_same
    · rw [List.getElem?_set_ne hj] at h2
      have hne : q ≠ r := fun z => by
        have nd := (List.nodup_cons.mp G.nd).2
        obtain ⟨a1, b1⟩ := List.getElem?_eq_some_iff.mp hr
        obtain ⟨a2, b2⟩ := List.getElem?_eq_some_iff.mp h1
        exact hj ((List.getElem_inj nd).mp (by rw [b1, b2, z]))
      rw [upd_ne hne]
      exact G.row j q m h1 h2
  nd := G.nd
def KD (K : PySem.W.Frag) (H : Hp) : Prop := ∀ (a : Addr) (xs ys : List V), SqT K H a xs → H a = some (.lst ys) → False
theorem rep_apart (kd : KD K H) (G : GridAt H g rs M) {ps : List (Nat × Nat)} {v : V} (hne : ps ≠ []) (h : Rep K H (encP ps) v) : Rep K (rmG H g rs) (encP ps) v := by
  obtain ⟨a, xs, rfl, sq, rps⟩ := rep_lst h
  have tupOk : ∀ {t : Addr} {ts : List V}, SqT K H t ts → SqT K (rmG H g rs) t ts := fun {t ts} st => by
    have ht : t ∉ g :: rs := fun z => by
      rcases List.mem_cons.mp z with e | e
      · subst e; exact kd _ _ _ st G.top
      · obtain ⟨i, hi, ei⟩ := List.mem_iff_getElem.mp e
        have hm : i < M.length := by rw [← G.len]; exact hi
        exact kd _ _ _ st (by rw [← ei]; exact G.row i _ _ (List.getElem?_eq_getElem hi) (List.getElem?_eq_getElem hm))
    rcases st with (st | ⟨o, st⟩) | st
    · exact .inl (.inl (by rw [rmG_out ht]; exact st))
    · exact .inl (.inr ⟨o, by rw [rmG_out ht]; exact st⟩)
    · exact .inr st
  have items : Reps K (rmG H g rs) (ps.map fun (p : Nat × Nat) => PyData.tuple [.int (p.1 : Int), .int (p.2 : Int)]) xs := by
    refine reps_ix rps.length.symm fun i d v h1 h2 => ?_
    obtain ⟨d', e1, rd⟩ := rps.get h2
    rw [h1] at e1
    cases e1
    rw [List.getElem?_map] at h1
    cases hp : ps[i]? with
    | none => rw [hp] at h1; cases h1
    | some p =>
      rw [hp] at h1
      cases h1
      obtain ⟨t, ts, rfl, st, rts⟩ := rep_tup rd
      obtain ⟨x, y, rfl, rx, ry⟩ := reps2 rts
      exact Rep.ofTup (tupOk st) (Reps.cons (flat_rep rfl rx) (Reps.cons (flat_rep rfl ry) Reps.nil))
  have first : ∃ t ts, xs[0]? = some (.ref t) ∧ SqT K H t ts := by
    cases ps with
    | nil => exact absurd rfl hne
    | cons p r =>
      obtain ⟨v, vs, rfl, rv, _⟩ := rps.uncons
      obtain ⟨t, ts, rfl, st, _⟩ := rep_tup rv
      exact ⟨t, ts, rfl, st⟩
  obtain ⟨t, ts, hx0, st⟩ := first
  refine Rep.ofLst ?_ items
  rcases sq with sq | sq
  · have ha : a ∉ g :: rs := fun z => by
      have hl : ∃ ys, H a = some (.lst ys) := by
        rcases List.mem_cons.mp z with e | e
        · subst e; exact ⟨_, G.top⟩
        · obtain ⟨i, hi, ei⟩ := List.mem_iff_getElem.mp e
          have hm : i < M.length := by rw [← G.len]; exact hi
          exact ⟨_, by rw [← ei]; exact G.row i _ _ (List.getElem?_eq_getElem hi) (List.getElem?_eq_getElem hm)⟩
      obtain ⟨ys, hys⟩ := hl
      have hxy : H a = some (.lst xs) := by
        rcases sq with sq | ⟨o, sq⟩
        · exact sq
        · rw [hys] at sq; cases sq
      rcases List.mem_cons.mp z with e | e
      · subst e
        rw [G.top] at hxy
        injection hxy with hxy
        injection hxy with hxy
        rw [← hxy, List.getElem?_map] at hx0
        cases hr : rs[0]? with
        | none => rw [hr] at hx0; cases hx0
        | some r =>
          rw [hr] at hx0
          cases hx0
          have hm : 0 < M.length := by rw [← G.len]; exact (List.getElem?_eq_some_iff.mp hr).1
          exact kd _ _ _ st (G.row 0 _ _ hr (List.getElem?_eq_getElem hm))
      · obtain ⟨i, hi, ei⟩ := List.mem_iff_getElem.mp e
        have hm : i < M.length := by rw [← G.len]; exact hi
        have hrow := G.row i _ _ (List.getElem?_eq_getElem hi) (List.getElem?_eq_getElem hm)
        rw [ei, hxy] at hrow
        injection hrow with hrow
        injection hrow with hrow
        rw [hrow, List.getElem?_map] at hx0
        cases hq : M[i][0]? with
        | none => rw [hq] at hx0; cases hx0
        | some n => rw [hq] at hx0; cases hx0
    rcases sq with sq | ⟨o, sq⟩
    · exact .inl (.inl (by rw [rmG_out ha]; exact sq))
    · exact .inl (.inr ⟨o, by rw [rmG_out ha]; exact sq⟩)
  · exact .inr sq
theorem RepSt.e0 : RepSt K H [] [] := ⟨rfl, fun i d h => by simp at h⟩
theorem RepSt.c1 {d : D} {v : V} {δ : Dl} {σ : St} (h : Rep K H d v) (t : RepSt K H δ σ) : RepSt K H (some d :: δ) (some v :: σ) := ⟨by rw [List.length_cons, List.length_cons, t.len], fun i e q => by
  cases i with
  | zero => cases q; exact ⟨v, rfl, h⟩
  | succ i => exact t.get i e (by simpa using q)⟩
theorem RepSt.c0 {ov : Option V} {δ : Dl} {σ : St} (t : RepSt K H δ σ) : RepSt K H (none :: δ) (ov :: σ) := ⟨by rw [List.length_cons, List.length_cons, t.len], fun i e q => by
  cases i with
  | zero => cases q
  | succ i => exact t.get i e (by simpa using q)⟩
end
section
variable {X : Cx}
theorem ps_kd {st : Stmt} {t : TS} (h : PS X st t) : PS X st (fun D σ H => KD X.K H → t D σ H) := fun pins s σ H D I q => h pins s σ H D I (q fun a xs ys h1 h2 => by
  obtain ⟨its, _, ⟨o, e1, e2, _⟩, _⟩ := I.tuple h1
  obtain ⟨its', n, _, e3, _⟩ := I.lst h2
  rw [e1] at e3
  cases e3
  injection e2 with e2
  exact absurd e2 (by decide))
def rGetN (K : PySem.W.Frag) : V → V → Hp → VK → Prop := fun o i H Q => ∃ p xs j v, o = .ref p ∧ i = .int ((j : Nat) : Int) ∧ SqL K H p xs ∧ xs[j]? = some v ∧ Q v H
theorem get_listN : PGet X (rGetN X.K) := by
  intro pins s σ H o i ov iv Q I ro ri h
  obtain ⟨p, xs, j, v, rfl, rfl, hq, hv, q⟩ := h
  cases ro
  obtain ⟨t, rfl⟩ := ri
  obtain ⟨its, r, pl, hz⟩ := I.list hq
  obtain ⟨w, ew, rw'⟩ := r.get hv
  have hl := r.length
  have hj : j < its.length := (List.getElem?_eq_some_iff.mp ew).1
  have hn := line63
  exact wpAny_getItem_list pl.isList (by omega) (by omega) (by rw [Int.toNat_natCast]; simpa using ew) ⟨v, H, I, rw', q⟩
end
structure DfS (P : Program) (w : World) (K : PySem.W.Frag) (mg : Str → Option Value) (base : Heap) (k : Nat) (x : Str) (ps : List Str) (sp : Sp) : Prop where
  ex : ∃ (f0 : Addr) (fd : FuncData), FnOk P w K mg base CX0 k f0 fd ps sp ∧ Binds K fd ps [] ∧ PySem.W.keepIn K (.ref f0) = true ∧ mg x = some (.ref f0)
theorem pe_callS {X : Cx} {kk : Nat} {ps : List Str} {sp : Sp} {x : Str} {p0 pos : Pos} {a : Expr} {es : List Expr} {t : TA} (d : DfS X.prog X.w X.K X.mg X.base kk x ps sp) (hr : Room kk X.A) (hg : Gl X x) (ha : PA X (a :: es) t) (hdb : (x == ("__debug__" : Str)) = false := by decide)
    (he : starEach (a :: es) X.env = (false, eval a X.env) :: starEach es X.env := by rfl) (hpl : (backTo pos (starEach es X.env)).any (·.1) = false := by rfl) : PE X (.Call (.Name x p0) (a :: es) [] pos) (fun σ H Q => t σ H fun vs H1 => sp vs H1 Q E0) := by
  obtain ⟨f0, fd, h1, h2, h3, h4⟩ := d.ex
  intro pins s σ H Q I h
  refine pe_call (E := E0) h1 hr hg h4 h3 h2 .nil (pass0 (X := X)) ha hdb he hpl pins s σ H Q I ?_
  have e : tCall sp [] E0 t σ H Q = t σ H fun vs H1 => sp (vs ++ []) H1 Q E0 := rfl
  rw [e]
  have e2 : (fun (vs : List V) (H1 : Hp) => sp (vs ++ []) H1 Q E0) = fun vs H1 => sp vs H1 Q E0 := by funext vs H1; rw [List.append_nil]
  rw [e2]
  exact h
theorem addsG_snoc (c : Int) (p : Nat × Nat) : ∀ (ps : List (Nat × Nat)) (g : List (List Int)), RG.addsG g (ps ++ [p]) c = RG.addG (RG.addsG g ps c) p c
  | [], _ => rfl
  | q :: r, g => by
    show RG.addsG (RG.addG g q c) (r ++ [p]) c = _
    rw [addsG_snoc c p r]
    rfl
structure PeW (X : Cx) (e : Expr) (t : TE) : Prop where
  un : PE X e t
structure PsW (X : Cx) (st : Stmt) (t : TS) : Prop where
  un : PS X st t
structure PuCat (X : Cx) (e : Expr) (f g : Fe) : Prop where
  un : PE X e (tOp (rCatL X.K) (tP X.K f) (tP X.K g))
section
variable {X : Cx} {a b tg iter elt : Expr} {pos : Pos} {f g : Fe} {fi : Fi}
theorem pucat (ha : Pu X a f) (hb : Pu X b g) : PuCat X (.BinOp a .Add b pos) f g := ⟨pe_op op_catL ha.un hb.un⟩
theorem pew_catL (ha : Pu X a f) (hb : Pu X b g) : PeW X (.BinOp a .Add b pos) (tOp (rCatL X.K) (tP X.K f) (tP X.K g)) := ⟨pe_op op_catL ha.un hb.un⟩
theorem psw_setLc {i : Nat} {x : Str} {spos px : Pos} {N : List Str} {sel : List (Option Nat)} {scope : Scope} {XS : List (Str × NameKind)} {gt : TG} {gf : Fg} {own : List Nat} (S : LcScope X.N XS N sel scope) (hXS : X.env.scope.names = XS) (hc : X.calm = true) (hN : X.N.Nodup)
    (hi : PuI X tg iter fi) (tgd : TgD X.K gt gf own) (hg : ∀ C fp s H, PG (lcCx X N scope C fp s H) tg gt) (he : ∀ C fp s H, PuCat (lcCx X N scope C fp s H) elt f g)
    (hix : X.N[i]? = some x := by rfl) (hx : X.env.scope.names.lookup x = some .local := by rfl)
    (hsw : swapsWith (.ListComp elt [⟨tg, iter, [], 0⟩] scope pos) (some (.Name x px)) spos.line X.env = pure true := by with_unfolding_all rfl) (hs : ∀ x, foldedSetIterable iter X.env x = pure x := by intro _; rfl) :
    PsW X (.Assign [.Name x px] (.ListComp elt [⟨tg, iter, [], 0⟩] scope pos) spos) (tAsg (tLc (tPI X.K fi) sel gt (fun _ H Q => Q true H) (tOp (rCatL X.K) (tP X.K f) (tP X.K g))) (gName i)) := ⟨ps_setLc (te := tOp (rCatL X.K) (tP X.K f) (tP X.K g)) S hXS hc hN hix hx hi.un hg (fun _ _ _ _ => pif_nil) (fun C fp s H => (he C fp s H).un) hsw hs⟩
structure PssW (X : Cx) (st : List Stmt) (t : TS) : Prop where
  un : PSs X st t
variable {st : Stmt} {rest : List Stmt} {t u : TS} {te ta tb : TE}
theorem pssw_cons (h1 : PsW X st t) (h2 : PssW X rest u) : PssW X (st :: rest) (tSeq t u) := ⟨pss_cons h1.un h2.un⟩
theorem pssw_one (h : PsW X st t) : PssW X [st] t := ⟨pss_one h.un⟩
theorem psw_set {i : Nat} {x : Str} {pos' : Pos} (hN : X.N.Nodup) (h : Pu X a f) (hi : X.N[i]? = some x := by rfl) (hx : Loc X.env.scope x := by first | exact Or.inl rfl | exact Or.inr rfl) (hs : swapsWith a (some (.Name x pos')) pos.line X.env = pure false := by rfl)
    (hf : X.fn x = true ∨ X.env.scope.names.lookup x = some .local := by first | exact .inl rfl | exact .inr rfl) : PsW X (.Assign [.Name x pos'] a pos) (tAsg (tP X.K f) (gName i)) := ⟨ps_set hN hi hx h.un hs hf⟩
theorem psw_ret (h : PeW X a te) : PsW X (.Return (some a) pos) (tRet te) := ⟨ps_ret h.un⟩
theorem pew_cat (ha : PeW X a ta) (hb : PeW X b tb) : PeW X (.BinOp a .Add b pos) (tOp (rCatL X.K) ta tb) := ⟨pe_op op_catL ha.un hb.un⟩
theorem pew_lst1 (h : PeW X a te) (hs : starEach [a] X.env = (false, eval a X.env) :: starEach [] X.env := by rfl) : PeW X (.List [a] pos) (tLst (tCons te tNil)) := ⟨pe_lst (pa_cons h.un pa_nil hs)⟩
theorem pew_v (i : Nat) {x : Str} (hN : X.N[i]? = some x := by rfl) (hv : Vis X.env.scope x := by first | exact Or.inl rfl | exact Or.inr (Or.inl rfl) | exact Or.inr (Or.inr rfl)) (hd : (x == ("__debug__" : Str)) = false := by decide)
    (hcd : (x == ("__classdict__" : Str)) = false := by decide) : PeW X (.Name x pos) (tVar i) := ⟨pe_var hN hv hd hcd⟩
end
end PU
namespace PU
open PySem L2
def B_put_down : Fs := (sRet (eOp oDiv (eVar 0) (eVar 1)))
def F_put_down : List D → Option D := dataOf 2 B_put_down
theorem v_put_down {c b : Int} (h : 0 < b) (h2 : b < 1073741824) : F_put_down [.int c, .int b] = some (.int (c / b)) := by
  show finish (sRet (eOp oDiv (eVar 0) (eVar 1)) [some (.int c), some (.int b)]) = _
  rw [sRet_of (eOp_of rfl rfl (div_of h h2))]
  rfl
def B_row_down : Fs := (sRet (eCall fTuple (aCons (eLc (iSeq (eVar 0)) [none, some 1] (gN 0) cTrue (eCall F_put_down (aCons (eVar 0) (aCons (eVar 1) aNil)))) aNil)))
def F_row_down : List D → Option D := dataOf 2 B_row_down
theorem v_row_down {r : List Int} {b : Int} (hl : r.length ≤ 5) (h : 0 < b) (h2 : b < 1073741824) : F_row_down [encR r, .int b] = some (encR (r.map fun c => c / b)) := by
  show finish (B_row_down [some (encR r), some (.int b)]) = _
  unfold B_row_down
  rw [sRet_of (eCall_of (aCons_of (eLc_map (xs := r) (e := PyData.int) (g := fun c => PyData.int (c / b)) rfl (by omega) fun c _ => ⟨_, rfl, rfl, eCall_of (aCons_of rfl (aCons_of rfl rfl)) (v_put_down h h2)⟩) rfl) rfl)]
  show some (PyData.tuple (r.map fun c => PyData.int (c / b))) = some (PyData.tuple ((r.map fun c => c / b).map PyData.int))
  rw [List.map_map]
  rfl
def B_down : Fs := (sRet (eCall fTuple (aCons (eLc (iSeq (eVar 0)) [none, some 1] (gN 0) cTrue (eCall F_row_down (aCons (eVar 0) (aCons (eVar 1) aNil)))) aNil)))
def F_down : List D → Option D := dataOf 2 B_down
theorem v_downR {t : List (List Int)} {w : Nat} {b : Int} (ht : t.length ≤ 1000) (hw : ∀ r ∈ t, r.length = w) (hw5 : w ≤ 5) (h : 0 < b) (h2 : b < 1073741824) : F_down [encT t, .int b] = some (encT (t.map fun r => r.map fun c => c / b)) := by
  show finish (B_down [some (encT t), some (.int b)]) = _
  unfold B_down
  rw [sRet_of (eCall_of (aCons_of (eLc_map (xs := t) (e := encR) (g := fun r => encR (r.map fun c => c / b)) rfl (by omega) fun r hr => ⟨_, rfl, rfl, eCall_of (aCons_of rfl (aCons_of rfl rfl)) (v_row_down (by rw [hw r hr]; exact hw5) h h2)⟩) rfl) rfl)]
  show some (PyData.tuple (t.map fun r => encR (r.map fun c => c / b))) = some (PyData.tuple ((t.map fun r => r.map fun c => c / b).map encR))
  rw [List.map_map]
  rfl
def B_pillar_sum : Fs := (sRet (eCall fSum (aCons (eLc (iSeq (eVar 0)) [none, some 1] (gN 0) cTrue (eOp oIx (eVar 0) (eVar 1))) aNil)))
def F_pillar_sum : List D → Option D := dataOf 2 B_pillar_sum
theorem v_pillar {t : List (List Int)} {w j : Nat} (x : Rows t w) (hj : j < w) : F_pillar_sum [encT t, .int (j : Int)] = some (.int (colI t j)) := by
  show finish (B_pillar_sum [some (encT t), some (.int (j : Int))]) = _
  unfold B_pillar_sum
  rw [sRet_of (eCall_of (aCons_of (eLc_map (xs := t) (e := encR) (g := fun r => PyData.int (r.getD j 0)) rfl (by have := x.tall.2; omega) fun r hr => ⟨_, rfl, rfl, eOp_of rfl rfl ?_⟩) rfl) (d := .int (colI t j)) ?_)]
  · rfl
  · show fSum [.list (t.map fun r => PyData.int (r.getD j 0))] = _
    rw [show (t.map fun r => PyData.int (r.getD j 0)) = (t.map fun r => r.getD j 0).map PyData.int by rw [List.map_map]; rfl, fSum_list]
    rfl
  · show atI (r.map PyData.int) (j : Int) = _
    refine atI_of ?_
    rw [List.getElem?_map]
    have hl : j < r.length := by rw [x.rows r hr]; exact hj
    rw [List.getElem?_eq_getElem hl, List.getD_eq_getElem?_getD, List.getElem?_eq_getElem hl]
    rfl
def B_sums : Fs := (sSeq (sSet 1 (eIf (cT (eVar 0)) (eCall fLen (aCons (eOp oIx (eVar 0) (eC (.int 0))) aNil)) (eC (.int 0))))
    (sSeq (sSet 2 (eCall fTuple (aCons (eLc (iSeq (eVar 0)) [none] (gN 0) cTrue (eCall fSum (aCons (eVar 0) aNil))) aNil)))
    (sSeq (sSet 3 (eCall fTuple (aCons (eLc (iRng (aCons (eVar 1) aNil)) [none, some 0] (gN 0) cTrue (eCall F_pillar_sum (aCons (eVar 1) (aCons (eVar 0) aNil)))) aNil)))
    (sRet (eTup (aCons (eVar 2) (aCons (eVar 3) (aCons (eCall fSum (aCons (eVar 2) aNil)) aNil))))))))
def F_sums : List D → Option D := dataOf 4 B_sums
theorem v_sums {t : List (List Int)} {w : Nat} (x : Rows t w) : F_sums [encT t] = some (sumsD t w) := by
  obtain ⟨r, ts, ht, hw⟩ := head_enc x
  show finish (B_sums [some (encT t), none, none, none]) = _
  unfold B_sums
  have e0 : eIf (cT (eVar 0)) (eCall fLen (aCons (eOp oIx (eVar 0) (eC (.int 0))) aNil)) (eC (.int 0)) [some (encT t), none, none, none] = some (.int (w : Int)) := by
    rw [eIf_t (by rw [cT_tup rfl, ht]; rfl), len_tup (ix_tup (i := 0) rfl rfl (get_row (t := t) (by rw [ht]; simp))), List.length_map]
    rw [ht]
    show some (PyData.int (r.length : Int)) = _
    rw [hw]
  rw [sSeq_nx (sSet_of e0)]
  have e1 : eCall fTuple (aCons (eLc (iSeq (eVar 0)) [none] (gN 0) cTrue (eCall fSum (aCons (eVar 0) aNil))) aNil) [some (encT t), some (.int (w : Int)), none, none] = some (encR (t.map List.sum)) := by
    refine eCall_of (aCons_of (eLc_map (xs := t) (e := encR) (g := fun r => PyData.int r.sum) rfl (by have := x.tall.2; omega) fun r hr => ⟨_, rfl, rfl, eCall_of (aCons_of rfl rfl) (fSum_tup r)⟩) rfl) ?_
    show some (PyData.tuple (t.map fun r => PyData.int r.sum)) = some (PyData.tuple ((t.map List.sum).map PyData.int))
    rw [List.map_map]
    rfl
  show finish (sSeq _ _ [some (encT t), some (.int (w : Int)), none, none]) = _
  rw [sSeq_nx (sSet_of e1)]
  have e2 : eCall fTuple (aCons (eLc (iRng (aCons (eVar 1) aNil)) [none, some 0] (gN 0) cTrue (eCall F_pillar_sum (aCons (eVar 1) (aCons (eVar 0) aNil)))) aNil) [some (encT t), some (.int (w : Int)), some (encR (t.map List.sum)), none] = some (encR ((List.range w).map fun j => colI t j)) := by
    refine eCall_of (aCons_of (eLc_map (xs := List.range w) (e := fun (i : Nat) => PyData.int (i : Int)) (g := fun j => PyData.int (colI t j)) ?_ (by rw [List.length_range]; have := x.wide; omega) fun j hj => ⟨_, rfl, rfl, eCall_of (aCons_of rfl (aCons_of rfl rfl)) (v_pillar x (List.mem_range.mp hj))⟩) rfl) ?_
    · exact iRng_of rfl (by have := x.wide; omega)
    · show some (PyData.tuple ((List.range w).map fun j => PyData.int (colI t j))) = some (PyData.tuple (((List.range w).map fun j => colI t j).map PyData.int))
      rw [List.map_map]
      rfl
  show finish (sSeq _ _ [some (encT t), some (.int (w : Int)), some (encR (t.map List.sum)), none]) = _
  rw [sSeq_nx (sSet_of e2)]
  show finish (sRet _ [some (encT t), some (.int (w : Int)), some (encR (t.map List.sum)), some (encR ((List.range w).map fun j => colI t j))]) = _
  rw [sRet_of (d := sumsD t w)]
  · rfl
  · unfold eTup
    rw [aCons_of rfl (aCons_of rfl (aCons_of (eCall_of (aCons_of rfl rfl) (fSum_tup _)) rfl))]
    rfl
def B_crossing_lines : Fs := (sSeq (sSet 3 (eCall fLen (aCons (eVar 0) aNil)))
    (sSeq (sIf (cB (eOp oLt (eVar 2) (eVar 3))) (sRet (eLc (iEnum (eOp oIx (eVar 0) (eVar 2))) [none, none, some 3, some 1] (g2 0 1) (cB (eOp oNe (eOp oMod (eVar 1) (eVar 3)) (eC (.int 0)))) (eOp oAdd (eVar 2) (eVar 0)))) sNext)
    (sRet (eLc (iEnum (eVar 0)) [none, none, some 2, some 3, some 1] (g2 0 1) (cB (eOp oNe (eOp oMod (eOp oIx (eVar 1) (eOp oSub (eVar 2) (eVar 3))) (eVar 4)) (eC (.int 0)))) (eVar 0)))))
def F_crossing_lines : List D → Option D := dataOf 4 B_crossing_lines
theorem v_crossing_lines {g : List (List Int)} {H W l : Nat} {b : Int} (x : RG.Rect g H W) (hb : 0 < b) (hl : l < H + W) (hs : H + W ≤ 50) : F_crossing_lines [encG g, .int b, .int (l : Int)] = some (encN (RG.cross g b l)) := by
  show finish (B_crossing_lines [some (encG g), some (.int b), some (.int (l : Int)), none]) = _
  unfold B_crossing_lines
  have e0 : eCall fLen (aCons (eVar 0) aNil) [some (encG g), some (.int b), some (.int (l : Int)), none] = some (.int (H : Int)) := by
    rw [len_lst (l := g.map encL) rfl, List.length_map, x.tall]
  rw [sSeq_nx (sSet_of e0)]
  show finish (sSeq _ _ [some (encG g), some (.int b), some (.int (l : Int)), some (.int (H : Int))]) = _
  have ec : cB (eOp oLt (eVar 2) (eVar 3)) [some (encG g), some (.int b), some (.int (l : Int)), some (.int (H : Int))] = some (decide (l < H)) := lt_nat rfl rfl
  unfold RG.cross
  rw [x.tall]
  by_cases h : l < H
  · rw [decide_eq_true h] at ec
    rw [if_pos h, sSeq_rt (d := encN ((((g.getD l []).zipIdx).filter fun p => p.1 % b != 0).map fun p => H + p.2))]
    · rfl
    · rw [sIf_t ec]
      refine sRet_of ?_
      have hr := (x.row h).1
      rw [eLc_filter (xs := (g.getD l []).zipIdx) (e := fun p => PyData.tuple [.int (p.2 : Int), .int p.1]) (g := fun p => PyData.int ((H + p.2 : Nat) : Int)) (p := fun p => p.1 % b != 0)
        (by rw [iEnum_lst (ix_lst rfl rfl (get_rowL (by rw [x.tall]; exact h))), enum_map]) (by rw [List.length_zipIdx, hr]; omega)
        fun p _ => ⟨_, rfl, cB_of (eOp_of (eOp_of rfl rfl (mod_of hb)) rfl (ne_int _ _)), fun _ => rfl⟩]
      unfold encN
      rw [List.map_map]
      rfl
  · rw [decide_eq_false h] at ec
    rw [if_neg h, sSeq_nx (δ' := [some (encG g), some (.int b), some (.int (l : Int)), some (.int (H : Int))]) (by rw [sIf_f ec]; rfl)]
    rw [sRet_of (d := encN (((g.zipIdx).filter fun p => p.1.getD (l - H) 0 % b != 0).map fun p => p.2))]
    · rfl
    · rw [eLc_filter (xs := g.zipIdx) (e := fun p => PyData.tuple [.int (p.2 : Int), encL p.1]) (g := fun p => PyData.int (p.2 : Int)) (p := fun p => p.1.getD (l - H) 0 % b != 0)
        (by rw [iEnum_lst (l := g.map encL) rfl, enum_map]) (by rw [List.length_zipIdx, x.tall]; omega)
        fun p hp => ⟨_, rfl, ?_, fun _ => rfl⟩]
      · unfold encN
        rw [List.map_map]
        rfl
      · obtain ⟨r, k⟩ := p
        have hr : r ∈ g := List.mem_of_getElem? (List.mem_zipIdx_iff_getElem?.mp hp)
        have hw := x.wide r hr
        refine cB_of (eOp_of (eOp_of (ix_lst (i := l - H) rfl ?_ (get_intL (by rw [hw]; omega))) rfl (mod_of hb)) rfl (ne_int _ _))
        rw [eOp_of rfl rfl (sub_of _ _)]
        exact congrArg some (congrArg PyData.int (by omega))
def O_ring_from : Fo := (oSeq (oLift (sSet 4 (eOp oIx (eCall F_crossing_lines (aCons (eVar 0) (aCons (eVar 1) (aCons (eVar 2) aNil)))) (eC (.int 0)))))
    (oSeq (oWh 100 3 (cB (eOp oNin (eVar 4) (eVar 3))) (oSeq (oApp 3 (eVar 4))
    (oSetV 3 4 (eOp oIx (eLc (iSeq (eCall F_crossing_lines (aCons (eVar 0) (aCons (eVar 1) (aCons (eVar 4) aNil))))) [none, some 3] (gN 0) (cB (eOp oNe (eVar 0) (eOp oIx (eVar 1) (eUn oNeg (eC (.int 2)))))) (eVar 0)) (eC (.int 0))))))
    (oClose 3 (sRet (eSl (eVar 3) (oSome (eOp oIndex (eVar 3) (eVar 4))) oNone)))))
noncomputable def B_ring_from : Fs := (oOpen 3 (aCons (eVar 2) aNil) O_ring_from)
noncomputable def F_ring_from : List D → Option D := dataOf 5 B_ring_from
theorem mapN_inj (l : List Nat) : allOf isInt (l.map fun (m : Nat) => PyData.int (m : Int)) = some (l.map fun (m : Nat) => (m : Int)) := by
  rw [show (l.map fun (m : Nat) => PyData.int (m : Int)) = (l.map fun (m : Nat) => (m : Int)).map PyData.int by rw [List.map_map]; rfl, allOf_ints']
theorem containsN (l : List Nat) (k : Nat) : (l.map fun (m : Nat) => (m : Int)).contains (k : Int) = decide (k ∈ l) := by
  rw [Bool.eq_iff_iff, List.contains_iff_mem, decide_eq_true_iff, List.mem_map]
  constructor
  · rintro ⟨m, hm, e⟩
    have : m = k := by omega
    rw [← this]; exact hm
  · exact fun h => ⟨k, h, rfl⟩
theorem idxN (l : List Nat) (k : Nat) : (l.map fun (m : Nat) => (m : Int)).idxOf (k : Int) = l.idxOf k := by
  induction l with
  | nil => rfl
  | cons x r ih =>
    rw [List.map_cons, List.idxOf_cons, List.idxOf_cons, ih]
    have : ((x : Int) == (k : Int)) = (x == k) := by rw [Bool.beq_eq_decide_eq, Bool.beq_eq_decide_eq, decide_eq_decide]; omega
    rw [this]
def rf_body : Fo := (oSeq (oApp 3 (eVar 4))
    (oSetV 3 4 (eOp oIx (eLc (iSeq (eCall F_crossing_lines (aCons (eVar 0) (aCons (eVar 1) (aCons (eVar 4) aNil))))) [none, some 3] (gN 0) (cB (eOp oNe (eVar 0) (eOp oIx (eVar 1) (eUn oNeg (eC (.int 2)))))) (eVar 0)) (eC (.int 0)))))
theorem cross_small {g : List (List Int)} {H W l : Nat} {b : Int} (x : RG.Rect g H W) (hl : l < H + W) : (RG.cross g b l).length ≤ H + W := by
  unfold RG.cross
  rw [x.tall]
  by_cases h : l < H
  · rw [if_pos h, List.length_map]
    refine Nat.le_trans (List.length_filter_le _ _) ?_
    rw [List.length_zipIdx, (x.row h).1]; omega
  · rw [if_neg h, List.length_map]
    refine Nat.le_trans (List.length_filter_le _ _) ?_
    rw [List.length_zipIdx, x.tall]; omega
theorem rf_loop {g : List (List Int)} {H W : Nat} {b : Int} {s : D} {p : Addr} (x : RG.Rect g H W) (z : RG.Zero H W (RG.gAt g)) (hb : 0 < b) (hs : H + W ≤ 50) : ∀ (n : Nat) (path : List Nat) (ahead : Nat), RG.Walk (RG.Adj H W b (RG.gAt g)) (H + W) path ahead → H + W < n + path.length →
    ∃ (path' : List Nat) (ahead' : Nat), whO 3 (cB (eOp oNin (eVar 4) (eVar 3))) rf_body n [some (encG g), some (.int b), some s, some (opq p), some (.int (ahead : Int))] (path.map fun (m : Nat) => PyData.int (m : Int)) = some (.nx [some (encG g), some (.int b), some s, some (opq p), some (.int (ahead' : Int))], path'.map fun (m : Nat) => PyData.int (m : Int)) ∧
      ahead' ∈ path' ∧ path'.drop (path'.idxOf ahead') = RG.ringL g b n path ahead
  | 0, path, ahead, w, hn => by
    have := RG.nodup_le w.nd w.lt
    omega
  | n + 1, path, ahead, w, hn => by
    have hpl := RG.nodup_le w.nd w.lt
    have ec : cB (eOp oNin (eVar 4) (eVar 3)) (vw 3 [some (encG g), some (.int b), some s, some (opq p), some (.int (ahead : Int))] (path.map fun (m : Nat) => PyData.int (m : Int))) = some (!decide (ahead ∈ path)) := by
      refine cB_of (eOp_of rfl rfl ?_)
      show ((allOf isInt (path.map fun (m : Nat) => PyData.int (m : Int))).bind _) = _
      rw [mapN_inj, Option.bind_some, containsN]
    by_cases hm : ahead ∈ path
    · refine ⟨path, ahead, ?_, hm, ?_⟩
      · unfold whO
        rw [ec, decide_eq_true hm]
        rfl
      · unfold RG.ringL
        rw [if_pos hm]
    · have hal : ahead < H + W := w.near.symm.lt
      obtain ⟨hnil, hadj, hne⟩ := RG.next_ok x z w.near
      have hlast : path.getLastD 0 = path.getLast w.ne := RG.getLastD_eq w.ne
      obtain ⟨y, r, hyr⟩ : ∃ y r, (RG.cross g b ahead).filter (fun m => m != path.getLastD 0) = y :: r := by
        rw [hlast]
        cases e : (RG.cross g b ahead).filter fun m => m != path.getLast w.ne with
        | nil => exact absurd e hnil
        | cons y r => exact ⟨y, r, rfl⟩
      have hnext : RG.nextL g b (path.getLastD 0) ahead = y := by unfold RG.nextL; rw [hyr]; rfl
      have eb : rf_body [some (encG g), some (.int b), some s, some (opq p), some (.int (ahead : Int))] (path.map fun (m : Nat) => PyData.int (m : Int)) = some (.nx [some (encG g), some (.int b), some s, some (opq p), some (.int (y : Int))], (path ++ [ahead]).map fun (m : Nat) => PyData.int (m : Int)) := by
        unfold rf_body
        rw [oSeq_nx (oApp_of rfl (by rw [List.length_map]; omega))]
        rw [show (path.map fun (m : Nat) => PyData.int (m : Int)) ++ [PyData.int (ahead : Int)] = (path ++ [ahead]).map fun (m : Nat) => PyData.int (m : Int) by rw [List.map_append]; rfl]
        unfold oSetV
        have el : eLc (iSeq (eCall F_crossing_lines (aCons (eVar 0) (aCons (eVar 1) (aCons (eVar 4) aNil))))) [none, some 3] (gN 0) (cB (eOp oNe (eVar 0) (eOp oIx (eVar 1) (eUn oNeg (eC (.int 2)))))) (eVar 0)
            (vw 3 [some (encG g), some (.int b), some s, some (opq p), some (.int (ahead : Int))] ((path ++ [ahead]).map fun (m : Nat) => PyData.int (m : Int))) = some (.list ((y :: r).map fun (m : Nat) => PyData.int (m : Int))) := by
          rw [← hyr]
          refine eLc_filter (xs := RG.cross g b ahead) (e := fun (m : Nat) => PyData.int (m : Int)) (g := fun (m : Nat) => PyData.int (m : Int)) (p := fun m => m != path.getLastD 0) ?_ (by have := cross_small (b := b) x hal; omega) fun m hm => ⟨_, rfl, ?_, fun _ => rfl⟩
          · exact iSeq_lst (eCall_of (aCons_of rfl (aCons_of rfl (aCons_of rfl rfl))) (v_crossing_lines x hb hal hs))
          · have e2 : eOp oIx (eVar 1) (eUn oNeg (eC (.int 2))) [some (.int (m : Int)), some (.list ((path ++ [ahead]).map fun (m : Nat) => PyData.int (m : Int)))] = some (.int ((path.getLastD 0 : Nat) : Int)) := by
              refine eOp_of rfl (y := .int (-2)) rfl ?_
              show atI ((path ++ [ahead]).map fun (m : Nat) => PyData.int (m : Int)) (-2) = _
              have hpos : 0 < path.length := List.length_pos_iff.mpr w.ne
              unfold atI ixN
              rw [if_neg (by omega), if_pos (by rw [List.length_map, List.length_append, List.length_singleton]; omega), Option.bind_some, List.getElem?_map]
              rw [show (-2 + (((path ++ [ahead]).map fun (m : Nat) => PyData.int (m : Int)).length : Int)).toNat = path.length - 1 by rw [List.length_map, List.length_append, List.length_singleton]; omega]
              rw [List.getElem?_append_left (by omega), hlast, ← List.getLast?_eq_getElem?, List.getLast?_eq_some_getLast w.ne]
              rfl
            refine cB_of ?_
            show eOp oNe (eVar 0) (eOp oIx (eVar 1) (eUn oNeg (eC (.int 2)))) [some (.int (m : Int)), some (.list ((path ++ [ahead]).map fun (m : Nat) => PyData.int (m : Int)))] = _
            rw [eOp_of (x := .int (m : Int)) rfl e2 (ne_int _ _), beq_nat]
            refine congrArg some (congrArg PyData.bool ?_)
            show (!decide (m = path.getLastD 0)) = (!(m == path.getLastD 0))
            rw [Bool.beq_eq_decide_eq]
        rw [ix_lst (i := 0) (d := .int (y : Int)) el rfl rfl]
        rfl
      obtain ⟨path', ahead', q1, q2, q3⟩ := rf_loop x z hb hs n (path ++ [ahead]) y (by rw [← hnext]; exact RG.walk_next x z w hm) (by rw [List.length_append, List.length_singleton]; omega)
      refine ⟨path', ahead', ?_, q2, ?_⟩
      · unfold whO
        rw [ec, decide_eq_false hm, Option.bind_some]
        show (rf_body _ _).bind _ = _
        rw [eb, Option.bind_some]
        exact q1
      · unfold RG.ringL
        rw [if_neg hm, hnext]
        exact q3
theorem v_ring_from {g : List (List Int)} {H W row : Nat} {b : Int} (x : RG.Rect g H W) (z : RG.Zero H W (RG.gAt g)) (hb : 0 < b) (hs : H + W ≤ 50) (hr : row < H) (hne : RG.cross g b row ≠ []) :
    F_ring_from [encG g, .int b, .int (row : Int)] = some (encN (RG.ringOf g b row 100)) := by
  show finish (B_ring_from [some (encG g), some (.int b), some (.int (row : Int)), none, none]) = _
  unfold B_ring_from
  have w := RG.walk_start (b := b) x hr hne
  rw [oOpen_of (d := encN (RG.ringOf g b row 100)) (ds0 := [.int (row : Int)]) (by simp) rfl (by simp) fun p => ?_]
  · rfl
  · obtain ⟨path', ahead', q1, q2, q3⟩ := rf_loop (s := .int (row : Int)) (p := p) x z hb hs 100 [row] ((RG.cross g b row).headD 0) w (by simp; omega)
    refine ⟨[], ?_⟩
    show O_ring_from [some (encG g), some (.int b), some (.int (row : Int)), some (opq p), none] [.int (row : Int)] = _
    unfold O_ring_from
    have e1 : eOp oIx (eCall F_crossing_lines (aCons (eVar 0) (aCons (eVar 1) (aCons (eVar 2) aNil)))) (eC (.int 0)) [some (encG g), some (.int b), some (.int (row : Int)), some (opq p), none] = some (.int (((RG.cross g b row).headD 0 : Nat) : Int)) := by
      refine eOp_of (eCall_of (aCons_of rfl (aCons_of rfl (aCons_of rfl rfl))) (v_crossing_lines x hb (by omega) hs)) rfl ?_
      cases e : RG.cross g b row with
      | nil => exact absurd e hne
      | cons y r => exact atI_of (i := 0) rfl
    rw [oSeq_nx (oLift_nx (sSet_of e1))]
    show oSeq (oWh 100 3 _ rf_body) _ [some (encG g), some (.int b), some (.int (row : Int)), some (opq p), some (.int (((RG.cross g b row).headD 0 : Nat) : Int))] [.int (row : Int)] = _
    rw [oSeq_nx (show oWh 100 3 (cB (eOp oNin (eVar 4) (eVar 3))) rf_body _ [.int (row : Int)] = _ from q1)]
    unfold oClose
    have e2 : sRet (eSl (eVar 3) (oSome (eOp oIndex (eVar 3) (eVar 4))) oNone) [some (encG g), some (.int b), some (.int (row : Int)), some (.list (path'.map fun (m : Nat) => PyData.int (m : Int))), some (.int (ahead' : Int))] = some (.rt (encN (RG.ringOf g b row 100))) := by
      refine sRet_of ?_
      have e3 : eOp oIndex (eVar 3) (eVar 4) [some (encG g), some (.int b), some (.int (row : Int)), some (.list (path'.map fun (m : Nat) => PyData.int (m : Int))), some (.int (ahead' : Int))] = some (.int ((path'.idxOf ahead' : Nat) : Int)) := by
        refine eOp_of rfl rfl ?_
        show ((allOf isInt (path'.map fun (m : Nat) => PyData.int (m : Int))).bind _) = _
        rw [mapN_inj, Option.bind_some, containsN, decide_eq_true q2, if_pos rfl, idxN]
      unfold eSl oSome
      rw [show (eVar 3) [some (encG g), some (.int b), some (.int (row : Int)), some (.list (path'.map fun (m : Nat) => PyData.int (m : Int))), some (.int (ahead' : Int))] = some (.list (path'.map fun (m : Nat) => PyData.int (m : Int))) from rfl, Option.bind_some, e3, Option.bind_some]
      show some (PyData.list (cutD (path'.map fun (m : Nat) => PyData.int (m : Int)) (some ((path'.idxOf ahead' : Nat) : Int)) none)) = _
      rw [cut_from, ← List.map_drop, q3]
      rfl
    show (sRet (eSl (eVar 3) (oSome (eOp oIndex (eVar 3) (eVar 4))) oNone) [some (encG g), some (.int b), some (.int (row : Int)), some (.list (path'.map fun (m : Nat) => PyData.int (m : Int))), some (.int (ahead' : Int))]).bind _ = _
    rw [e2]
    rfl
def B_crossing_place : Fs := (sRet (eTup (aCons (eCall fMin (aCons (eVar 1) (aCons (eVar 2) aNil))) (aCons (eOp oSub (eCall fMax (aCons (eVar 1) (aCons (eVar 2) aNil))) (eVar 0)) aNil))))
def F_crossing_place : List D → Option D := dataOf 3 B_crossing_place
theorem v_crossing_place {H l m : Nat} (h : H ≤ max l m) : F_crossing_place [.int (H : Int), .int (l : Int), .int (m : Int)] = some (.tuple [.int (((RG.place H l m).1 : Nat) : Int), .int (((RG.place H l m).2 : Nat) : Int)]) := by
  show finish (B_crossing_place [some (.int (H : Int)), some (.int (l : Int)), some (.int (m : Int))]) = _
  unfold B_crossing_place
  have e1 : eCall fMin (aCons (eVar 1) (aCons (eVar 2) aNil)) [some (.int (H : Int)), some (.int (l : Int)), some (.int (m : Int))] = some (.int ((min l m : Nat) : Int)) := by
    rw [eCall_of (aCons_of rfl (aCons_of rfl rfl)) (d := .int (if (m : Int) < (l : Int) then (m : Int) else (l : Int))) rfl]
    refine congrArg some (congrArg PyData.int ?_)
    split <;> omega
  have e2 : eCall fMax (aCons (eVar 1) (aCons (eVar 2) aNil)) [some (.int (H : Int)), some (.int (l : Int)), some (.int (m : Int))] = some (.int ((max l m : Nat) : Int)) := by
    rw [eCall_of (aCons_of rfl (aCons_of rfl rfl)) (d := .int (if (m : Int) > (l : Int) then (m : Int) else (l : Int))) rfl]
    refine congrArg some (congrArg PyData.int ?_)
    split <;> omega
  rw [sRet_of (d := .tuple [.int (((RG.place H l m).1 : Nat) : Int), .int (((RG.place H l m).2 : Nat) : Int)])]
  · rfl
  · unfold eTup
    rw [aCons_of e1 (aCons_of (eOp_of e2 rfl (sub_of _ _)) rfl)]
    show some (PyData.tuple [.int ((min l m : Nat) : Int), .int (((max l m : Nat) : Int) - (H : Int))]) = some (PyData.tuple [.int ((min l m : Nat) : Int), .int ((max l m - H : Nat) : Int)])
    rw [show ((max l m : Nat) : Int) - (H : Int) = ((max l m - H : Nat) : Int) by omega]
def B_places_round : Fs := (sRet (eLc (iZip (eVar 0) (eOp oAdd (eSl (eVar 0) (oSome (eC (.int 1))) oNone) (eSl (eVar 0) oNone (oSome (eC (.int 1)))))) [none, none, some 1] (g2 0 1) cTrue (eCall F_crossing_place (aCons (eVar 2) (aCons (eVar 0) (aCons (eVar 1) aNil))))))
def F_places_round : List D → Option D := dataOf 2 B_places_round
theorem zip_lt {r : List Nat} {p : Nat × Nat} (hp : p ∈ r.zip (RG.rot r)) : ∃ (i : Nat) (h : i < r.length), p = (r[i], RG.nxt r i h) := by
  obtain ⟨i, hi, e⟩ := List.mem_iff_getElem.mp hp
  have hl : i < r.length := by rw [List.length_zip, RG.rot_length] at hi; omega
  refine ⟨i, hl, ?_⟩
  have h2 := RG.rot_get (r := r) i hl
  have h3 : (RG.rot r)[i]'(by rw [RG.rot_length]; exact hl) = RG.nxt r i hl := by
    have := List.getElem?_eq_getElem (l := RG.rot r) (i := i) (by rw [RG.rot_length]; exact hl)
    rw [h2] at this
    exact (Option.some.inj this).symm
  rw [← e, List.getElem_zip, h3]
theorem v_places_round {H W : Nat} {b : Int} {G : Nat → Nat → Int} {r : List Nat} (R : RG.Ring (RG.Adj H W b G) r) (hr : r.length ≤ 1000) : F_places_round [encN r, .int (H : Int)] = some (encP (RG.places H r)) := by
  show finish (B_places_round [some (encN r), some (.int (H : Int))]) = _
  unfold B_places_round
  have e1 : eOp oAdd (eSl (eVar 0) (oSome (eC (.int 1))) oNone) (eSl (eVar 0) oNone (oSome (eC (.int 1)))) [some (encN r), some (.int (H : Int))] = some (encN (RG.rot r)) := by
    refine eOp_of (x := .list ((r.drop 1).map fun (m : Nat) => PyData.int (m : Int))) (y := .list ((r.take 1).map fun (m : Nat) => PyData.int (m : Int))) ?_ ?_ ?_
    · show some (PyData.list (cutD (r.map fun (m : Nat) => PyData.int (m : Int)) (some ((1 : Nat) : Int)) none)) = _
      rw [cut_from, List.map_drop]
    · show some (PyData.list (cutD (r.map fun (m : Nat) => PyData.int (m : Int)) none (some ((1 : Nat) : Int)))) = _
      rw [cut_to, List.map_take]
    · rw [add_lst _ _ (by rw [List.length_map, List.length_map, List.length_drop, List.length_take]; omega), ← List.map_append]
      rfl
  rw [sRet_of (d := encP (RG.places H r))]
  · rfl
  · rw [eLc_map (xs := r.zip (RG.rot r)) (e := fun p => PyData.tuple [.int ((p.1 : Nat) : Int), .int ((p.2 : Nat) : Int)]) (g := fun p => PyData.tuple [.int (((RG.place H p.1 p.2).1 : Nat) : Int), .int (((RG.place H p.1 p.2).2 : Nat) : Int)])
      (by rw [iZip_of (x := encN r) rfl rfl e1 rfl, zip_map]) (by rw [List.length_zip]; omega) fun p hp => ⟨_, rfl, rfl, eCall_of (aCons_of rfl (aCons_of rfl (aCons_of rfl rfl))) (v_crossing_place ?_)⟩]
    · unfold encP RG.places
      rw [List.map_map]
      rfl
    · obtain ⟨i, hi, e⟩ := zip_lt hp
      have := (R.adj i hi).side
      rw [e]
      show H ≤ max r[i] (RG.nxt r i hi)
      by_cases hh : r[i] < H
      · have := this.mp hh; omega
      · omega
def B_greatest_shift : Fs := (sSeq (sSet 4 (eLc (iSeq (eVar 2)) [none, some 1, some 0] (gN 0) cTrue (eOp oSub (eVar 1) (eOp oMod (eOp oIx (eOp oIx (eVar 2) (eOp oIx (eVar 0) (eC (.int 0)))) (eOp oIx (eVar 0) (eC (.int 1)))) (eVar 1)))))
    (sSeq (sSet 5 (eLc (iSeq (eVar 3)) [none, some 0, some 1] (gN 0) cTrue (eOp oMod (eOp oIx (eOp oIx (eVar 1) (eOp oIx (eVar 0) (eC (.int 0)))) (eOp oIx (eVar 0) (eC (.int 1)))) (eVar 2))))
    (sRet (eCall fMin (aCons (eOp oAdd (eVar 4) (eVar 5)) aNil)))))
def F_greatest_shift : List D → Option D := dataOf 6 B_greatest_shift
theorem v_greatest_shift {g : List (List Int)} {H W : Nat} {b : Int} {ps qs : List (Nat × Nat)} (x : RG.Rect g H W) (hb : 0 < b) (hp : ∀ p ∈ ps, p.1 < H ∧ p.2 < W) (hq : ∀ p ∈ qs, p.1 < H ∧ p.2 < W) (hne : ps ≠ []) (hl : ps.length + qs.length ≤ 1000) :
    F_greatest_shift [encG g, .int b, encP ps, encP qs] = some (.int (RG.leastL (RG.roomsUp g b ps ++ RG.roomsDown g b qs))) := by
  show finish (B_greatest_shift [some (encG g), some (.int b), some (encP ps), some (encP qs), none, none]) = _
  unfold B_greatest_shift
  have at_ : ∀ {p : Nat × Nat} {f1 f2 : Fe} {δ : Dl}, p.1 < H → p.2 < W → f1 δ = some (.tuple [.int (p.1 : Int), .int (p.2 : Int)]) → f2 δ = some (encG g) → eOp oIx (eOp oIx f2 (eOp oIx f1 (eC (.int 0)))) (eOp oIx f1 (eC (.int 1))) δ = some (.int (RG.gAt g p.1 p.2)) := fun {p f1 f2 δ} h1 h2 e1 e2 => by
    have hrow := (x.row h1).1
    refine ix_lst (ix_lst e2 (ix_tup (i := 0) e1 rfl rfl) (get_rowL (by rw [x.tall]; exact h1))) (ix_tup (i := 1) e1 rfl rfl) (get_intL (by rw [hrow]; exact h2))
  have e1 : eLc (iSeq (eVar 2)) [none, some 1, some 0] (gN 0) cTrue (eOp oSub (eVar 1) (eOp oMod (eOp oIx (eOp oIx (eVar 2) (eOp oIx (eVar 0) (eC (.int 0)))) (eOp oIx (eVar 0) (eC (.int 1)))) (eVar 1))) [some (encG g), some (.int b), some (encP ps), some (encP qs), none, none] = some (.list ((RG.roomsUp g b ps).map PyData.int)) := by
    rw [eLc_map (xs := ps) (e := fun (p : Nat × Nat) => PyData.tuple [.int (p.1 : Int), .int (p.2 : Int)]) (g := fun p => PyData.int (b - RG.gAt g p.1 p.2 % b)) (iSeq_lst rfl) (by omega) fun p hm => ⟨_, rfl, rfl, eOp_of rfl (eOp_of (at_ (hp p hm).1 (hp p hm).2 rfl rfl) rfl (mod_of hb)) (sub_of _ _)⟩]
    unfold RG.roomsUp
    rw [List.map_map]
    rfl
  rw [sSeq_nx (sSet_of e1)]
  show finish (sSeq _ _ [some (encG g), some (.int b), some (encP ps), some (encP qs), some (.list ((RG.roomsUp g b ps).map PyData.int)), none]) = _
  have e2 : eLc (iSeq (eVar 3)) [none, some 0, some 1] (gN 0) cTrue (eOp oMod (eOp oIx (eOp oIx (eVar 1) (eOp oIx (eVar 0) (eC (.int 0)))) (eOp oIx (eVar 0) (eC (.int 1)))) (eVar 2)) [some (encG g), some (.int b), some (encP ps), some (encP qs), some (.list ((RG.roomsUp g b ps).map PyData.int)), none] = some (.list ((RG.roomsDown g b qs).map PyData.int)) := by
    rw [eLc_map (xs := qs) (e := fun (p : Nat × Nat) => PyData.tuple [.int (p.1 : Int), .int (p.2 : Int)]) (g := fun p => PyData.int (RG.gAt g p.1 p.2 % b)) (iSeq_lst rfl) (by omega) fun p hm => ⟨_, rfl, rfl, eOp_of (at_ (hq p hm).1 (hq p hm).2 rfl rfl) rfl (mod_of hb)⟩]
    unfold RG.roomsDown
    rw [List.map_map]
    rfl
  rw [sSeq_nx (sSet_of e2)]
  show finish (sRet _ [some (encG g), some (.int b), some (encP ps), some (encP qs), some (.list ((RG.roomsUp g b ps).map PyData.int)), some (.list ((RG.roomsDown g b qs).map PyData.int))]) = _
  obtain ⟨y, l, hyl⟩ : ∃ y l, RG.roomsUp g b ps ++ RG.roomsDown g b qs = y :: l := by
    cases ps with
    | nil => exact absurd rfl hne
    | cons p r => exact ⟨_, _, rfl⟩
  have hlu : (RG.roomsUp g b ps).length = ps.length := by unfold RG.roomsUp; rw [List.length_map]
  have hld : (RG.roomsDown g b qs).length = qs.length := by unfold RG.roomsDown; rw [List.length_map]
  rw [sRet_of (eCall_of (aCons_of (eOp_of rfl rfl (add_lst _ _ (by rw [List.length_map, List.length_map, hlu, hld]; omega))) rfl) (d := .int (RG.leastL (RG.roomsUp g b ps ++ RG.roomsDown g b qs))) ?_)]
  · rfl
  · rw [← List.map_append, hyl]
    show (allOf isInt ((y :: l).map PyData.int)).bind _ = _
    rw [allOf_ints']
    show some (PyData.int (minF y l)) = _
    rw [minF_eq]
    rfl
theorem sumN_shift (f : Nat → Int) : ∀ n, RG.sumN f (n + 1) = f 0 + RG.sumN (fun i => f (i + 1)) n
  | 0 => by show RG.sumN f 0 + f 0 = f 0 + 0; show 0 + f 0 = f 0 + 0; omega
  | n + 1 => by
    show RG.sumN f (n + 1) + f (n + 1) = f 0 + (RG.sumN (fun i => f (i + 1)) n + f (n + 1))
    rw [sumN_shift f n]
    omega
theorem sum_sumN : ∀ r : List Int, r.sum = RG.sumN (fun j => r.getD j 0) r.length
  | [] => rfl
  | x :: r => by
    rw [List.sum_cons, List.length_cons, sumN_shift, sum_sumN r]
    rfl
theorem sum_map {α : Type} (l : List α) (f : α → Int) (d : α) : (l.map f).sum = RG.sumN (fun i => f (l.getD i d)) l.length := by
  rw [sum_sumN, List.length_map]
  refine RG.sumN_congr fun i hi => ?_
  rw [List.getD_eq_getElem?_getD, List.getElem?_map, List.getD_eq_getElem?_getD, List.getElem?_eq_getElem hi]
  rfl
theorem col_sumN (t : List (List Int)) (j : Nat) : colI t j = RG.sumN (fun i => RG.gAt t i j) t.length := by
  unfold colI
  rw [sum_map t _ []]
  rfl
theorem row_sumN {t : List (List Int)} {h w : Nat} (x : RG.Rect t h w) {i : Nat} (hi : i < h) : (t.getD i []).sum = RG.sumN (fun j => RG.gAt t i j) w := by
  rw [sum_sumN, (x.row hi).1]
  rfl
theorem all_sumN {t : List (List Int)} {h w : Nat} (x : RG.Rect t h w) : (t.map List.sum).sum = RG.sumN (fun i => RG.sumN (fun j => RG.gAt t i j) w) h := by
  rw [sum_map t _ [], x.tall]
  exact RG.sumN_congr fun i hi => row_sumN x hi
def wideG (t : List (List Int)) (w : Nat) : List (List Int) := (t.map fun r => r ++ [-r.sum]) ++ [((List.range w).map fun j => -(colI t j)) ++ [(t.map List.sum).sum]]
theorem Tab.rect {t : List (List Int)} {w : Nat} (x : Tab t w) : RG.Rect t t.length w := ⟨rfl, x.rows⟩
theorem wide_rect {t : List (List Int)} {w : Nat} (x : Tab t w) : RG.Rect (wideG t w) (t.length + 1) (w + 1) where
  tall := by unfold wideG; rw [List.length_append, List.length_map, List.length_singleton]
  wide := fun r hr => by
    unfold wideG at hr
    rcases List.mem_append.mp hr with h | h
    · obtain ⟨q, hq, rfl⟩ := List.mem_map.mp h
      rw [List.length_append, List.length_singleton, x.rows q hq]
    · rw [List.mem_singleton.mp h, List.length_append, List.length_map, List.length_range, List.length_singleton]
theorem wide_up {t : List (List Int)} {w i : Nat} (hi : i < t.length) : (wideG t w).getD i [] = t.getD i [] ++ [-(t.getD i []).sum] := by
  unfold wideG
  rw [List.getD_eq_getElem?_getD, List.getElem?_append_left (by rw [List.length_map]; exact hi), List.getElem?_map, List.getD_eq_getElem?_getD, List.getElem?_eq_getElem hi]
  rfl
theorem wide_down {t : List (List Int)} {w : Nat} : (wideG t w).getD t.length [] = ((List.range w).map fun j => -(colI t j)) ++ [(t.map List.sum).sum] := by
  unfold wideG
  rw [List.getD_eq_getElem?_getD, List.getElem?_append_right (by rw [List.length_map]; exact Nat.le_refl _), List.length_map, Nat.sub_self]
  rfl
theorem wide_wideR {t : List (List Int)} {w : Nat} (x : RG.Rect t t.length w) : RG.Wide t.length w (RG.gAt t) (RG.gAt (wideG t w)) where
  inner := fun i j hi hj => by
    unfold RG.gAt
    rw [wide_up hi, List.getD_eq_getElem?_getD, List.getElem?_append_left (by rw [(x.row hi).1]; exact hj), ← List.getD_eq_getElem?_getD]
  row := fun i hi => by
    unfold RG.gAt
    rw [wide_up hi, List.getD_eq_getElem?_getD, List.getElem?_append_right (by rw [(x.row hi).1]; exact Nat.le_refl _), (x.row hi).1, Nat.sub_self]
    show -(t.getD i []).sum = _
    rw [row_sumN x hi]
    rfl
  col := fun j hj => by
    unfold RG.gAt
    rw [wide_down, List.getD_eq_getElem?_getD, List.getElem?_append_left (by rw [List.length_map, List.length_range]; exact hj), List.getElem?_map, List.getElem?_range hj]
    show -(colI t j) = _
    rw [col_sumN]
    rfl
  all := by
    unfold RG.gAt
    rw [wide_down, List.getD_eq_getElem?_getD, List.getElem?_append_right (by rw [List.length_map, List.length_range]; exact Nat.le_refl _), List.length_map, List.length_range, Nat.sub_self]
    show (t.map List.sum).sum = _
    rw [all_sumN x]
    rfl
theorem wide_wide {t : List (List Int)} {w : Nat} (x : Tab t w) : RG.Wide t.length w (RG.gAt t) (RG.gAt (wideG t w)) := wide_wideR x.rect
theorem wide_sett {t : List (List Int)} {w : Nat} {b : Int} (x : Tab t w) (hb : 0 < b) : RG.Sett (t.length + 1) (w + 1) b (RG.gAt (wideG t w)) (wideG t w) :=
  ⟨wide_rect x, ⟨(wide_wide x).zero, fun _ _ _ _ => RG.In.refl hb _⟩, by have := x.tall.2; have := x.wide.2; omega⟩
def rowInts0 : D → List Int
  | .tuple l => l.map fun d => match d with
    | .int n => n
    | _ => 0
  | _ => []
theorem rowInts_enc (r : List Int) : rowInts0 (encR r) = r := by
  show (r.map PyData.int).map _ = r
  rw [List.map_map]
  exact (List.map_congr_left fun _ _ => rfl).trans (List.map_id r)
theorem encT_inj {t t' : List (List Int)} (h : encT t = encT t') : t = t' := by
  have e : t.map encR = t'.map encR := by injection h
  have e2 : (t.map encR).map rowInts0 = (t'.map encR).map rowInts0 := by rw [e]
  rw [List.map_map, List.map_map] at e2
  have id1 : ∀ s : List (List Int), s.map (rowInts0 ∘ encR) = s := fun s => (List.map_congr_left fun r _ => rowInts_enc r).trans (List.map_id s)
  rw [id1, id1] at e2
  exact e2
def settledL (M : List (List Int)) (b : Int) (h : Nat) : List (List Int) := ((RG.allL b h M).dropLast).map fun r => r.dropLast.map fun c => c / b
theorem settled_rect {M : List (List Int)} {h w : Nat} {b : Int} {G0 : Nat → Nat → Int} (hb : 0 < b) (S0 : RG.Sett (h + 1) (w + 1) b G0 M) : RG.Rect (settledL M b h) h w ∧ ∀ i j, i < h → j < w → RG.gAt (settledL M b h) i j = RG.gAt (RG.allL b h M) i j / b := by
  have S := (RG.all_ok hb S0 h (Nat.le_succ _)).1
  generalize hg : RG.allL b h M = g at S
  have hf : settledL M b h = g.dropLast.map fun r => r.dropLast.map fun c => c / b := by unfold settledL; rw [hg]
  refine ⟨⟨?_, fun r hr => ?_⟩, fun i j hi hj => ?_⟩
  · rw [hf, List.length_map, List.length_dropLast, S.rect.tall]; rfl
  · rw [hf] at hr
    obtain ⟨q, hq, rfl⟩ := List.mem_map.mp hr
    rw [List.length_map, List.length_dropLast, S.rect.wide q (List.dropLast_subset g hq)]; rfl
  · rw [hf]
    unfold RG.gAt
    have h1 : i < g.dropLast.length := by rw [List.length_dropLast, S.rect.tall]; omega
    have h2 : (g.dropLast.map fun r => r.dropLast.map fun c => c / b).getD i [] = (g.getD i []).dropLast.map fun c => c / b := by
      rw [List.getD_eq_getElem?_getD, List.getElem?_map, List.getElem?_eq_getElem h1, List.getD_eq_getElem?_getD, List.getElem?_eq_getElem (l := g) (i := i) (by rw [S.rect.tall]; omega)]
      show (g.dropLast[i]).dropLast.map _ = _
      rw [List.getElem_dropLast]
      rfl
    have hrl := (S.rect.row (i := i) (by omega)).1
    rw [h2, List.getD_eq_getElem?_getD, List.getElem?_map, List.getElem?_eq_getElem (l := (g.getD i []).dropLast) (i := j) (by rw [List.length_dropLast, hrl]; omega), List.getElem_dropLast, List.getD_eq_getElem?_getD (l := g.getD i []), List.getElem?_eq_getElem (l := g.getD i []) (i := j) (by rw [hrl]; omega)]
    rfl
theorem settled_told {t M : List (List Int)} {w : Nat} {b : Int} (x : Tab t w) (hb : 0 < b) (S0 : RG.Sett (t.length + 1) (w + 1) b (RG.gAt (wideG t w)) M) : RG.Told t.length w b (RG.gAt t) (RG.gAt (settledL M b t.length)) := by
  obtain ⟨S, hs⟩ := RG.all_ok hb S0 t.length (Nat.le_succ _)
  have hl := RG.last_row S.fit.zero hs
  have T := RG.told hb (wide_wide x) S.fit hl
  obtain ⟨_, hv⟩ := settled_rect hb S0
  refine ⟨fun i j hi hj => ?_, fun i hi => ?_, fun j hj => ?_, ?_⟩
  · rw [hv i j hi hj]; exact T.each i j hi hj
  · rw [RG.sumN_congr (f := fun j => RG.gAt (settledL M b t.length) i j) fun j hj => hv i j hi hj]; exact T.row i hi
  · rw [RG.sumN_congr (f := fun i => RG.gAt (settledL M b t.length) i j) fun i hi => hv i j hi hj]; exact T.col j hj
  · rw [RG.sumN_congr (f := fun i => RG.sumN (fun j => RG.gAt (settledL M b t.length) i j) w) fun i hi => RG.sumN_congr fun j hj => hv i j hi hj]; exact T.all
def B_widened_place : Fs := (sSeq (sSet 3 (eOp oSub (eCall fLen (aCons (eVar 0) aNil)) (eC (.int 1))))
    (sSeq (sSet 4 (eOp oSub (eCall fLen (aCons (eOp oIx (eVar 0) (eC (.int 0))) aNil)) (eC (.int 1))))
    (sSeq (sIf (cB (eOp oEq (eVar 1) (eC (.str (PySem.Str.ofString "row"))))) (sRet (eTup (aCons (eVar 2) (aCons (eVar 4) aNil)))) sNext)
    (sSeq (sIf (cB (eOp oEq (eVar 1) (eC (.str (PySem.Str.ofString "pillar"))))) (sRet (eTup (aCons (eVar 3) (aCons (eVar 2) aNil)))) sNext)
    (sSeq (sIf (cB (eOp oEq (eVar 1) (eC (.str (PySem.Str.ofString "whole"))))) (sRet (eTup (aCons (eVar 3) (aCons (eVar 4) aNil)))) sNext)
    (sRet (eVar 2)))))))
def F_widened_place : List D → Option D := dataOf 5 B_widened_place
def B_must_rise : Fs := (sSeq (sSet 3 (eVar 2))
    (sSeq (sIf (cOr (cB (eOp oEq (eVar 1) (eC (.str (PySem.Str.ofString "row"))))) (cB (eOp oEq (eVar 1) (eC (.str (PySem.Str.ofString "pillar")))))) (sSet 3 (eNot (eVar 3))) sNext)
    (sSeq (sIf (cB (eOp oLt (eVar 0) (eC (.int 0)))) (sSet 3 (eNot (eVar 3))) sNext)
    (sRet (eVar 3)))))
def F_must_rise : List D → Option D := dataOf 4 B_must_rise
def whereL (t : List (List Int)) (w : Nat) (b : Int) (r c : Nat) (up : Bool) : List (List Int) := settledL (RG.placeL b r c up (RG.turns (wideG t w)) (wideG t w)) b t.length
def Spot (h w : Nat) (kd : PySem.Str) (a : D) (r c : Nat) (fl : Bool) : Prop :=
  (kd = PySem.Str.ofString "place" ∧ a = .tuple [.int (r : Int), .int (c : Int)] ∧ r < h ∧ c < w ∧ fl = false) ∨
  (kd = PySem.Str.ofString "row" ∧ a = .int (r : Int) ∧ r < h ∧ c = w ∧ fl = true) ∨
  (kd = PySem.Str.ofString "pillar" ∧ a = .int (c : Int) ∧ r = h ∧ c < w ∧ fl = true) ∨
  (kd = PySem.Str.ofString "whole" ∧ a = .none ∧ r = h ∧ c = w ∧ fl = false)
theorem Spot.lt {h w r c : Nat} {kd : PySem.Str} {a : D} {fl : Bool} (s : Spot h w kd a r c fl) : r < h + 1 ∧ c < w + 1 := by
  rcases s with ⟨_, _, h1, h2, _⟩ | ⟨_, _, h1, h2, _⟩ | ⟨_, _, h1, h2, _⟩ | ⟨_, _, h1, h2, _⟩ <;> omega
theorem Spot.one {h w r c r' c' : Nat} {kd : PySem.Str} {a : D} {fl fl' : Bool} (s : Spot h w kd a r c fl) (s' : Spot h w kd a r' c' fl') : r = r' ∧ c = c' ∧ fl = fl' := by
  rcases s with ⟨e, ea, h1, h2, h3⟩ | ⟨e, ea, h1, h2, h3⟩ | ⟨e, ea, h1, h2, h3⟩ | ⟨e, ea, h1, h2, h3⟩ <;>
  rcases s' with ⟨e', ea', h1', h2', h3'⟩ | ⟨e', ea', h1', h2', h3'⟩ | ⟨e', ea', h1', h2', h3'⟩ | ⟨e', ea', h1', h2', h3'⟩ <;>
  first
    | (exfalso; rw [e] at e'; exact absurd e' (by decide))
    | (rw [ea] at ea'
       cases h3
       cases h3'
       first
         | (injection ea' with q; injection q with q1 q2; injection q1 with q1; injection q2 with q2 q3; injection q2 with q2; exact ⟨by omega, by omega, rfl⟩)
         | (injection ea' with q; exact ⟨by omega, by omega, rfl⟩)
         | exact ⟨by omega, by omega, rfl⟩)
structure Asked (t : List (List Int)) (w : Nat) (b : Int) (kd : PySem.Str) (a : D) (up : Bool) (r c : Nat) (fl : Bool) : Prop where
  tab : Tab t w
  pos : 0 < b ∧ b ≤ 1000
  spot : Spot t.length w kd a r c fl
abbrev Ask := List (List Int) × Nat × Int × PySem.Str × D × Bool × Nat × Nat × Bool
def AskOk (ds : List D) (p : Ask) : Prop := Asked p.1 p.2.1 p.2.2.1 p.2.2.2.1 p.2.2.2.2.1 p.2.2.2.2.2.1 p.2.2.2.2.2.2.1 p.2.2.2.2.2.2.2.1 p.2.2.2.2.2.2.2.2 ∧ ds = [encT p.1, .int p.2.2.1, .str p.2.2.2.1, p.2.2.2.2.1, .bool p.2.2.2.2.2.1]
def toldA (p : Ask) : D := encT (whereL p.1 p.2.1 p.2.2.1 p.2.2.2.2.2.2.1 p.2.2.2.2.2.2.2.1 (p.2.2.2.2.2.1 ^^ p.2.2.2.2.2.2.2.2))
open Classical in
noncomputable def F_fair_where : List D → Option D := fun ds => if h : ∃ p : Ask, AskOk ds p then some (toldA (Classical.choose h)) else none
theorem fair_where_some {ds : List D} {d : D} (h : F_fair_where ds = some d) : ∃ t w b kd a up r c fl, Asked t w b kd a up r c fl ∧ ds = [encT t, .int b, .str kd, a, .bool up] ∧ d = encT (whereL t w b r c (up ^^ fl)) := by
  unfold F_fair_where at h
  split at h
  · rename_i hc
    cases h
    obtain ⟨h1, h2⟩ := Classical.choose_spec hc
    exact ⟨_, _, _, _, _, _, _, _, _, h1, h2, rfl⟩
  · cases h
theorem v_fair_where {t : List (List Int)} {w : Nat} {b : Int} {kd : PySem.Str} {a : D} {up : Bool} {r c : Nat} {fl : Bool} (x : Asked t w b kd a up r c fl) : F_fair_where [encT t, .int b, .str kd, a, .bool up] = some (encT (whereL t w b r c (up ^^ fl))) := by
  unfold F_fair_where
  have hc : ∃ p : Ask, AskOk [encT t, .int b, .str kd, a, .bool up] p := ⟨(t, w, b, kd, a, up, r, c, fl), x, rfl⟩
  rw [dif_pos hc]
  obtain ⟨h1, h2⟩ := Classical.choose_spec hc
  generalize Classical.choose hc = p at h1 h2
  obtain ⟨t', w', b', kd', a', up', r', c', fl'⟩ := p
  dsimp only at h1 h2
  injection h2 with e1 h2
  injection h2 with e2 h2
  injection h2 with e3 h2
  injection h2 with e4 h2
  injection h2 with e5 h2
  have q1 := encT_inj e1
  injection e2 with q2
  injection e3 with q3
  injection e5 with q5
  subst q1 q2 q3 e4 q5
  have q6 : w = w' := by
    have hh : t ≠ [] := fun z => by have := x.tab.tall.1; rw [z] at this; simp at this
    obtain ⟨r, hr⟩ := List.exists_mem_of_ne_nil t hh
    rw [← x.tab.rows r hr, ← h1.tab.rows r hr]
  subst q6
  obtain ⟨q7, q8, q9⟩ := x.spot.one h1.spot
  subst q7 q8 q9
  rfl
theorem lay_strS (s : String) : PyData.canLay0 (.str (PySem.Str.ofString s)) = true := by
  simp only [PyData.canLay0]
  unfold PyData.strOk
  rw [PySem.Str.ofString_eq_toList, List.all_toArray, List.all_map]
  refine List.all_eq_true.mpr fun c _ => decide_eq_true ?_
  have h : c.toNat < 0xd800 ∨ (0xdfff < c.toNat ∧ c.toNat < 0x110000) := c.valid
  omega
theorem eq_strS (a b : String) : oEq (.str (PySem.Str.ofString a)) (.str (PySem.Str.ofString b)) = some (.bool (PySem.Str.ofString a == PySem.Str.ofString b)) := by
  have sh : ∀ s : String, SeqAt.shaped (.str (PySem.Str.ofString s)) = true := fun s => by
    unfold SeqAt.shaped
    rw [lay_strS]
    simp [PyData.depth]
  unfold oEq
  rw [sh, sh]
  simp [PyData.eqv]
theorem is_kd {f : Fe} {δ : Dl} {a b : String} (t : Bool) (h : f δ = some (.str (PySem.Str.ofString a))) (e : (PySem.Str.ofString a == PySem.Str.ofString b) = t) : cB (eOp oEq f (eC (.str (PySem.Str.ofString b)))) δ = some t := by
  rw [← e]
  exact cB_of (eOp_of h rfl (eq_strS a b))
theorem v_widened_place {M : List (List Int)} {h w r c : Nat} {kd : PySem.Str} {a : D} {fl : Bool} (x : RG.Rect M (h + 1) (w + 1)) (s : Spot h w kd a r c fl) : F_widened_place [encG M, .str kd, a] = some (.tuple [.int (r : Int), .int (c : Int)]) := by
  show finish (B_widened_place [some (encG M), some (.str kd), some a, none, none]) = _
  unfold B_widened_place
  have h0 := (x.row (i := 0) (by omega)).1
  rw [sSeq_nx (sSet_of (d := .int (h : Int)) (by
    rw [eOp_of (len_lst (l := M.map encL) rfl) rfl (sub_of _ _), List.length_map, x.tall]
    exact congrArg (fun z => some (PyData.int z)) (by omega)))]
  show finish (sSeq _ _ [some (encG M), some (.str kd), some a, some (.int (h : Int)), none]) = _
  rw [sSeq_nx (sSet_of (d := .int (w : Int)) (by
    rw [eOp_of (len_lst (ix_lst (l := M.map encL) (i := 0) rfl rfl (get_rowL (by rw [x.tall]; omega)))) rfl (sub_of _ _), List.length_map, h0]
    exact congrArg (fun z => some (PyData.int z)) (by omega)))]
  show finish (sSeq _ _ [some (encG M), some (.str kd), some a, some (.int (h : Int)), some (.int (w : Int))]) = _
  rcases s with ⟨rfl, rfl, h1, h2, _⟩ | ⟨rfl, rfl, h1, h2, _⟩ | ⟨rfl, rfl, h1, h2, _⟩ | ⟨rfl, rfl, h1, h2, _⟩
  · rw [sSeq_nx (f := sIf _ _ _) (by rw [sIf_f (is_kd false rfl (by decide))]; rfl), sSeq_nx (f := sIf _ _ _) (by rw [sIf_f (is_kd false rfl (by decide))]; rfl), sSeq_nx (f := sIf _ _ _) (by rw [sIf_f (is_kd false rfl (by decide))]; rfl)]
    rfl
  · rw [sSeq_rt (f := sIf _ _ _) (d := .tuple [.int (r : Int), .int (w : Int)]) (by rw [sIf_t (is_kd true rfl (by decide))]; rfl), h2]
    rfl
  · rw [sSeq_nx (f := sIf _ _ _) (by rw [sIf_f (is_kd false rfl (by decide))]; rfl), sSeq_rt (f := sIf _ _ _) (d := .tuple [.int (h : Int), .int (c : Int)]) (by rw [sIf_t (is_kd true rfl (by decide))]; rfl), h1]
    rfl
  · rw [sSeq_nx (f := sIf _ _ _) (by rw [sIf_f (is_kd false rfl (by decide))]; rfl), sSeq_nx (f := sIf _ _ _) (by rw [sIf_f (is_kd false rfl (by decide))]; rfl), sSeq_rt (f := sIf _ _ _) (d := .tuple [.int (h : Int), .int (w : Int)]) (by rw [sIf_t (is_kd true rfl (by decide))]; rfl), h1, h2]
    rfl
theorem v_must_rise {h w r c : Nat} {kd : PySem.Str} {a : D} {fl up : Bool} {b : Int} (hb : 0 < b) (s : Spot h w kd a r c fl) : F_must_rise [.int b, .str kd, .bool up] = some (.bool (up ^^ fl)) := by
  show finish (B_must_rise [some (.int b), some (.str kd), some (.bool up), none]) = _
  unfold B_must_rise
  rw [sSeq_nx (sSet_of (d := .bool up) rfl)]
  show finish (sSeq _ _ [some (.int b), some (.str kd), some (.bool up), some (.bool up)]) = _
  have hlt : ∀ v, cB (eOp oLt (eVar 0) (eC (.int 0))) [some (.int b), some (.str kd), some (.bool up), v] = some false := fun v => by
    rw [cB_of (eOp_of (x := .int b) (y := .int 0) (d := .bool (decide (b < 0))) rfl rfl rfl), decide_eq_false (by omega)]
  have stay : (cOr (cB (eOp oEq (eVar 1) (eC (.str (PySem.Str.ofString "row"))))) (cB (eOp oEq (eVar 1) (eC (.str (PySem.Str.ofString "pillar")))))) [some (.int b), some (.str kd), some (.bool up), some (.bool up)] = some fl := by
    rcases s with ⟨rfl, rfl, h1, h2, rfl⟩ | ⟨rfl, rfl, h1, h2, rfl⟩ | ⟨rfl, rfl, h1, h2, rfl⟩ | ⟨rfl, rfl, h1, h2, rfl⟩
    · rw [cOr_f (is_kd false rfl (by decide)), is_kd false rfl (by decide)]
    · rw [cOr_t (is_kd true rfl (by decide))]
    · rw [cOr_f (is_kd false rfl (by decide)), is_kd true rfl (by decide)]
    · rw [cOr_f (is_kd false rfl (by decide)), is_kd false rfl (by decide)]
  cases fl with
  | false =>
    rw [sSeq_nx (f := sIf _ _ _) (δ' := [some (.int b), some (.str kd), some (.bool up), some (.bool up)]) (by rw [sIf_f stay]; rfl), sSeq_nx (f := sIf _ _ _) (δ' := [some (.int b), some (.str kd), some (.bool up), some (.bool up)]) (by rw [sIf_f (hlt _)]; rfl), Bool.xor_false]
    rfl
  | true =>
    rw [sSeq_nx (f := sIf _ _ _) (δ' := [some (.int b), some (.str kd), some (.bool up), some (.bool (!up))]) (by rw [sIf_t stay]; exact sSet_of (eNot_of rfl)), sSeq_nx (f := sIf _ _ _) (δ' := [some (.int b), some (.str kd), some (.bool up), some (.bool (!up))]) (by rw [sIf_f (hlt _)]; rfl), Bool.xor_true]
    rfl
def B_Lcell_at : Fs := (sSeq (sIf (cB (eOp oLt (eVar 1) (eCall fLen (aCons (eVar 0) aNil)))) (sRet (eOp oIx (eVar 0) (eVar 1))) sNext)
    (sRet (eC (.int 0))))
def F_Lcell_at : List D → Option D := dataOf 2 B_Lcell_at
theorem v_Lcell (ns : List Int) (k : Nat) : F_Lcell_at [.list (ns.map PyData.int), .int (k : Int)] = some (.int (ns.getD k 0)) := by
  show finish (B_Lcell_at [some (.list (ns.map PyData.int)), some (.int (k : Int))]) = _
  unfold B_Lcell_at
  have hc : cB (eOp oLt (eVar 1) (eCall fLen (aCons (eVar 0) aNil))) [some (.list (ns.map PyData.int)), some (.int (k : Int))] = some (decide (k < ns.length)) := by
    show some (decide ((k : Int) < ((ns.map PyData.int).length : Int))) = _
    rw [List.length_map]
    congr 1
    rw [decide_eq_decide]
    omega
  by_cases h : k < ns.length
  · rw [decide_eq_true h] at hc
    rw [sSeq_rt (d := .int (ns.getD k 0))]
    · rfl
    · rw [sIf_t hc]
      refine sRet_of (eOp_of rfl rfl ?_)
      show atI (ns.map PyData.int) (k : Int) = _
      refine atI_of ?_
      rw [List.getElem?_map, List.getElem?_eq_getElem h, List.getD_eq_getElem?_getD, List.getElem?_eq_getElem h]
      rfl
  · rw [decide_eq_false h] at hc
    rw [sSeq_nx (δ' := [some (.list (ns.map PyData.int)), some (.int (k : Int))])]
    · rw [List.getD_eq_getElem?_getD, List.getElem?_eq_none (by omega)]
      rfl
    · rw [sIf_f hc]
      rfl
def B_Lmixed : Fs := (sSeq (sSet 2 (eOp oMod (eOp oMul (eOp oAdd (eOp oAdd (eCall F_Lcell_at (aCons (eVar 0) (aCons (eVar 1) aNil))) (eOp oMul (eC (.int 7919)) (eVar 1))) (eC (.int 1))) (eC (.int 48271))) (eC (.int 2147483647))))
    (sRet (eOp oMod (eOp oAdd (eOp oAdd (eOp oMul (eVar 2) (eVar 2)) (eOp oMul (eC (.int 7)) (eVar 2))) (eVar 1)) (eC (.int 2147483629)))))
def F_Lmixed : List D → Option D := dataOf 3 B_Lmixed
theorem v_Lmixed (ns : List Int) (k : Nat) (hk : k < 100) : F_Lmixed [.list (ns.map PyData.int), .int (k : Int)] = some (.int (mixI (ns.getD k 0) k)) := by
  show finish (B_Lmixed [some (.list (ns.map PyData.int)), some (.int (k : Int)), none]) = _
  unfold B_Lmixed
  rw [sSeq_nx (sSet_of (eOp_of (eOp_of (eOp_of (eOp_of (eCall_of (aCons_of rfl (aCons_of rfl rfl)) (v_Lcell ns k)) (eOp_of rfl rfl (mul_of (cMul_l (by decide) (by decide)))) rfl) rfl rfl) rfl (mul_of (cMul_r (by decide) (by decide)))) rfl (mod_of (by decide))))]
  have hd := emod_small (x := (ns.getD k 0 + 7919 * (k : Int) + 1) * 48271) (m := 2147483647) (by decide) (by decide)
  rw [sRet_of (eOp_of (eOp_of (eOp_of (eOp_of rfl rfl (mul_of (cMul_l hd.1 hd.2))) (eOp_of rfl rfl (mul_of (cMul_l (by decide) (by decide)))) rfl) rfl rfl) rfl (mod_of (by decide)))]
  rfl
def B_Ldrawn : Fs := (sSeq (sSet 2 (eOp oMod (eOp oMul (eOp oAdd (eOp oAdd (eVar 0) (eOp oMul (eC (.int 104729)) (eVar 1))) (eC (.int 17))) (eC (.int 69621))) (eC (.int 2147483647))))
    (sRet (eOp oMod (eOp oAdd (eOp oAdd (eOp oMul (eVar 2) (eVar 2)) (eOp oMul (eC (.int 3)) (eVar 2))) (eVar 1)) (eC (.int 2147483629)))))
def F_Ldrawn : List D → Option D := dataOf 3 B_Ldrawn
theorem v_Ldrawn (x k : Int) : F_Ldrawn [.int x, .int k] = some (.int (drawnI x k)) := by
  show finish (B_Ldrawn [some (.int x), some (.int k), none]) = _
  unfold B_Ldrawn
  rw [sSeq_nx (sSet_of (eOp_of (eOp_of (eOp_of (eOp_of rfl (eOp_of rfl rfl (mul_of (cMul_l (by decide) (by decide)))) rfl) rfl rfl) rfl (mul_of (cMul_r (by decide) (by decide)))) rfl (mod_of (by decide))))]
  have hd := emod_small (x := (x + 104729 * k + 17) * 69621) (m := 2147483647) (by decide) (by decide)
  rw [sRet_of (eOp_of (eOp_of (eOp_of (eOp_of rfl rfl (mul_of (cMul_l hd.1 hd.2))) (eOp_of rfl rfl (mul_of (cMul_l (by decide) (by decide)))) rfl) rfl rfl) rfl (mod_of (by decide)))]
  rfl
def O_Ltable : Fo := (oSeq (oFor (iRng (aCons (eVar 2) aNil)) (gN 5) (oSeq (oLift (sSet 6 (eCall F_Ldrawn (aCons (eVar 0) (aCons (eVar 5) aNil)))))
    (oApp 4 (eCall fTuple (aCons (eLc (iRng (aCons (eVar 1) aNil)) [none, some 6, some 3] (gN 0) cTrue (eOp oMod (eOp oDiv (eCall F_Ldrawn (aCons (eVar 1) (aCons (eVar 0) aNil))) (eC (.int 8))) (eVar 2))) aNil)))))
    (oClose 4 (sRet (eCall fTuple (aCons (eVar 4) aNil)))))
noncomputable def B_Ltable : Fs := (sSeq (sSet 1 (eOp oAdd (eC (.int 1)) (eOp oMod (eVar 0) (eC (.int 5)))))
    (sSeq (sSet 2 (eOp oAdd (eC (.int 1)) (eOp oMod (eOp oDiv (eVar 0) (eC (.int 5))) (eC (.int 5)))))
    (sSeq (sSet 3 (eOp oIx (eTup (aCons (eC (.int 3)) (aCons (eC (.int 20)) (aCons (eC (.int 100)) (aCons (eC (.int 100001)) aNil))))) (eOp oMod (eOp oDiv (eVar 0) (eC (.int 25))) (eC (.int 4)))))
    (oOpen 4 aNil O_Ltable))))
noncomputable def F_Ltable : List D → Option D := dataOf 7 B_Ltable
def gt_body : Fo := (oSeq (oLift (sSet 6 (eCall F_Ldrawn (aCons (eVar 0) (aCons (eVar 5) aNil)))))
    (oApp 4 (eCall fTuple (aCons (eLc (iRng (aCons (eVar 1) aNil)) [none, some 6, some 3] (gN 0) cTrue (eOp oMod (eOp oDiv (eCall F_Ldrawn (aCons (eVar 1) (aCons (eVar 0) aNil))) (eC (.int 8))) (eVar 2))) aNil))))
theorem g_Ltable {n wd ta hi : Int} (hc : 0 ≤ wd ∧ wd ≤ 1000 ∧ 0 ≤ ta ∧ ta ≤ 1000 ∧ 0 < hi) : oOpen 4 aNil O_Ltable [some (.int n), some (.int wd), some (.int ta), some (.int hi), none, none, none] =
    some (.rt (encT ((List.range ta.toNat).map fun (k : Nat) => (List.range wd.toNat).map fun (j : Nat) => drawnI (drawnI n k) j / 8 % hi))) := by
  obtain ⟨h1, h2, h3, h4, h5⟩ := hc
  refine oOpen_of (by simp) rfl (by simp) fun p => ⟨[], ?_⟩
  have hwd : wd = (wd.toNat : Int) := by omega
  have hta : ta = (ta.toNat : Int) := by omega
  show O_Ltable [some (.int n), some (.int wd), some (.int ta), some (.int hi), some (opq p), none, none] [] = _
  unfold O_Ltable
  show oSeq (oFor (iRng (aCons (eVar 2) aNil)) (gN 5) gt_body) (oClose 4 (sRet (eCall fTuple (aCons (eVar 4) aNil)))) _ [] = _
  obtain ⟨δ', hf, a5, a6, hδ⟩ := forO_build (gf := gN 5) (xs := List.range ta.toNat) (e := fun (k : Nat) => PyData.int (k : Int)) (g := fun (k : Nat) => encR ((List.range wd.toNat).map fun (j : Nat) => drawnI (drawnI n k) j / 8 % hi))
    (body := gt_body) (P := fun δ => ∃ a5 a6, δ = [some (.int n), some (.int wd), some (.int ta), some (.int hi), some (opq p), a5, a6]) (δ := [some (.int n), some (.int wd), some (.int ta), some (.int hi), some (opq p), none, none]) (ds := [])
    (by rw [List.length_range]; show 0 + ta.toNat ≤ 2000; omega) (fun k hk δ ds hP hl => by
      obtain ⟨a5, a6, rfl⟩ := hP
      refine ⟨_, _, rfl, ?_, some (.int (k : Int)), some (.int (drawnI n k)), rfl⟩
      unfold gt_body
      rw [oSeq_nx (oLift_nx (sSet_of (eCall_of (aCons_of rfl (aCons_of rfl rfl)) (v_Ldrawn n k))))]
      refine oApp_of ?_ (by omega)
      rw [eCall_of (aCons_of (eLc_map (xs := List.range wd.toNat) (e := fun (j : Nat) => PyData.int (j : Int)) (g := fun (j : Nat) => PyData.int (drawnI (drawnI n k) j / 8 % hi)) (iRng_of (n := wd.toNat) (by rw [← hwd]; rfl) (by omega)) (by rw [List.length_range]; omega)
        fun j hj => ⟨_, rfl, rfl, eOp_of (eOp_of (eCall_of (aCons_of rfl (aCons_of rfl rfl)) (v_Ldrawn (drawnI n k) j)) rfl (div_of (by decide) (by decide))) rfl (mod_of h5)⟩) rfl) rfl]
      show some (PyData.tuple ((List.range wd.toNat).map fun (j : Nat) => PyData.int (drawnI (drawnI n k) j / 8 % hi))) = some (PyData.tuple (((List.range wd.toNat).map fun (j : Nat) => drawnI (drawnI n k) j / 8 % hi).map PyData.int))
      rw [List.map_map]
      rfl) ⟨none, none, rfl⟩
  rw [oSeq_nx (δ' := δ') (ds' := [] ++ (List.range ta.toNat).map fun (k : Nat) => encR ((List.range wd.toNat).map fun (j : Nat) => drawnI (drawnI n k) j / 8 % hi))]
  · rw [hδ, List.nil_append]
    unfold oClose
    show ((sRet (eCall fTuple (aCons (eVar 4) aNil)) [some (.int n), some (.int wd), some (.int ta), some (.int hi), some (.list ((List.range ta.toNat).map fun (k : Nat) => encR ((List.range wd.toNat).map fun (j : Nat) => drawnI (drawnI n k) j / 8 % hi))), a5, a6]).bind _) = _
    rw [sRet_of (eCall_of (aCons_of rfl rfl) rfl)]
    show some (Fl.rt (PyData.tuple ((List.range ta.toNat).map fun (k : Nat) => encR ((List.range wd.toNat).map fun (j : Nat) => drawnI (drawnI n k) j / 8 % hi))), ([] : List D)) = some (Fl.rt (PyData.tuple (((List.range ta.toNat).map fun (k : Nat) => (List.range wd.toNat).map fun (j : Nat) => drawnI (drawnI n k) j / 8 % hi).map encR)), [])
    rw [List.map_map]
    rfl
  · unfold oFor
    rw [iRng_of (n := ta.toNat) (by rw [← hta]; rfl) (by omega)]
    exact hf
theorem v_Ltable (n : Int) : F_Ltable [.int n] = some (encT (tableI 100001 n)) := by
  show finish (B_Ltable [some (.int n), none, none, none, none, none, none]) = _
  unfold B_Ltable
  rw [sSeq_nx (sSet_of (eOp_of rfl (eOp_of rfl rfl (mod_of (by decide))) (add_of _ _)))]
  rw [sSeq_nx (sSet_of (eOp_of rfl (eOp_of (eOp_of rfl rfl (div_of (by decide) (by decide))) rfl (mod_of (by decide))) (add_of _ _)))]
  have h4 : n / 25 % 4 = ((n / 25 % 4).toNat : Int) := by omega
  have hlt : (n / 25 % 4).toNat < [3, 20, 100, (100001 : Int)].length := by show (n / 25 % 4).toNat < 4; omega
  have e3 : eOp oIx (eTup (aCons (eC (.int 3)) (aCons (eC (.int 20)) (aCons (eC (.int 100)) (aCons (eC (.int 100001)) aNil))))) (eOp oMod (eOp oDiv (eVar 0) (eC (.int 25))) (eC (.int 4))) [some (.int n), some (.int (1 + n % 5)), some (.int (1 + n / 5 % 5)), none, none, none, none] = some (.int (highI 100001 n)) := by
    refine ix_tup (l := [3, 20, 100, 100001].map PyData.int) (i := (n / 25 % 4).toNat) (by unfold eTup; rw [aCons_of rfl (aCons_of rfl (aCons_of rfl (aCons_of rfl rfl)))]; rfl) ?_ ?_
    · rw [eOp_of (eOp_of rfl rfl (div_of (by decide) (by decide))) rfl (mod_of (by decide)), ← h4]
    · rw [get_int hlt]
      rfl
  rw [show ([some (.int n), none, none, none, none, none, none] : Dl).set 1 (some (.int (1 + n % 5))) = [some (.int n), some (.int (1 + n % 5)), none, none, none, none, none] from rfl]
  show finish (sSeq _ _ [some (.int n), some (.int (1 + n % 5)), some (.int (1 + n / 5 % 5)), none, none, none, none]) = _
  rw [sSeq_nx (sSet_of e3)]
  have hh := highI_le (h := 100001) (by decide) n
  show finish (oOpen 4 aNil O_Ltable [some (.int n), some (.int (1 + n % 5)), some (.int (1 + n / 5 % 5)), some (.int (highI 100001 n)), none, none, none]) = _
  rw [g_Ltable (by omega)]
  rfl
def B_Lbase : Fs := (sRet (eOp oIx (eTup (aCons (eC (.int 1)) (aCons (eC (.int 2)) (aCons (eC (.int 3)) (aCons (eC (.int 7)) (aCons (eC (.int 12)) (aCons (eOp oAdd (eC (.int 1)) (eOp oMod (eOp oDiv (eVar 0) (eC (.int 6))) (eC (.int 60)))) aNil))))))) (eOp oMod (eVar 0) (eC (.int 6)))))
def F_Lbase : List D → Option D := dataOf 1 B_Lbase
theorem v_Lbase (n : Int) : F_Lbase [.int n] = some (.int (baseI n)) := by
  show finish (B_Lbase [some (.int n)]) = _
  unfold B_Lbase
  have e1 : eTup (aCons (eC (.int 1)) (aCons (eC (.int 2)) (aCons (eC (.int 3)) (aCons (eC (.int 7)) (aCons (eC (.int 12)) (aCons (eOp oAdd (eC (.int 1)) (eOp oMod (eOp oDiv (eVar 0) (eC (.int 6))) (eC (.int 60)))) aNil)))))) [some (.int n)] = some (.tuple ([1, 2, 3, 7, 12, 1 + n / 6 % 60].map PyData.int)) := by
    unfold eTup
    rw [aCons_of rfl (aCons_of rfl (aCons_of rfl (aCons_of rfl (aCons_of rfl (aCons_of (eOp_of rfl (eOp_of (eOp_of rfl rfl (div_of (by decide) (by decide))) rfl (mod_of (by decide))) rfl) rfl)))))]
    rfl
  rw [sRet_of (eOp_of e1 (eOp_of rfl rfl (mod_of (by decide))) (d := .int (baseI n)) ?_)]
  · rfl
  · show atI ([1, 2, 3, 7, 12, 1 + n / 6 % 60].map PyData.int) (n % 6) = _
    have h0 : n % 6 = ((n % 6).toNat : Int) := by omega
    rw [h0]
    refine atI_of ?_
    rw [List.getElem?_map]
    unfold baseI
    have hlt : (n % 6).toNat < [1, 2, 3, 7, 12, 1 + n / 6 % 60].length := by show (n % 6).toNat < 6; omega
    rw [List.getD_eq_getElem?_getD, List.getElem?_eq_getElem hlt]
    rfl
def B_Lsums : Fs := (sSeq (sSet 1 (eLc (iSeq (eVar 0)) [none] (gN 0) cTrue (eCall fSum (aCons (eVar 0) aNil))))
    (sSeq (sSet 2 (eLc (iRng (aCons (eCall fLen (aCons (eOp oIx (eVar 0) (eC (.int 0))) aNil)) aNil)) [none, some 0] (gN 0) cTrue (eCall fSum (aCons (eLc (iSeq (eVar 1)) [none, some 0] (gN 0) cTrue (eOp oIx (eVar 0) (eVar 1))) aNil))))
    (sRet (eTup (aCons (eCall fTuple (aCons (eVar 1) aNil)) (aCons (eCall fTuple (aCons (eVar 2) aNil)) (aCons (eCall fSum (aCons (eVar 1) aNil)) aNil)))))))
def F_Lsums : List D → Option D := dataOf 3 B_Lsums
theorem v_Lsums {t : List (List Int)} {w : Nat} (x : Rows t w) : F_Lsums [encT t] = some (sumsD t w) := by
  obtain ⟨r, ts, ht, hw⟩ := head_enc x
  show finish (B_Lsums [some (encT t), none, none]) = _
  unfold B_Lsums
  have e1 : eLc (iSeq (eVar 0)) [none] (gN 0) cTrue (eCall fSum (aCons (eVar 0) aNil)) [some (encT t), none, none] = some (.list ((t.map List.sum).map PyData.int)) := by
    rw [eLc_map (xs := t) (e := encR) (g := fun r => PyData.int r.sum) rfl (by have := x.tall.2; omega) fun r hr => ⟨_, rfl, rfl, eCall_of (aCons_of rfl rfl) (fSum_tup r)⟩]
    rw [List.map_map]
    rfl
  rw [sSeq_nx (sSet_of e1)]
  show finish (sSeq _ _ [some (encT t), some (.list ((t.map List.sum).map PyData.int)), none]) = _
  have e2 : eLc (iRng (aCons (eCall fLen (aCons (eOp oIx (eVar 0) (eC (.int 0))) aNil)) aNil)) [none, some 0] (gN 0) cTrue (eCall fSum (aCons (eLc (iSeq (eVar 1)) [none, some 0] (gN 0) cTrue (eOp oIx (eVar 0) (eVar 1))) aNil))
      [some (encT t), some (.list ((t.map List.sum).map PyData.int)), none] = some (.list (((List.range w).map fun j => colI t j).map PyData.int)) := by
    rw [eLc_map (xs := List.range w) (e := fun (i : Nat) => PyData.int (i : Int)) (g := fun j => PyData.int (colI t j)) ?_ (by rw [List.length_range]; have := x.wide; omega) fun j hj => ⟨_, rfl, rfl, eCall_of (aCons_of (eLc_map (xs := t) (e := encR) (g := fun r => PyData.int (r.getD j 0)) rfl (by have := x.tall.2; omega) fun r hr => ⟨_, rfl, rfl, eOp_of rfl rfl ?_⟩) rfl) ?_⟩]
    · rw [List.map_map]
      rfl
    · refine iRng_of (n := w) ?_ (by have := x.wide; omega)
      rw [len_tup (ix_tup (i := 0) rfl rfl (get_row (t := t) (by rw [ht]; simp))), List.length_map, ht]
      show some (PyData.int (r.length : Int)) = _
      rw [hw]
    · show atI (r.map PyData.int) (j : Int) = _
      refine atI_of ?_
      have hl : j < r.length := by rw [x.rows r hr]; exact List.mem_range.mp hj
      rw [List.getElem?_map, List.getElem?_eq_getElem hl, List.getD_eq_getElem?_getD, List.getElem?_eq_getElem hl]
      rfl
    · show fSum [.list (t.map fun r => PyData.int (r.getD j 0))] = _
      rw [show (t.map fun r => PyData.int (r.getD j 0)) = (t.map fun r => r.getD j 0).map PyData.int by rw [List.map_map]; rfl, fSum_list]
      rfl
  rw [sSeq_nx (sSet_of e2)]
  show finish (sRet _ [some (encT t), some (.list ((t.map List.sum).map PyData.int)), some (.list (((List.range w).map fun j => colI t j).map PyData.int))]) = _
  rw [sRet_of (d := sumsD t w)]
  · rfl
  · unfold eTup
    rw [aCons_of (eCall_of (aCons_of rfl rfl) rfl) (aCons_of (eCall_of (aCons_of rfl rfl) rfl) (aCons_of (eCall_of (aCons_of rfl rfl) (fSum_list _)) rfl))]
    rfl
def B_Lrounded : Fs := (sRet (eAnd (eIs "int" (eVar 2)) (eAnd (eNot (eIs "bool" (eVar 2))) (eOp oLt (eCall fAbs (aCons (eOp oSub (eOp oMul (eVar 2) (eVar 1)) (eVar 0)) aNil)) (eVar 1)))))
def F_Lrounded : List D → Option D := dataOf 3 B_Lrounded
theorem v_Lrounded {c b n : Int} (h1 : -(2 ^ 64) < b) (h2 : b < 2 ^ 64) : F_Lrounded [.int c, .int b, .int n] = some (.bool (decide ((if n * b - c < 0 then -(n * b - c) else n * b - c) < b))) := by
  show finish (B_Lrounded [some (.int c), some (.int b), some (.int n)]) = _
  unfold B_Lrounded
  rw [sRet_of]
  · rfl
  · rw [eAnd_t (eIs_of rfl rfl rfl), eAnd_t (eNot_of (t := false) (eIs_of rfl rfl rfl))]
    exact eOp_of (eCall_of (aCons_of (eOp_of (eOp_of rfl rfl (mul_of (cMul_r h1 h2))) rfl (sub_of _ _)) rfl) rfl) rfl rfl
def rdB (b c : Int) : D → Bool
  | .int n => decide ((if n * b - c < 0 then -(n * b - c) else n * b - c) < b)
  | _ => false
theorem v_LroundedD {c b : Int} {d : D} (h1 : -(2 ^ 64) < b) (h2 : b < 2 ^ 64) (hd : noD d = true) : F_Lrounded [.int c, .int b, d] = some (.bool (rdB b c d)) := by
  cases d with
  | int n => exact v_Lrounded h1 h2
  | dict _ => cases hd
  | none => rfl
  | bool _ => rfl
  | str _ => rfl
  | list _ => rfl
  | tuple _ => rfl
def B_Lis_fair : Fs := (sSeq (sIf (cOr (cNot (cT (eIs "tuple" (eVar 2)))) (cB (eOp oNe (eCall fLen (aCons (eVar 2) aNil)) (eCall fLen (aCons (eVar 0) aNil))))) (sRet (eC (.bool false))) sNext)
    (sSeq (sFor (iZip (eVar 0) (eVar 2)) (g2 3 4) (sSeq (sIf (cOr (cNot (cT (eIs "tuple" (eVar 4)))) (cB (eOp oNe (eCall fLen (aCons (eVar 4) aNil)) (eCall fLen (aCons (eVar 3) aNil))))) (sRet (eC (.bool false))) sNext)
    (sIf (cB (eOp oNe (eLc (iRng (aCons (eCall fLen (aCons (eVar 4) aNil)) aNil)) [none, some 3, some 1, some 4] (gN 0) (cNot (cT (eCall F_Lrounded (aCons (eOp oIx (eVar 1) (eVar 0)) (aCons (eVar 2) (aCons (eOp oIx (eVar 3) (eVar 0)) aNil)))))) (eVar 0)) (eLst aNil))) (sRet (eC (.bool false))) sNext)))
    (sSeq (sSet 5 (eCall F_Lsums (aCons (eVar 0) aNil)))
    (sSeq (sSet 6 (eCall F_Lsums (aCons (eVar 2) aNil)))
    (sSeq (sFor (iSeq (eTup (aCons (eTup (aCons (eOp oIx (eVar 5) (eC (.int 0))) (aCons (eOp oIx (eVar 6) (eC (.int 0))) aNil))) (aCons (eTup (aCons (eOp oIx (eVar 5) (eC (.int 1))) (aCons (eOp oIx (eVar 6) (eC (.int 1))) aNil))) (aCons (eTup (aCons (eTup (aCons (eOp oIx (eVar 5) (eC (.int 2))) aNil)) (aCons (eTup (aCons (eOp oIx (eVar 6) (eC (.int 2))) aNil)) aNil))) aNil))))) (g2 3 4) (sIf (cB (eOp oNe (eLc (iRng (aCons (eCall fLen (aCons (eVar 4) aNil)) aNil)) [none, some 3, some 1, some 4] (gN 0) (cNot (cT (eCall F_Lrounded (aCons (eOp oIx (eVar 1) (eVar 0)) (aCons (eVar 2) (aCons (eOp oIx (eVar 3) (eVar 0)) aNil)))))) (eVar 0)) (eLst aNil))) (sRet (eC (.bool false))) sNext))
    (sRet (eC (.bool true))))))))
def F_Lis_fair : List D → Option D := dataOf 7 B_Lis_fair
def rowT (b : Int) (r : List Int) : D → Bool
  | .tuple l => decide (l.length = r.length) && (List.range l.length).all fun (j : Nat) => rdB b (r.getD j 0) (l.getD j .none)
  | _ => false
def intOf : D → Int
  | .int n => n
  | _ => 0
def rowInts : D → List Int
  | .tuple l => l.map intOf
  | _ => []
theorem rdB_int {b c : Int} {d : D} (h : rdB b c d = true) : d = .int (intOf d) := by
  cases d with
  | int n => rfl
  | _ => cases h
theorem rowT_enc {b : Int} {r : List Int} {d : D} (h : rowT b r d = true) : d = encR (rowInts d) ∧ (rowInts d).length = r.length := by
  cases d with
  | tuple l =>
    have h' : (decide (l.length = r.length) && (List.range l.length).all fun (j : Nat) => rdB b (r.getD j 0) (l.getD j .none)) = true := h
    rw [Bool.and_eq_true] at h'
    refine ⟨?_, by show (l.map intOf).length = _; rw [List.length_map]; exact of_decide_eq_true h'.1⟩
    show PyData.tuple l = PyData.tuple ((l.map intOf).map PyData.int)
    rw [List.map_map]
    refine congrArg PyData.tuple ?_
    have ha := List.all_eq_true.mp h'.2
    refine List.ext_getElem (by rw [List.length_map]) fun i h1 h2 => ?_
    rw [List.getElem_map]
    have := ha i (List.mem_range.mpr h1)
    rw [List.getD_eq_getElem?_getD (l := l), List.getElem?_eq_getElem h1] at this
    exact rdB_int this
  | _ => cases h
def seqT (b : Int) (cs : List Int) (l : List D) : Bool := (List.range l.length).all fun (j : Nat) => rdB b (cs.getD j 0) (l.getD j .none)
def sumT (b : Int) (t N : List (List Int)) (w : Nat) : Bool :=
  seqT b (t.map List.sum) ((N.map List.sum).map PyData.int) && (seqT b ((List.range w).map fun j => colI t j) (((List.range w).map fun j => colI N j).map PyData.int) && seqT b [(t.map List.sum).sum] [.int (N.map List.sum).sum])
def fairD (b : Int) (t : List (List Int)) (w : Nat) : D → Bool
  | .tuple l => decide (l.length = t.length) && ((t.zip l).all (fun p => rowT b p.1 p.2) && sumT b t (l.map rowInts) w)
  | _ => false
theorem intOf_map (l : List Int) : (l.map PyData.int).map intOf = l := by rw [List.map_map]; exact (List.map_congr_left fun _ _ => rfl).trans (List.map_id l)
theorem not_all {α : Type} (l : List α) (p : α → Bool) : (!(l.filter fun x => !p x).isEmpty) = !l.all p := by
  induction l with
  | nil => rfl
  | cons x r ih =>
    rw [List.all_cons]
    cases hp : p x with
    | true => rw [List.filter_cons_of_neg (by rw [hp]; simp), ih]; rfl
    | false => rw [List.filter_cons_of_pos (by rw [hp]; rfl)]; rfl
theorem shaped_ints (ns : List Int) : SeqAt.shaped (.list (ns.map PyData.int)) = true := by
  obtain ⟨h1, h2, _⟩ := lay_ints ns
  unfold SeqAt.shaped
  simp only [PyData.canLay0, PyData.depth, h1, h2]
  rfl
theorem ne_nil (ns : List Int) : oNe (.list (ns.map PyData.int)) (.list []) = some (.bool (!ns.isEmpty)) := by
  unfold oNe
  have h0 : SeqAt.shaped (.list []) = true := shaped_ints []
  rw [shaped_ints, h0]
  cases ns with
  | nil => simp [PyData.eqv, PyData.eqvAll]
  | cons x r => simp [PyData.eqv, PyData.eqvAll]
theorem lf_test {b : Int} {cs : List Int} {l : List D} {δ : Dl} {x y : D} (hb : -(2 ^ 64) < b ∧ b < 2 ^ 64) (hl : l.length ≤ cs.length) (hs : l.length ≤ 1000) (hd : ∀ d ∈ l, noD d = true) (h3 : (eVar 3) δ = some (.tuple (cs.map PyData.int))) (h4 : (eVar 4) δ = some (.tuple l)) (h1 : (eVar 1) δ = some (.int b)) :
    cB (eOp oNe (eLc (iRng (aCons (eCall fLen (aCons (eVar 4) aNil)) aNil)) [none, some 3, some 1, some 4] (gN 0) (cNot (cT (eCall F_Lrounded (aCons (eOp oIx (eVar 1) (eVar 0)) (aCons (eVar 2) (aCons (eOp oIx (eVar 3) (eVar 0)) aNil)))))) (eVar 0)) (eLst aNil)) δ = some (!seqT b cs l) := by
  have es : selD [none, some 3, some 1, some 4] δ = [none, some (.tuple (cs.map PyData.int)), some (.int b), some (.tuple l)] := by
    unfold selD
    show [none, (δ[3]?).bind id, (δ[1]?).bind id, (δ[4]?).bind id] = _
    rw [show (δ[3]?).bind id = some (.tuple (cs.map PyData.int)) from h3, show (δ[1]?).bind id = some (.int b) from h1, show (δ[4]?).bind id = some (.tuple l) from h4]
  have e1 : eLc (iRng (aCons (eCall fLen (aCons (eVar 4) aNil)) aNil)) [none, some 3, some 1, some 4] (gN 0) (cNot (cT (eCall F_Lrounded (aCons (eOp oIx (eVar 1) (eVar 0)) (aCons (eVar 2) (aCons (eOp oIx (eVar 3) (eVar 0)) aNil)))))) (eVar 0) δ = some (.list (((List.range l.length).filter fun (j : Nat) => !rdB b (cs.getD j 0) (l.getD j .none)).map fun (j : Nat) => PyData.int (j : Int))) := by
    refine eLc_filter (xs := List.range l.length) (e := fun (j : Nat) => PyData.int (j : Int)) (g := fun (j : Nat) => PyData.int (j : Int)) (p := fun (j : Nat) => !rdB b (cs.getD j 0) (l.getD j .none)) (iRng_of (len_tup h4) hs) (by rw [List.length_range]; omega) fun j hj => ?_
    rw [es]
    have hj' := List.mem_range.mp hj
    refine ⟨_, rfl, ?_, fun _ => rfl⟩
    have hg : l[j]? = some (l.getD j .none) := by rw [List.getD_eq_getElem?_getD, List.getElem?_eq_getElem hj']; rfl
    exact cNot_of (cT_bool (eCall_of (aCons_of (ix_tup (i := j) rfl rfl (get_int (by omega))) (aCons_of rfl (aCons_of (ix_tup (i := j) rfl rfl hg) rfl))) (v_LroundedD hb.1 hb.2 (hd _ (List.mem_of_getElem? hg)))))
  rw [show (((List.range l.length).filter fun (j : Nat) => !rdB b (cs.getD j 0) (l.getD j .none)).map fun (j : Nat) => PyData.int (j : Int)) = (((List.range l.length).filter fun (j : Nat) => !rdB b (cs.getD j 0) (l.getD j .none)).map fun (j : Nat) => (j : Int)).map PyData.int by rw [List.map_map]; rfl] at e1
  rw [cB_of (eOp_of e1 (y := .list []) rfl (ne_nil _))]
  unfold seqT
  rw [← not_all, List.isEmpty_map]
def tstRow (b : Int) : D → Bool
  | .tuple [.tuple rr, p] => rowT b (rr.map intOf) p
  | _ => false
def tstSeq (b : Int) : D → Bool
  | .tuple [.tuple rr, .tuple p] => seqT b (rr.map intOf) p
  | _ => false
theorem tstRow_of (b : Int) (r : List Int) (p : D) : tstRow b (.tuple [encR r, p]) = rowT b r p := by
  show rowT b ((r.map PyData.int).map intOf) p = _
  rw [intOf_map]
theorem tstSeq_of (b : Int) (cs ns : List Int) : tstSeq b (.tuple [encR cs, encR ns]) = seqT b cs (ns.map PyData.int) := by
  show seqT b ((cs.map PyData.int).map intOf) (ns.map PyData.int) = _
  rw [intOf_map]
theorem rowT_tup (b : Int) (r : List Int) (l : List D) : rowT b r (.tuple l) = (decide (l.length = r.length) && seqT b r l) := rfl
theorem v_Lis_fair {t : List (List Int)} {w : Nat} {b : Int} {d : D} (x : Tab t w) (hb : 0 < b ∧ b < 1073741824) (hd : PyData.canLay0 d = true) : F_Lis_fair [encT t, .int b, d] = some (.bool (fairD b t w d)) := by
  show finish (B_Lis_fair [some (encT t), some (.int b), some d, none, none, none, none]) = _
  unfold B_Lis_fair
  have hb2 : -(2 ^ 64) < b ∧ b < 2 ^ 64 := by omega
  have htall := x.tall
  cases d with
  | dict _ => simp [PyData.canLay0] at hd
  | none => rfl
  | bool _ => rfl
  | int _ => rfl
  | str _ => rfl
  | list _ => rfl
  | tuple l =>
    have hla : ∀ p ∈ l, PyData.canLay0 p = true := fun p hp => layAll_mem (by simpa [PyData.canLay0] using hd) hp
    have e1 : cOr (cNot (cT (eIs "tuple" (eVar 2)))) (cB (eOp oNe (eCall fLen (aCons (eVar 2) aNil)) (eCall fLen (aCons (eVar 0) aNil)))) [some (encT t), some (.int b), some (.tuple l), none, none, none, none] = some (!decide (l.length = t.length)) := by
      rw [cOr_f (by rw [cNot_of (cT_bool (eIs_of (t := true) rfl rfl rfl))]; rfl), cB_of (eOp_of (len_tup rfl) (len_tup (l := t.map encR) rfl) (ne_int _ _)), beq_nat, List.length_map]
    show _ = some (PyData.bool (decide (l.length = t.length) && _))
    by_cases hlen : l.length = t.length
    · rw [decide_eq_true hlen] at e1 ⊢
      rw [sSeq_nx (δ' := [some (encT t), some (.int b), some (.tuple l), none, none, none, none]) (by rw [sIf_f e1]; rfl)]
      have loop := forF_test (r := .bool false) (gf := g2 3 4) (xs := (t.zip l).map fun p => PyData.tuple [encR p.1, p.2]) (test := tstRow b)
        (P := fun δ => ∃ a3 a4, δ = [some (encT t), some (.int b), some (.tuple l), a3, a4, none, none])
        (body := (sSeq (sIf (cOr (cNot (cT (eIs "tuple" (eVar 4)))) (cB (eOp oNe (eCall fLen (aCons (eVar 4) aNil)) (eCall fLen (aCons (eVar 3) aNil))))) (sRet (eC (.bool false))) sNext)
          (sIf (cB (eOp oNe (eLc (iRng (aCons (eCall fLen (aCons (eVar 4) aNil)) aNil)) [none, some 3, some 1, some 4] (gN 0) (cNot (cT (eCall F_Lrounded (aCons (eOp oIx (eVar 1) (eVar 0)) (aCons (eVar 2) (aCons (eOp oIx (eVar 3) (eVar 0)) aNil)))))) (eVar 0)) (eLst aNil))) (sRet (eC (.bool false))) sNext)))
        (δ := [some (encT t), some (.int b), some (.tuple l), none, none, none, none]) (fun q hq δ hP => by
          obtain ⟨a3, a4, rfl⟩ := hP
          obtain ⟨⟨r, p⟩, hp, rfl⟩ := List.mem_map.mp hq
          have hr : r ∈ t := (List.of_mem_zip hp).1
          have hpl := hla p (List.of_mem_zip hp).2
          have hrl := x.rows r hr
          have hw := x.wide
          refine ⟨[some (encT t), some (.int b), some (.tuple l), some (encR r), some p, none, none], rfl, ?_⟩
          show (tstRow b (.tuple [encR r, p]) = true ∧ _) ∨ (tstRow b (.tuple [encR r, p]) = false ∧ _)
          rw [tstRow_of]
          have notup : isK "tuple" p = false → rowT b r p = false ∧ (sSeq (sIf (cOr (cNot (cT (eIs "tuple" (eVar 4)))) (cB (eOp oNe (eCall fLen (aCons (eVar 4) aNil)) (eCall fLen (aCons (eVar 3) aNil))))) (sRet (eC (.bool false))) sNext)
              (sIf (cB (eOp oNe (eLc (iRng (aCons (eCall fLen (aCons (eVar 4) aNil)) aNil)) [none, some 3, some 1, some 4] (gN 0) (cNot (cT (eCall F_Lrounded (aCons (eOp oIx (eVar 1) (eVar 0)) (aCons (eVar 2) (aCons (eOp oIx (eVar 3) (eVar 0)) aNil)))))) (eVar 0)) (eLst aNil))) (sRet (eC (.bool false))) sNext)) [some (encT t), some (.int b), some (.tuple l), some (encR r), some p, none, none] = some (.rt (.bool false)) := fun hk => by
            refine ⟨(by cases p <;> first | rfl | cases hk), ?_⟩
            rw [sSeq_rt (by rw [sIf_t (by rw [cOr_t (by rw [cNot_of (cT_bool (eIs_of (t := false) rfl (noD_of hpl) hk))]; rfl)])]; rfl)]
          cases p with
          | tuple lp =>
            have hlp : ∀ z ∈ lp, noD z = true := fun z hz => noD_of (layAll_mem (by simpa [PyData.canLay0] using hpl) hz)
            have e2 : cOr (cNot (cT (eIs "tuple" (eVar 4)))) (cB (eOp oNe (eCall fLen (aCons (eVar 4) aNil)) (eCall fLen (aCons (eVar 3) aNil)))) [some (encT t), some (.int b), some (.tuple l), some (encR r), some (.tuple lp), none, none] = some (!decide (lp.length = r.length)) := by
              rw [cOr_f (by rw [cNot_of (cT_bool (eIs_of (t := true) rfl rfl rfl))]; rfl), cB_of (eOp_of (len_tup rfl) (len_tup (l := r.map PyData.int) rfl) (ne_int _ _)), beq_nat, List.length_map]
            rw [rowT_tup]
            by_cases hll : lp.length = r.length
            · rw [decide_eq_true hll] at e2 ⊢
              have e3 := lf_test (δ := [some (encT t), some (.int b), some (.tuple l), some (encR r), some (.tuple lp), none, none]) (x := .none) (y := .none) hb2 (cs := r) (l := lp) (by omega) (by omega) hlp rfl rfl rfl
              rw [sSeq_nx (δ' := [some (encT t), some (.int b), some (.tuple l), some (encR r), some (.tuple lp), none, none]) (by rw [sIf_f e2]; rfl)]
              cases hsq : seqT b r lp with
              | true =>
                rw [hsq] at e3
                exact .inl ⟨rfl, _, by rw [sIf_f e3]; rfl, _, _, rfl⟩
              | false =>
                rw [hsq] at e3
                exact .inr ⟨rfl, by rw [sIf_t e3]; rfl⟩
            · rw [decide_eq_false hll] at e2 ⊢
              exact .inr ⟨rfl, by rw [sSeq_rt (by rw [sIf_t e2]; rfl)]⟩
          | dict _ => simp [PyData.canLay0] at hpl
          | none => exact .inr (notup rfl)
          | bool _ => exact .inr (notup rfl)
          | int _ => exact .inr (notup rfl)
          | str _ => exact .inr (notup rfl)
          | list _ => exact .inr (notup rfl)) ⟨none, none, rfl⟩
      have hz : zipD (t.map encR) l = (t.zip l).map fun p => PyData.tuple [encR p.1, p.2] := by
        have := zip_map t l encR id
        rw [List.map_id] at this
        exact this
      have hall : ((t.zip l).map fun p => PyData.tuple [encR p.1, p.2]).all (tstRow b) = (t.zip l).all fun p => rowT b p.1 p.2 := by
        rw [List.all_map]
        congr 1
        funext p
        exact tstRow_of b p.1 p.2
      rw [hall] at loop
      rcases loop with ⟨ha, δ', hf, a3, a4, hδ⟩ | ⟨ha, hf⟩
      · rw [ha]
        rw [sSeq_nx (f := sFor _ _ _) (δ' := [some (encT t), some (.int b), some (.tuple l), a3, a4, none, none]) (by unfold sFor; rw [iZip_of (x := encT t) (l := t.map encR) rfl rfl rfl rfl, Option.bind_some, hz, ← hδ]; exact hf)]
        have hrows : ∀ (i : Nat) (p : D), l[i]? = some p → p = encR (rowInts p) ∧ (rowInts p).length = w := fun i p hp => by
          have hi : i < t.length := by rw [← hlen]; exact (List.getElem?_eq_some_iff.mp hp).1
          have hm : (t[i], p) ∈ t.zip l := List.mem_of_getElem? (i := i) (by rw [List.getElem?_zip_eq_some]; exact ⟨List.getElem?_eq_getElem hi, hp⟩)
          obtain ⟨q1, q2⟩ := rowT_enc (List.all_eq_true.mp ha _ hm)
          exact ⟨q1, by rw [q2]; exact x.rows _ (List.getElem_mem hi)⟩
        have hN : PyData.tuple l = encT (l.map rowInts) := by
          show PyData.tuple l = PyData.tuple ((l.map rowInts).map encR)
          rw [List.map_map]
          refine congrArg PyData.tuple (List.ext_getElem (by rw [List.length_map]) fun i h1 h2 => ?_)
          rw [List.getElem_map]
          exact (hrows i _ (List.getElem?_eq_getElem h1)).1
        have hR : Rows (l.map rowInts) w := ⟨by rw [List.length_map, hlen]; omega, by have := x.wide.2; omega, fun r hr => by
          obtain ⟨p, hp, rfl⟩ := List.mem_map.mp hr
          obtain ⟨i, hi, e⟩ := List.mem_iff_getElem.mp hp
          exact (hrows i p (by rw [← e]; exact List.getElem?_eq_getElem hi)).2⟩
        rw [sSeq_nx (sSet_of (eCall_of (aCons_of rfl rfl) (v_Lsums x.toRows)))]
        show finish (sSeq _ _ [some (encT t), some (.int b), some (.tuple l), a3, a4, some (sumsD t w), none]) = _
        rw [sSeq_nx (sSet_of (eCall_of (aCons_of rfl rfl) (by rw [hN]; exact v_Lsums hR)))]
        generalize hNN : l.map rowInts = N at hR
        show finish (sSeq _ _ [some (encT t), some (.int b), some (.tuple l), a3, a4, some (sumsD t w), some (sumsD N w)]) = _
        have loop2 := forF_test (r := .bool false) (gf := g2 3 4) (xs := [.tuple [encR (t.map List.sum), encR (N.map List.sum)], .tuple [encR ((List.range w).map fun j => colI t j), encR ((List.range w).map fun j => colI N j)], .tuple [encR [(t.map List.sum).sum], encR [(N.map List.sum).sum]]]) (test := tstSeq b)
          (P := fun δ => ∃ a3 a4, δ = [some (encT t), some (.int b), some (.tuple l), a3, a4, some (sumsD t w), some (sumsD N w)])
          (body := (sIf (cB (eOp oNe (eLc (iRng (aCons (eCall fLen (aCons (eVar 4) aNil)) aNil)) [none, some 3, some 1, some 4] (gN 0) (cNot (cT (eCall F_Lrounded (aCons (eOp oIx (eVar 1) (eVar 0)) (aCons (eVar 2) (aCons (eOp oIx (eVar 3) (eVar 0)) aNil)))))) (eVar 0)) (eLst aNil))) (sRet (eC (.bool false))) sNext))
          (δ := [some (encT t), some (.int b), some (.tuple l), a3, a4, some (sumsD t w), some (sumsD N w)]) (fun q hq δ hP => by
            obtain ⟨a3, a4, rfl⟩ := hP
            have hcase : ∃ cs ns : List Int, q = .tuple [encR cs, encR ns] ∧ ns.length ≤ cs.length ∧ ns.length ≤ 1000 := by
              simp only [List.mem_cons, List.not_mem_nil, or_false] at hq
              rcases hq with rfl | rfl | rfl
              · refine ⟨_, _, rfl, ?_, ?_⟩
                · rw [List.length_map, List.length_map, ← hNN, List.length_map, hlen]; exact Nat.le_refl _
                · rw [List.length_map, ← hNN, List.length_map, hlen]; omega
              · refine ⟨_, _, rfl, ?_, ?_⟩
                · rw [List.length_map, List.length_map]; exact Nat.le_refl _
                · rw [List.length_map, List.length_range]; have := x.wide.2; omega
              · exact ⟨_, _, rfl, by simp, by simp⟩
            obtain ⟨cs, ns, rfl, h5, h6⟩ := hcase
            refine ⟨[some (encT t), some (.int b), some (.tuple l), some (encR cs), some (encR ns), some (sumsD t w), some (sumsD N w)], rfl, ?_⟩
            rw [tstSeq_of]
            have e3 := lf_test (δ := [some (encT t), some (.int b), some (.tuple l), some (encR cs), some (encR ns), some (sumsD t w), some (sumsD N w)]) (x := .none) (y := .none) hb2 (cs := cs) (l := ns.map PyData.int) (by rw [List.length_map]; exact h5) (by rw [List.length_map]; exact h6) (fun z hz => by obtain ⟨v, _, rfl⟩ := List.mem_map.mp hz; rfl) rfl rfl rfl
            cases hsq : seqT b cs (ns.map PyData.int) with
            | true =>
              rw [hsq] at e3
              exact .inl ⟨rfl, _, by rw [sIf_f e3]; rfl, _, _, rfl⟩
            | false =>
              rw [hsq] at e3
              exact .inr ⟨rfl, by rw [sIf_t e3]; rfl⟩) ⟨a3, a4, rfl⟩
        have hall2 : ([.tuple [encR (t.map List.sum), encR (N.map List.sum)], .tuple [encR ((List.range w).map fun j => colI t j), encR ((List.range w).map fun j => colI N j)], .tuple [encR [(t.map List.sum).sum], encR [(N.map List.sum).sum]]] : List D).all (tstSeq b) = sumT b t N w := by
          show (seqT b (((t.map List.sum).map PyData.int).map intOf) ((N.map List.sum).map PyData.int) && (seqT b ((((List.range w).map fun j => colI t j).map PyData.int).map intOf) (((List.range w).map fun j => colI N j).map PyData.int) && (seqT b (([(t.map List.sum).sum].map PyData.int).map intOf) ([(N.map List.sum).sum].map PyData.int) && true))) = _
          rw [intOf_map, intOf_map, intOf_map, Bool.and_true]
          rfl
        rw [hall2] at loop2
        have ix : ∀ {o k : Nat} {s : List D} {y : D}, ([some (encT t), some (.int b), some (.tuple l), a3, a4, some (sumsD t w), some (sumsD N w)] : Dl)[o]? = some (some (.tuple s)) → s[k]? = some y → eOp oIx (eVar o) (eC (.int (k : Int))) [some (encT t), some (.int b), some (.tuple l), a3, a4, some (sumsD t w), some (sumsD N w)] = some y := fun {o k s y} h1 h2 => ix_tup (i := k) (by unfold eVar; rw [h1]; rfl) rfl h2
        have ei : iSeq (eTup (aCons (eTup (aCons (eOp oIx (eVar 5) (eC (.int 0))) (aCons (eOp oIx (eVar 6) (eC (.int 0))) aNil))) (aCons (eTup (aCons (eOp oIx (eVar 5) (eC (.int 1))) (aCons (eOp oIx (eVar 6) (eC (.int 1))) aNil))) (aCons (eTup (aCons (eTup (aCons (eOp oIx (eVar 5) (eC (.int 2))) aNil)) (aCons (eTup (aCons (eOp oIx (eVar 6) (eC (.int 2))) aNil)) aNil))) aNil)))) [some (encT t), some (.int b), some (.tuple l), a3, a4, some (sumsD t w), some (sumsD N w)] =
            some [.tuple [encR (t.map List.sum), encR (N.map List.sum)], .tuple [encR ((List.range w).map fun j => colI t j), encR ((List.range w).map fun j => colI N j)], .tuple [encR [(t.map List.sum).sum], encR [(N.map List.sum).sum]]] :=
          iSeq_tup (eTup_of (aCons_of (eTup_of (aCons_of (ix (k := 0) rfl rfl) (aCons_of (ix (k := 0) rfl rfl) rfl)) (by simp)) (aCons_of (eTup_of (aCons_of (ix (k := 1) rfl rfl) (aCons_of (ix (k := 1) rfl rfl) rfl)) (by simp)) (aCons_of (eTup_of (aCons_of (eTup_of (aCons_of (ix (k := 2) rfl rfl) rfl) (by simp)) (aCons_of (eTup_of (aCons_of (ix (k := 2) rfl rfl) rfl) (by simp)) rfl)) (by simp)) rfl))) (by simp))
        rcases loop2 with ⟨hs, δ2, hf2, _⟩ | ⟨hs, hf2⟩
        · rw [hs]
          rw [sSeq_nx (f := sFor _ _ _) (δ' := δ2) (by unfold sFor; rw [ei, Option.bind_some]; exact hf2)]
          rfl
        · rw [hs]
          rw [sSeq_rt (f := sFor _ _ _) (d := .bool false) (by unfold sFor; rw [ei, Option.bind_some]; exact hf2)]
          rfl
      · rw [ha]
        rw [sSeq_rt (f := sFor _ _ _) (d := .bool false) (by unfold sFor; rw [iZip_of (x := encT t) (l := t.map encR) rfl rfl rfl rfl, Option.bind_some, hz]; exact hf)]
        rfl
    · rw [decide_eq_false hlen] at e1 ⊢
      rw [sSeq_rt (d := .bool false) (by rw [sIf_t e1]; rfl)]
      rfl
def B_Lpart : Fs := (sSeq (sAsg (g3 3 4 5) (eCall F_Lsums (aCons (eVar 0) aNil)))
    (sSeq (sIf (cB (eOp oEq (eVar 1) (eC (.str (PySem.Str.ofString "place"))))) (sRet (eOp oIx (eOp oIx (eVar 0) (eOp oIx (eVar 2) (eC (.int 0)))) (eOp oIx (eVar 2) (eC (.int 1))))) sNext)
    (sRet (eOp oIx (eDsel [(PySem.Str.ofString "row", (eVar 3)), (PySem.Str.ofString "pillar", (eVar 4)), (PySem.Str.ofString "whole", (eTup (aCons (eVar 5) aNil)))] (eVar 1)) (eOp oIx (eLst (aCons (eVar 2) (aCons (eC (.int 0)) aNil))) (eCall fInt (aCons (eUn oIsN (eVar 2)) aNil)))))))
def F_Lpart : List D → Option D := dataOf 6 B_Lpart
noncomputable def B_law : Fs := (sSeq (sSet 1 (eCall F_Ltable (aCons (eCall F_Lmixed (aCons (eVar 0) (aCons (eC (.int 0)) aNil))) aNil)))
    (sSeq (sSet 2 (eCall F_Lbase (aCons (eCall F_Lmixed (aCons (eVar 0) (aCons (eC (.int 1)) aNil))) aNil)))
    (sSeq (sSet 3 (eOp oMod (eCall F_Lmixed (aCons (eVar 0) (aCons (eC (.int 2)) aNil))) (eCall fLen (aCons (eVar 1) aNil))))
    (sSeq (sSet 4 (eOp oMod (eCall F_Lmixed (aCons (eVar 0) (aCons (eC (.int 3)) aNil))) (eCall fLen (aCons (eOp oIx (eVar 1) (eC (.int 0))) aNil))))
    (sSeq (sSet 5 (eOp oIx (eTup (aCons (eC (.str (PySem.Str.ofString "place"))) (aCons (eC (.str (PySem.Str.ofString "row"))) (aCons (eC (.str (PySem.Str.ofString "pillar"))) (aCons (eC (.str (PySem.Str.ofString "whole"))) aNil))))) (eOp oMod (eCall F_Lmixed (aCons (eVar 0) (aCons (eC (.int 4)) aNil))) (eC (.int 4)))))
    (sSeq (sSet 6 (eDsel [(PySem.Str.ofString "place", (eTup (aCons (eVar 3) (aCons (eVar 4) aNil)))), (PySem.Str.ofString "row", (eVar 3)), (PySem.Str.ofString "pillar", (eVar 4)), (PySem.Str.ofString "whole", (eC .none))] (eVar 5)))
    (sSeq (sSet 7 (eCall F_Lpart (aCons (eVar 1) (aCons (eVar 5) (aCons (eVar 6) aNil)))))
    (sSeq (sFor (iSeq (eTup (aCons (eC (.bool true)) (aCons (eC (.bool false)) aNil)))) (gN 8) (sSeq (sSet 9 (eCall F_fair_where (aCons (eVar 1) (aCons (eVar 2) (aCons (eVar 5) (aCons (eVar 6) (aCons (eVar 8) aNil)))))))
    (sSeq (sIf (cNot (cT (eCall F_Lis_fair (aCons (eVar 1) (aCons (eVar 2) (aCons (eVar 9) aNil)))))) (sRet (eC (.bool false))) sNext)
    (sSeq (sSet 10 (eOp oDiv (eVar 7) (eVar 2)))
    (sSeq (sIf (cT (eVar 8)) (sSet 10 (eUn oNeg (eOp oDiv (eUn oNeg (eVar 7)) (eVar 2)))) sNext)
    (sIf (cB (eOp oNe (eCall F_Lpart (aCons (eVar 9) (aCons (eVar 5) (aCons (eVar 6) aNil)))) (eVar 10))) (sRet (eC (.bool false))) sNext))))))
    (sRet (eC (.bool true)))))))))))
noncomputable def F_law : List D → Option D := dataOf 11 B_law
theorem near_rd {b c n : Int} (h : -b < n * b - c ∧ n * b - c < b) : rdB b c (.int n) = true := by
  show decide (_ < b) = true
  refine decide_eq_true ?_
  split <;> omega
theorem seqT_of {b : Int} {cs ns : List Int} (hl : ns.length ≤ cs.length) (h : ∀ j, j < ns.length → -b < ns.getD j 0 * b - cs.getD j 0 ∧ ns.getD j 0 * b - cs.getD j 0 < b) : seqT b cs (ns.map PyData.int) = true := by
  unfold seqT
  refine List.all_eq_true.mpr fun j hj => ?_
  have hj' : j < ns.length := by have := List.mem_range.mp hj; rw [List.length_map] at this; exact this
  rw [List.getD_eq_getElem?_getD (l := ns.map PyData.int), get_int hj']
  exact near_rd (h j hj')
theorem getD_map {α : Type} {l : List α} {f : α → Int} {d : α} {i : Nat} (hi : i < l.length) : (l.map f).getD i 0 = f (l.getD i d) := by
  rw [List.getD_eq_getElem?_getD, List.getElem?_map, List.getD_eq_getElem?_getD, List.getElem?_eq_getElem hi]
  rfl
theorem fair_fairD {t N : List (List Int)} {w : Nat} {b : Int} (x : Tab t w) (y : RG.Rect N t.length w) (T : RG.Told t.length w b (RG.gAt t) (RG.gAt N)) : fairD b t w (encT N) = true := by
  show (decide ((N.map encR).length = t.length) && ((t.zip (N.map encR)).all (fun p => rowT b p.1 p.2) && sumT b t ((N.map encR).map rowInts) w)) = true
  have hid : (N.map encR).map rowInts = N := by
    rw [List.map_map]
    exact (List.map_congr_left fun r _ => intOf_map r).trans (List.map_id N)
  rw [hid, List.length_map, decide_eq_true y.tall, Bool.true_and, Bool.and_eq_true]
  constructor
  · refine List.all_eq_true.mpr fun p hp => ?_
    obtain ⟨i, hi, e⟩ := List.mem_iff_getElem.mp hp
    have hit : i < t.length := by rw [List.length_zip] at hi; omega
    have hiN : i < N.length := by rw [y.tall]; exact hit
    rw [List.getElem_zip, List.getElem_map] at e
    have et : t.getD i [] = t[i] := by rw [List.getD_eq_getElem?_getD, List.getElem?_eq_getElem hit]; rfl
    have eN : N.getD i [] = N[i] := by rw [List.getD_eq_getElem?_getD, List.getElem?_eq_getElem hiN]; rfl
    rw [← e, ← et, ← eN]
    show (decide (((N.getD i []).map PyData.int).length = (t.getD i []).length) && seqT b (t.getD i []) ((N.getD i []).map PyData.int)) = true
    have h1 := (y.row hit).1
    have h2 := (x.rect.row hit).1
    rw [List.length_map, decide_eq_true (by rw [h1, h2]), Bool.true_and]
    exact seqT_of (by rw [h1, h2]; exact Nat.le_refl _) fun j hj => T.each i j hit (by rw [h1] at hj; exact hj)
  · unfold sumT
    rw [Bool.and_eq_true, Bool.and_eq_true]
    refine ⟨seqT_of (by rw [List.length_map, List.length_map, y.tall]; exact Nat.le_refl _) fun i hi => ?_, seqT_of (by rw [List.length_map, List.length_map]; exact Nat.le_refl _) fun j hj => ?_, ?_⟩
    · have hi' : i < t.length := by rw [List.length_map, y.tall] at hi; exact hi
      rw [getD_map (d := []) (by rw [y.tall]; exact hi'), getD_map (d := []) hi', row_sumN y hi', row_sumN x.rect hi']
      exact T.row i hi'
    · have hj' : j < w := by rw [List.length_map, List.length_range] at hj; exact hj
      rw [getD_map (d := 0) (by rw [List.length_range]; exact hj'), getD_map (d := 0) (by rw [List.length_range]; exact hj')]
      rw [show (List.range w).getD j 0 = j by rw [List.getD_eq_getElem?_getD, List.getElem?_range hj']; rfl, col_sumN, col_sumN, y.tall]
      exact T.col j hj'
    · have := T.all
      rw [← all_sumN y, ← all_sumN x.rect] at this
      exact seqT_of (cs := [(t.map List.sum).sum]) (ns := [(N.map List.sum).sum]) (Nat.le_refl _) fun j hj => by
        have : j = 0 := by simp at hj; exact hj
        subst this
        exact ‹_ ∧ _›
theorem lay_encT (t : List (List Int)) : PyData.canLay0 (encT t) = true := by
  show PyData.canLay0 (.tuple (t.map encR)) = true
  simp only [PyData.canLay0]
  exact layAll_of fun p hp => by obtain ⟨r, _, rfl⟩ := List.mem_map.mp hp; exact (lay_row r).1
theorem div_neg {S v b : Int} (hb : 0 < b) (h : S * b + v = 0) : v / b = -S := by
  have e : v = -S * b := by rw [Int.neg_mul]; omega
  rw [e, Int.mul_ediv_cancel _ (by omega)]
theorem wide_div {h w : Nat} {b : Int} {G T : Nat → Nat → Int} (hb : 0 < b) (z : RG.Zero (h + 1) (w + 1) G) (hm : ∀ i j, i < h + 1 → j < w + 1 → G i j % b = 0) (hT : ∀ i j, i < h → j < w → T i j = G i j / b) : RG.Wide h w T (fun i j => G i j / b) := by
  have rw_ : ∀ i, i < h + 1 → G i w / b = - RG.sumN (fun j => G i j / b) w := fun i hi => by
    have h1 : RG.sumN (fun j => G i j) w + G i w = 0 := z.rows i hi
    have h2 := RG.sumN_div (b := b) (f := fun j => G i j) (n := w) fun j hj => hm i j hi (by omega)
    exact div_neg hb (by rw [h2]; exact h1)
  have cl : ∀ j, j < w + 1 → G h j / b = - RG.sumN (fun i => G i j / b) h := fun j hj => by
    have h1 : RG.sumN (fun i => G i j) h + G h j = 0 := z.cols j hj
    have h2 := RG.sumN_div (b := b) (f := fun i => G i j) (n := h) fun i hi => hm i j (by omega) hj
    exact div_neg hb (by rw [h2]; exact h1)
  refine ⟨fun i j hi hj => (hT i j hi hj).symm, fun i hi => ?_, fun j hj => ?_, ?_⟩
  · show G i w / b = _
    rw [rw_ i (by omega), RG.sumN_congr fun j hj => hT i j hi hj]
  · show G h j / b = _
    rw [cl j (by omega), RG.sumN_congr fun i hi => hT i j hi hj]
  · show G h w / b = _
    rw [rw_ h (by omega), RG.sumN_congr (f := fun i => RG.sumN (fun j => T i j) w) fun i hi => RG.sumN_congr fun j hj => hT i j hi hj, RG.sumN_swap, RG.sumN_congr (f := fun j => G h j / b) fun j hj => cl j (by omega), RG.sumN_neg]
    omega
theorem wide_one {h w : Nat} {T A B : Nat → Nat → Int} (x : RG.Wide h w T A) (y : RG.Wide h w T B) {i j : Nat} (hi : i < h + 1) (hj : j < w + 1) : A i j = B i j := by
  by_cases h1 : i < h
  · by_cases h2 : j < w
    · rw [x.inner i j h1 h2, y.inner i j h1 h2]
    · have : j = w := by omega
      subst this
      rw [x.row i h1, y.row i h1]
  · have : i = h := by omega
    subst this
    by_cases h2 : j < w
    · rw [x.col j h2, y.col j h2]
    · have : j = w := by omega
      subst this
      rw [x.all, y.all]
def sg (fl : Bool) (v : Int) : Int := if fl then -v else v
theorem where_ok {t : List (List Int)} {w : Nat} {b : Int} {kd : PySem.Str} {a : D} {up : Bool} {r c : Nat} {fl : Bool} (x : Asked t w b kd a up r c fl) :
    RG.Rect (whereL t w b r c (up ^^ fl)) t.length w ∧ RG.Told t.length w b (RG.gAt t) (RG.gAt (whereL t w b r c (up ^^ fl))) ∧
      sg fl (RG.gAt (wideG (whereL t w b r c (up ^^ fl)) w) r c) = if up then -(-(sg fl (RG.gAt (wideG t w) r c)) / b) else sg fl (RG.gAt (wideG t w) r c) / b := by
  obtain ⟨tb, ⟨hb, _⟩, sp⟩ := x
  obtain ⟨hr, hc⟩ := sp.lt
  have S0 := wide_sett tb hb
  obtain ⟨S1, hz, way⟩ := RG.place_ok (up := (up ^^ fl)) hb hr hc (RG.turns (wideG t w)) (wideG t w) S0 (RG.turns_ok S0 (by omega))
  unfold whereL
  generalize hM : RG.placeL b r c (up ^^ fl) (RG.turns (wideG t w)) (wideG t w) = M at S1 hz way
  obtain ⟨yN, hN⟩ := settled_rect hb S1
  have T := settled_told tb hb S1
  refine ⟨yN, T, ?_⟩
  obtain ⟨S2, hs⟩ := RG.all_ok hb S1 t.length (Nat.le_succ _)
  have hl := RG.last_row S2.fit.zero hs
  have hm : ∀ i j, i < t.length + 1 → j < w + 1 → RG.gAt (RG.allL b t.length M) i j % b = 0 := fun i j hi hj => by
    by_cases e : RG.gAt (RG.allL b t.length M) i j % b = 0
    · exact e
    · exact absurd e (hl i j hi hj)
  have W1 := wide_div (T := RG.gAt (settledL M b t.length)) hb S2.fit.zero hm hN
  have yN' : RG.Rect (settledL M b t.length) (settledL M b t.length).length w := by rw [yN.tall]; exact yN
  have W2 := wide_wideR yN'
  rw [yN.tall] at W2
  rw [wide_one W2 W1 hr hc]
  show sg fl (RG.gAt (RG.allL b t.length M) r c / b) = _
  rw [RG.all_keep hb S1 hr hc hz t.length (Nat.le_succ _)]
  have nr := S1.fit.near r c hr hc
  generalize RG.gAt M r c = v at hz way nr
  generalize RG.gAt (wideG t w) r c = v0 at way nr
  cases fl with
  | false =>
    cases up with
    | true =>
      show v / b = -(-v0 / b)
      exact RG.way_up hb nr hz (by simpa using way)
    | false =>
      show v / b = v0 / b
      exact RG.way_down hb nr hz (by simpa using way)
  | true =>
    cases up with
    | true =>
      show -(v / b) = -(- -v0 / b)
      rw [Int.neg_neg, RG.way_down hb nr hz (by simpa using way)]
    | false =>
      show -(v / b) = -v0 / b
      rw [RG.way_up hb nr hz (by simpa using way), Int.neg_neg]
theorem v_Lpart {t : List (List Int)} {h w r c : Nat} {kd : PySem.Str} {a : D} {fl : Bool} (y : RG.Rect t h w) (hh : 1 ≤ h ∧ h ≤ 5) (hw : 1 ≤ w ∧ w ≤ 5) (s : Spot h w kd a r c fl) : F_Lpart [encT t, .str kd, a] = some (.int (sg fl (RG.gAt (wideG t w) r c))) := by
  have xr : Rows t w := ⟨⟨by rw [y.tall]; exact hh.1, by rw [y.tall]; omega⟩, by omega, y.wide⟩
  have y' : RG.Rect t t.length w := by rw [y.tall]; exact y
  have W := wide_wideR y'
  rw [y.tall] at W
  show finish (B_Lpart [some (encT t), some (.str kd), some a, none, none, none]) = _
  unfold B_Lpart
  rw [sSeq_nx (f := sAsg _ _) (δ' := [some (encT t), some (.str kd), some a, some (encR (t.map List.sum)), some (encR ((List.range w).map fun j => colI t j)), some (.int (t.map List.sum).sum)]) (by
    unfold sAsg
    rw [eCall_of (aCons_of rfl rfl) (v_Lsums xr)]
    rfl)]
  rcases s with ⟨rfl, rfl, h1, h2, rfl⟩ | ⟨rfl, rfl, h1, h2, rfl⟩ | ⟨rfl, rfl, h1, h2, rfl⟩ | ⟨rfl, rfl, h1, h2, rfl⟩
  · rw [sSeq_rt (f := sIf _ _ _) (d := .int (RG.gAt t r c)) (by
      rw [sIf_t (is_kd true rfl (by decide))]
      exact sRet_of (ix_tup (l := (t.getD r []).map PyData.int) (i := c) (ix_tup (l := t.map encR) (i := r) rfl (ix_tup (l := [.int (r : Int), .int (c : Int)]) (i := 0) rfl rfl rfl) (get_row (by rw [y.tall]; exact h1))) (ix_tup (l := [.int (r : Int), .int (c : Int)]) (i := 1) rfl rfl rfl) (get_int (by rw [(y.row h1).1]; exact h2))))]
    rw [W.inner r c h1 h2]
    rfl
  · rw [sSeq_nx (f := sIf _ _ _) (δ' := [some (encT t), some (.str (PySem.Str.ofString "row")), some (.int (r : Int)), some (encR (t.map List.sum)), some (encR ((List.range w).map fun j => colI t j)), some (.int (t.map List.sum).sum)]) (by rw [sIf_f (is_kd false rfl (by decide))]; rfl)]
    rw [sRet_of (ix_tup (l := (t.map List.sum).map PyData.int) (i := r) (d := .int ((t.map List.sum).getD r 0)) rfl (ix_lst (l := [.int (r : Int), .int 0]) (i := 0) rfl rfl rfl) (get_int (by rw [List.length_map, y.tall]; exact h1)))]
    subst h2
    rw [getD_map (d := []) (by rw [y.tall]; exact h1), row_sumN y h1, W.row r h1]
    show some (PyData.int _) = some (PyData.int (- - _))
    rw [Int.neg_neg]
  · rw [sSeq_nx (f := sIf _ _ _) (δ' := [some (encT t), some (.str (PySem.Str.ofString "pillar")), some (.int (c : Int)), some (encR (t.map List.sum)), some (encR ((List.range w).map fun j => colI t j)), some (.int (t.map List.sum).sum)]) (by rw [sIf_f (is_kd false rfl (by decide))]; rfl)]
    rw [sRet_of (ix_tup (l := ((List.range w).map fun j => colI t j).map PyData.int) (i := c) (d := .int (((List.range w).map fun j => colI t j).getD c 0)) rfl (ix_lst (l := [.int (c : Int), .int 0]) (i := 0) rfl rfl rfl) (get_int (by rw [List.length_map, List.length_range]; exact h2)))]
    subst h1
    rw [getD_map (d := 0) (by rw [List.length_range]; exact h2), show (List.range w).getD c 0 = c by rw [List.getD_eq_getElem?_getD, List.getElem?_range h2]; rfl, col_sumN, y.tall, W.col c h2]
    show some (PyData.int _) = some (PyData.int (- - _))
    rw [Int.neg_neg]
  · rw [sSeq_nx (f := sIf _ _ _) (δ' := [some (encT t), some (.str (PySem.Str.ofString "whole")), some .none, some (encR (t.map List.sum)), some (encR ((List.range w).map fun j => colI t j)), some (.int (t.map List.sum).sum)]) (by rw [sIf_f (is_kd false rfl (by decide))]; rfl)]
    rw [sRet_of (ix_tup (l := [.int (t.map List.sum).sum]) (i := 0) (d := .int (t.map List.sum).sum) rfl (ix_lst (l := [.none, .int 0]) (i := 1) rfl rfl rfl) rfl)]
    subst h1 h2
    rw [all_sumN y, W.all]
    rfl
theorem modN {m : Int} {n : Nat} (h : 1 ≤ n) : ∃ k : Nat, m % (n : Int) = (k : Int) ∧ k < n := by
  have h1 := Int.emod_nonneg m (show (n : Int) ≠ 0 by omega)
  have h2 := Int.emod_lt_of_pos m (show (0 : Int) < (n : Int) by omega)
  exact ⟨(m % (n : Int)).toNat, by omega, by omega⟩
noncomputable def k21_body : Fs := (sSeq (sSet 9 (eCall F_fair_where (aCons (eVar 1) (aCons (eVar 2) (aCons (eVar 5) (aCons (eVar 6) (aCons (eVar 8) aNil)))))))
    (sSeq (sIf (cNot (cT (eCall F_Lis_fair (aCons (eVar 1) (aCons (eVar 2) (aCons (eVar 9) aNil)))))) (sRet (eC (.bool false))) sNext)
    (sSeq (sSet 10 (eOp oDiv (eVar 7) (eVar 2)))
    (sSeq (sIf (cT (eVar 8)) (sSet 10 (eUn oNeg (eOp oDiv (eUn oNeg (eVar 7)) (eVar 2)))) sNext)
    (sIf (cB (eOp oNe (eCall F_Lpart (aCons (eVar 9) (aCons (eVar 5) (aCons (eVar 6) aNil)))) (eVar 10))) (sRet (eC (.bool false))) sNext)))))
theorem k21_turn {t : List (List Int)} {w : Nat} {b : Int} {kd : PySem.Str} {a : D} {up : Bool} {r c : Nat} {fl : Bool} {x0 x3 x4 a9 a10 : Option D} (x : Asked t w b kd a up r c fl) : ∃ c9 c10,
    k21_body [x0, some (encT t), some (.int b), x3, x4, some (.str kd), some a, some (.int (sg fl (RG.gAt (wideG t w) r c))), some (.bool up), a9, a10] = some (.nx [x0, some (encT t), some (.int b), x3, x4, some (.str kd), some a, some (.int (sg fl (RG.gAt (wideG t w) r c))), some (.bool up), c9, c10]) := by
  obtain ⟨yN, T, hpart⟩ := where_ok x
  have tb := x.tab
  have hb := x.pos
  have htall := tb.tall
  have hwide := tb.wide
  unfold k21_body
  rw [sSeq_nx (sSet_of (eCall_of (aCons_of rfl (aCons_of rfl (aCons_of rfl (aCons_of rfl (aCons_of rfl rfl))))) (v_fair_where x)))]
  generalize whereL t w b r c (up ^^ fl) = N at yN T hpart
  generalize sg fl (RG.gAt (wideG t w) r c) = n at hpart
  show ∃ c9 c10, sSeq _ _ [x0, some (encT t), some (.int b), x3, x4, some (.str kd), some a, some (.int n), some (.bool up), some (encT N), a10] = _
  rw [sSeq_nx (f := sIf _ _ _) (δ' := [x0, some (encT t), some (.int b), x3, x4, some (.str kd), some a, some (.int n), some (.bool up), some (encT N), a10]) (by
    rw [sIf_f (by
      rw [cNot_of (cT_bool (eCall_of (aCons_of rfl (aCons_of rfl (aCons_of rfl rfl))) (v_Lis_fair tb (by omega) (lay_encT N)))), fair_fairD tb yN T]
      rfl)]
    rfl)]
  rw [sSeq_nx (sSet_of (eOp_of rfl rfl (div_of (by omega) (by omega))))]
  show ∃ c9 c10, sSeq _ _ [x0, some (encT t), some (.int b), x3, x4, some (.str kd), some a, some (.int n), some (.bool up), some (encT N), some (.int (n / b))] = _
  rw [sSeq_nx (f := sIf _ _ _) (δ' := [x0, some (encT t), some (.int b), x3, x4, some (.str kd), some a, some (.int n), some (.bool up), some (encT N), some (.int (if up then -(-n / b) else n / b))]) (by
    cases up with
    | true =>
      rw [sIf_t (cT_bool rfl)]
      exact sSet_of (eUn_of (eOp_of (eUn_of rfl (neg_of n)) rfl (div_of (by omega) (by omega))) (neg_of _))
    | false =>
      rw [sIf_f (cT_bool rfl)]
      rfl)]
  have hp := v_Lpart yN htall hwide x.spot
  rw [hpart] at hp
  refine ⟨some (encT N), some (.int (if up then -(-n / b) else n / b)), ?_⟩
  rw [sIf_f (cB_of (eOp_of (eCall_of (aCons_of rfl (aCons_of rfl (aCons_of rfl rfl))) hp) rfl (ne_eq rfl)))]
  rfl
set_option maxHeartbeats 1000000 in
theorem law_k21 (ns : List Int) : F_law [.list (ns.map PyData.int)] = some (.bool true) := by
  show finish (B_law [some (.list (ns.map PyData.int)), none, none, none, none, none, none, none, none, none, none]) = _
  unfold B_law
  rw [sSeq_nx (sSet_of (eCall_of (aCons_of (eCall_of (aCons_of rfl (aCons_of rfl rfl)) (v_Lmixed ns 0 (by decide))) rfl) (v_Ltable _)))]
  generalize hm0 : mixI (ns.getD 0 0) ((0 : Nat) : Int) = m0
  have x := tab_of (h := 100001) (by decide) m0
  generalize wideN m0 = w at x
  generalize tableI 100001 m0 = t at x
  show finish (sSeq _ _ [some (.list (ns.map PyData.int)), some (encT t), none, none, none, none, none, none, none, none, none]) = _
  rw [sSeq_nx (sSet_of (eCall_of (aCons_of (eCall_of (aCons_of rfl (aCons_of rfl rfl)) (v_Lmixed ns 1 (by decide))) rfl) (v_Lbase _)))]
  generalize hm1 : mixI (ns.getD 1 0) ((1 : Nat) : Int) = m1
  have hb := baseI_le m1
  generalize baseI m1 = b at hb
  have htall := x.tall
  have hwide := x.wide
  show finish (sSeq _ _ [some (.list (ns.map PyData.int)), some (encT t), some (.int b), none, none, none, none, none, none, none, none]) = _
  obtain ⟨i, hi, hil⟩ := modN (m := mixI (ns.getD 2 0) ((2 : Nat) : Int)) htall.1
  obtain ⟨j, hj, hjl⟩ := modN (m := mixI (ns.getD 3 0) ((3 : Nat) : Int)) hwide.1
  rw [sSeq_nx (sSet_of (d := .int (i : Int)) (by rw [eOp_of (y := .int (t.length : Int)) (eCall_of (aCons_of rfl (aCons_of rfl rfl)) (v_Lmixed ns 2 (by decide))) (by rw [len_tup (l := t.map encR) rfl, List.length_map]) (mod_of (by omega)), hi]))]
  show finish (sSeq _ _ [some (.list (ns.map PyData.int)), some (encT t), some (.int b), some (.int (i : Int)), none, none, none, none, none, none, none]) = _
  have h0 := (x.rect.row (i := 0) (by omega)).1
  rw [sSeq_nx (sSet_of (d := .int (j : Int)) (by rw [eOp_of (y := .int (w : Int)) (eCall_of (aCons_of rfl (aCons_of rfl rfl)) (v_Lmixed ns 3 (by decide))) (by rw [len_tup (ix_tup (i := 0) rfl rfl (get_row (t := t) (by omega))), List.length_map, h0]) (mod_of (by omega)), hj]))]
  show finish (sSeq _ _ [some (.list (ns.map PyData.int)), some (encT t), some (.int b), some (.int (i : Int)), some (.int (j : Int)), none, none, none, none, none, none]) = _
  generalize hm4 : mixI (ns.getD 4 0) ((4 : Nat) : Int) = m4
  obtain ⟨k, hk, hkl⟩ := modN (m := m4) (n := 4) (by decide)
  have pick : ∃ kd a r c fl, Spot t.length w kd a r c fl ∧ [PyData.str (PySem.Str.ofString "place"), .str (PySem.Str.ofString "row"), .str (PySem.Str.ofString "pillar"), .str (PySem.Str.ofString "whole")][k]? = some (.str kd) ∧
      eDsel [(PySem.Str.ofString "place", (eTup (aCons (eVar 3) (aCons (eVar 4) aNil)))), (PySem.Str.ofString "row", (eVar 3)), (PySem.Str.ofString "pillar", (eVar 4)), (PySem.Str.ofString "whole", (eC .none))] (eVar 5) [some (.list (ns.map PyData.int)), some (encT t), some (.int b), some (.int (i : Int)), some (.int (j : Int)), some (.str kd), none, none, none, none, none] = some a := by
    have : k = 0 ∨ k = 1 ∨ k = 2 ∨ k = 3 := by omega
    rcases this with rfl | rfl | rfl | rfl
    · exact ⟨PySem.Str.ofString "place", .tuple [.int (i : Int), .int (j : Int)], i, j, false, .inl ⟨rfl, rfl, hil, hjl, rfl⟩, rfl, rfl⟩
    · exact ⟨PySem.Str.ofString "row", .int (i : Int), i, w, true, .inr (.inl ⟨rfl, rfl, hil, rfl, rfl⟩), rfl, rfl⟩
    · exact ⟨PySem.Str.ofString "pillar", .int (j : Int), t.length, j, true, .inr (.inr (.inl ⟨rfl, rfl, rfl, hjl, rfl⟩)), rfl, rfl⟩
    · exact ⟨PySem.Str.ofString "whole", .none, t.length, w, false, .inr (.inr (.inr ⟨rfl, rfl, rfl, rfl, rfl⟩)), rfl, rfl⟩
  obtain ⟨kd, a, r, c, fl, sp, e5, e6⟩ := pick
  rw [sSeq_nx (sSet_of (ix_tup (i := k) (eTup_of (aCons_of rfl (aCons_of rfl (aCons_of rfl (aCons_of rfl rfl)))) (by simp)) (by rw [eOp_of (eCall_of (aCons_of rfl (aCons_of rfl rfl)) (v_Lmixed ns 4 (by decide))) rfl (mod_of (by decide)), hm4]; exact congrArg (fun z => some (PyData.int z)) hk) e5))]
  show finish (sSeq _ _ [some (.list (ns.map PyData.int)), some (encT t), some (.int b), some (.int (i : Int)), some (.int (j : Int)), some (.str kd), none, none, none, none, none]) = _
  rw [sSeq_nx (sSet_of e6)]
  show finish (sSeq _ _ [some (.list (ns.map PyData.int)), some (encT t), some (.int b), some (.int (i : Int)), some (.int (j : Int)), some (.str kd), some a, none, none, none, none]) = _
  rw [sSeq_nx (sSet_of (eCall_of (aCons_of rfl (aCons_of rfl (aCons_of rfl rfl))) (v_Lpart x.rect htall hwide sp)))]
  show finish (sSeq (sFor _ _ k21_body) _ [some (.list (ns.map PyData.int)), some (encT t), some (.int b), some (.int (i : Int)), some (.int (j : Int)), some (.str kd), some a, some (.int (sg fl (RG.gAt (wideG t w) r c))), none, none, none]) = _
  obtain ⟨δ', hf, a8, a9, a10, rfl⟩ := forF_all (gf := gN 8) (body := k21_body) (xs := [.bool true, .bool false]) (P := fun δ => ∃ a8 a9 a10, δ = [some (.list (ns.map PyData.int)), some (encT t), some (.int b), some (.int (i : Int)), some (.int (j : Int)), some (.str kd), some a, some (.int (sg fl (RG.gAt (wideG t w) r c))), a8, a9, a10])
    (δ := [some (.list (ns.map PyData.int)), some (encT t), some (.int b), some (.int (i : Int)), some (.int (j : Int)), some (.str kd), some a, some (.int (sg fl (RG.gAt (wideG t w) r c))), none, none, none]) (fun q hq δ hP => by
      obtain ⟨a8, a9, a10, rfl⟩ := hP
      obtain ⟨up, rfl⟩ : ∃ up, q = .bool up := by
        rcases List.mem_cons.mp hq with h | h
        · exact ⟨true, h⟩
        · exact ⟨false, List.mem_singleton.mp h⟩
      obtain ⟨c9, c10, e⟩ := k21_turn (x0 := some (.list (ns.map PyData.int))) (x3 := some (.int (i : Int))) (x4 := some (.int (j : Int))) (a9 := a9) (a10 := a10) (t := t) (w := w) (b := b) (kd := kd) (a := a) (r := r) (c := c) (fl := fl) (up := up) ⟨x, by omega, sp⟩
      exact ⟨_, _, rfl, e, _, c9, c10, rfl⟩) ⟨none, none, none, rfl⟩
  rw [sSeq_nx (f := sFor _ _ _) (by
    unfold sFor
    rw [iSeq_tup (l := [.bool true, .bool false]) (eTup_of (aCons_of rfl (aCons_of rfl rfl)) (by simp)), Option.bind_some]
    exact hf)]
  rfl
end PU
set_option maxHeartbeats 4000000
namespace PU
open PySem PySem.Spec L2
open PyProof.Rows hiding St
variable {P : Program} {w : World} {K : PySem.W.Frag} {mg : Str → Option Value} {base : Heap}
def top (i : Nat) : Stmt := PySem.Challenge.pw_fairround_k21_whole_either_way.main.body.getD i (.Pass ⟨0, 0, 0, 0⟩)
abbrev s_put_down : Stmt := top 1
theorem sc_put_down : FnScope ["count", "base"] ["count", "base"] (defScope s_put_down) := ⟨rfl, rfl, rfl, by decide +kernel, rfl, by decide +kernel, by decide +kernel⟩
theorem fn_put_down {f : Addr} {fd : FuncData} (F : Fun K "put_down" "put_down" s_put_down f fd)  : FnOk P w K mg base CX0 1 f fd ["count", "base"] (spP K 2 F_put_down) := by
  refine fn_plain (k := 0) F sc_put_down (fun cdv A outer s H E hr => ?_)
  exact (puss_one (pus_ret (pu_div (pu_var 0) (pu_var 1))))
theorem ok_put_down {f : Addr} {fd : FuncData} (F : Fun K "put_down" "put_down" s_put_down f fd) (hb : Binds K fd ["count", "base"] []) (hm : mg "put_down" = some (.ref f))  : Df P w K mg base 1 "put_down" ["count", "base"] F_put_down :=
  ⟨f, fd, fn_put_down F , hb, F.kp, hm⟩
abbrev s_row_down : Stmt := top 2
theorem sc_row_down : FnScope ["row", "base"] ["row", "base"] (defScope s_row_down) := ⟨rfl, rfl, rfl, by decide +kernel, rfl, by decide +kernel, by decide +kernel⟩
theorem fn_row_down {f : Addr} {fd : FuncData} (F : Fun K "row_down" "row_down" s_row_down f fd) (m_tuple : mg "tuple" = none) (d_put_down : Df P w K mg base 1 "put_down" ["count", "base"] F_put_down) : FnOk P w K mg base CX0 2 f fd ["row", "base"] (spP K 2 F_row_down) := by
  refine fn_plain (k := 1) F sc_row_down (fun cdv A outer s H E hr => ?_)
  exact (puss_one (pus_ret (pu_callTy cd_tuple rfl m_tuple bb_tuple (pua_cons (pu_lc (N := ["count", "base"]) (sel := [none, some 1]) (XS := ((defScope s_row_down).names)) ⟨rfl, by decide +kernel, by decide +kernel, by decide +kernel, by decide +kernel, rfl, by dsimp only [lcCx, cxOf, Cx.nox]; decide +kernel⟩ rfl rfl (pui_seq (pu_var 0)) (td_name 0) (by decide) (fun _ _ _ _ => (pg_name (i := 0) (by dsimp only [lcCx, cxOf, Cx.nox]; decide +kernel) rfl (by first | exact Or.inl rfl | exact Or.inr rfl))) (fun _ _ _ _ => puif_nil) (fun _ _ _ _ => (pu_callD d_put_down (hr.mono (by decide)) rfl (pua_cons (pu_var 0) (pua_cons (pu_var 1) pua_nil)) (fun _ _ h => aLen (es := [(eVar 0), (eVar 1)]) h)))) pua_nil))))
theorem ok_row_down {f : Addr} {fd : FuncData} (F : Fun K "row_down" "row_down" s_row_down f fd) (hb : Binds K fd ["row", "base"] []) (hm : mg "row_down" = some (.ref f)) (m_tuple : mg "tuple" = none) (d_put_down : Df P w K mg base 1 "put_down" ["count", "base"] F_put_down) : Df P w K mg base 2 "row_down" ["row", "base"] F_row_down :=
  ⟨f, fd, fn_row_down F m_tuple d_put_down, hb, F.kp, hm⟩
abbrev s_down : Stmt := top 3
theorem sc_down : FnScope ["table", "base"] ["table", "base"] (defScope s_down) := ⟨rfl, rfl, rfl, by decide +kernel, rfl, by decide +kernel, by decide +kernel⟩
theorem fn_down {f : Addr} {fd : FuncData} (F : Fun K "down" "down" s_down f fd) (m_tuple : mg "tuple" = none) (d_row_down : Df P w K mg base 2 "row_down" ["row", "base"] F_row_down) : FnOk P w K mg base CX0 3 f fd ["table", "base"] (spP K 2 F_down) := by
  refine fn_plain (k := 2) F sc_down (fun cdv A outer s H E hr => ?_)
  exact (puss_one (pus_ret (pu_callTy cd_tuple rfl m_tuple bb_tuple (pua_cons (pu_lc (N := ["row", "base"]) (sel := [none, some 1]) (XS := ((defScope s_down).names)) ⟨rfl, by decide +kernel, by decide +kernel, by decide +kernel, by decide +kernel, rfl, by dsimp only [lcCx, cxOf, Cx.nox]; decide +kernel⟩ rfl rfl (pui_seq (pu_var 0)) (td_name 0) (by decide) (fun _ _ _ _ => (pg_name (i := 0) (by dsimp only [lcCx, cxOf, Cx.nox]; decide +kernel) rfl (by first | exact Or.inl rfl | exact Or.inr rfl))) (fun _ _ _ _ => puif_nil) (fun _ _ _ _ => (pu_callD d_row_down (hr.mono (by decide)) rfl (pua_cons (pu_var 0) (pua_cons (pu_var 1) pua_nil)) (fun _ _ h => aLen (es := [(eVar 0), (eVar 1)]) h)))) pua_nil))))
theorem ok_down {f : Addr} {fd : FuncData} (F : Fun K "down" "down" s_down f fd) (hb : Binds K fd ["table", "base"] []) (hm : mg "down" = some (.ref f)) (m_tuple : mg "tuple" = none) (d_row_down : Df P w K mg base 2 "row_down" ["row", "base"] F_row_down) : Df P w K mg base 3 "down" ["table", "base"] F_down :=
  ⟨f, fd, fn_down F m_tuple d_row_down, hb, F.kp, hm⟩
abbrev s_pillar_sum : Stmt := top 4
theorem sc_pillar_sum : FnScope ["table", "place"] ["table", "place"] (defScope s_pillar_sum) := ⟨rfl, rfl, rfl, by decide +kernel, rfl, by decide +kernel, by decide +kernel⟩
theorem fn_pillar_sum {f : Addr} {fd : FuncData} (F : Fun K "pillar_sum" "pillar_sum" s_pillar_sum f fd) (m_sum : mg "sum" = none) : FnOk P w K mg base CX0 1 f fd ["table", "place"] (spP K 2 F_pillar_sum) := by
  refine fn_plain (k := 0) F sc_pillar_sum (fun cdv A outer s H E hr => ?_)
  exact (puss_one (pus_ret (pu_callB (cd_sum rfl) rfl m_sum bb_sum (pua_cons (pu_lc (N := ["row", "place"]) (sel := [none, some 1]) (XS := ((defScope s_pillar_sum).names)) ⟨rfl, by decide +kernel, by decide +kernel, by decide +kernel, by decide +kernel, rfl, by dsimp only [lcCx, cxOf, Cx.nox]; decide +kernel⟩ rfl rfl (pui_seq (pu_var 0)) (td_name 0) (by decide) (fun _ _ _ _ => (pg_name (i := 0) (by dsimp only [lcCx, cxOf, Cx.nox]; decide +kernel) rfl (by first | exact Or.inl rfl | exact Or.inr rfl))) (fun _ _ _ _ => puif_nil) (fun _ _ _ _ => (pu_ix (pu_var 0) (pu_var 1)))) pua_nil))))
theorem ok_pillar_sum {f : Addr} {fd : FuncData} (F : Fun K "pillar_sum" "pillar_sum" s_pillar_sum f fd) (hb : Binds K fd ["table", "place"] []) (hm : mg "pillar_sum" = some (.ref f)) (m_sum : mg "sum" = none) : Df P w K mg base 1 "pillar_sum" ["table", "place"] F_pillar_sum :=
  ⟨f, fd, fn_pillar_sum F m_sum, hb, F.kp, hm⟩
abbrev s_sums : Stmt := top 5
theorem sc_sums : FnScope ["table", "width", "row_sums", "pillar_sums"] ["table"] (defScope s_sums) := ⟨rfl, rfl, rfl, by decide +kernel, rfl, by decide +kernel, by decide +kernel⟩
theorem fn_sums {f : Addr} {fd : FuncData} (F : Fun K "sums" "sums" s_sums f fd) (m_len : mg "len" = none) (m_range : mg "range" = none) (m_sum : mg "sum" = none) (m_tuple : mg "tuple" = none) (d_pillar_sum : Df P w K mg base 1 "pillar_sum" ["table", "place"] F_pillar_sum) : FnOk P w K mg base CX0 2 f fd ["table"] (spP K 1 F_sums) := by
  refine fn_plain (k := 1) F sc_sums (fun cdv A outer s H E hr => ?_)
  exact (puss_cons (pus_set (i := 1) sc_sums.nd (pu_if (put_val (pu_var 0)) (pu_callB cd_len rfl m_len bb_len (pua_cons (pu_ix (pu_var 0) pu_int) pua_nil)) pu_int))
    (puss_cons (pus_set (i := 2) sc_sums.nd (pu_callTy cd_tuple rfl m_tuple bb_tuple (pua_cons (pu_lc (N := ["row"]) (sel := [none]) (XS := ((defScope s_sums).names)) ⟨rfl, by decide +kernel, by decide +kernel, by decide +kernel, by decide +kernel, rfl, by dsimp only [lcCx, cxOf, Cx.nox]; decide +kernel⟩ rfl rfl (pui_seq (pu_var 0)) (td_name 0) (by decide) (fun _ _ _ _ => (pg_name (i := 0) (by dsimp only [lcCx, cxOf, Cx.nox]; decide +kernel) rfl (by first | exact Or.inl rfl | exact Or.inr rfl))) (fun _ _ _ _ => puif_nil) (fun _ _ _ _ => (pu_callB (cd_sum rfl) rfl m_sum bb_sum (pua_cons (pu_var 0) pua_nil)))) pua_nil)))
    (puss_cons (pus_set (i := 3) sc_sums.nd (pu_callTy cd_tuple rfl m_tuple bb_tuple (pua_cons (pu_lc (N := ["place", "table"]) (sel := [none, some 0]) (XS := ((defScope s_sums).names)) ⟨rfl, by decide +kernel, by decide +kernel, by decide +kernel, by decide +kernel, rfl, by dsimp only [lcCx, cxOf, Cx.nox]; decide +kernel⟩ rfl rfl (pui_rng1 rfl m_range (pua_cons (pu_var 1) pua_nil)) (td_name 0) (by decide) (fun _ _ _ _ => (pg_name (i := 0) (by dsimp only [lcCx, cxOf, Cx.nox]; decide +kernel) rfl (by first | exact Or.inl rfl | exact Or.inr rfl))) (fun _ _ _ _ => puif_nil) (fun _ _ _ _ => (pu_callD d_pillar_sum (hr.mono (by decide)) rfl (pua_cons (pu_var 1) (pua_cons (pu_var 0) pua_nil)) (fun _ _ h => aLen (es := [(eVar 1), (eVar 0)]) h)))) pua_nil)))
    (puss_one (pus_ret (pu_tup (pua_cons (pu_var 2) (pua_cons (pu_var 3) (pua_cons (pu_callB (cd_sum rfl) rfl m_sum bb_sum (pua_cons (pu_var 2) pua_nil)) pua_nil)))))))))
theorem ok_sums {f : Addr} {fd : FuncData} (F : Fun K "sums" "sums" s_sums f fd) (hb : Binds K fd ["table"] []) (hm : mg "sums" = some (.ref f)) (m_len : mg "len" = none) (m_range : mg "range" = none) (m_sum : mg "sum" = none) (m_tuple : mg "tuple" = none) (d_pillar_sum : Df P w K mg base 1 "pillar_sum" ["table", "place"] F_pillar_sum) : Df P w K mg base 2 "sums" ["table"] F_sums :=
  ⟨f, fd, fn_sums F m_len m_range m_sum m_tuple d_pillar_sum, hb, F.kp, hm⟩
abbrev s_widened : Stmt := top 7
theorem sc_widened : FnScope ["table", "totals", "grid"] ["table"] (defScope s_widened) := ⟨rfl, rfl, rfl, by decide +kernel, rfl, by decide +kernel, by decide +kernel⟩
def spW (K : PySem.W.Frag) : Sp := fun vs H Q _ => ∃ t w vt, vs = [vt] ∧ Tab t w ∧ Rep K H (encT t) vt ∧ ∀ g rs H', Same H H' → (∀ a ∈ g :: rs, H a = none) → GridAt H' g rs (wideG t w) → Q (.ref g) H'
theorem fn_widened {f : Addr} {fd : FuncData} (F : Fun K "widened" "widened" s_widened f fd) (m_list : mg "list" = none) (m_zip : mg "zip" = none) (d_sums : Df P w K mg base 2 "sums" ["table"] F_sums) : FnOk P w K mg base CX0 3 f fd ["table"] (spW K) := by
  refine F.ok (k := 2) sc_widened (fun vs H Q E h => by obtain ⟨t, wd, vt, rfl, _⟩ := h; rfl) (fun cdv A outer s H vs Q E hr h => ?_)
  obtain ⟨t, wd, vt, rfl, x, rt, q⟩ := h
  refine ⟨_, PssW.un (pssw_cons (psw_set (i := 1) sc_widened.nd (pu_callD d_sums (hr.mono (by decide)) rfl (pua_cons (pu_var 0) pua_nil) (fun _ _ h => aLen (es := [(eVar 0)]) h)))
    (pssw_cons (psw_setLc (i := 2) (N := ["row", "total"]) (sel := [none, none]) (XS := ((defScope s_widened).names)) ⟨rfl, by decide +kernel, by decide +kernel, by decide +kernel, by decide +kernel, rfl, by dsimp only [lcCx, cxOf, Cx.nox]; decide +kernel⟩ rfl rfl sc_widened.nd (pui_zip rfl m_zip rfl (pu_var 0) (pu_ix (pu_var 1) pu_int)) (td_pair 0 1) (fun _ _ _ _ => (pg_tup rfl (pgs_cons (pg_name (i := 0) (by dsimp only [lcCx, cxOf, Cx.nox]; decide +kernel) rfl (by first | exact Or.inl rfl | exact Or.inr rfl)) (pgs_cons (pg_name (i := 1) (by dsimp only [lcCx, cxOf, Cx.nox]; decide +kernel) rfl (by first | exact Or.inl rfl | exact Or.inr rfl)) pgs_nil)))) (fun _ _ _ _ => pucat (pu_callTy cd_list rfl m_list bb_list (pua_cons (pu_var 0) pua_nil)) (pu_lst (pua_cons (pu_neg (pu_var 1)) pua_nil))))
    (pssw_one (psw_ret (pew_cat (pew_v 2) (pew_lst1 (pew_catL (pu_lc (N := ["total"]) (sel := [none]) (XS := ((defScope s_widened).names)) ⟨rfl, by decide +kernel, by decide +kernel, by decide +kernel, by decide +kernel, rfl, by dsimp only [lcCx, cxOf, Cx.nox]; decide +kernel⟩ rfl rfl (pui_seq (pu_ix (pu_var 1) pu_int)) (td_name 0) (by decide) (fun _ _ _ _ => (pg_name (i := 0) (by dsimp only [lcCx, cxOf, Cx.nox]; decide +kernel) rfl (by first | exact Or.inl rfl | exact Or.inr rfl))) (fun _ _ _ _ => puif_nil) (fun _ _ _ _ => (pu_neg (pu_var 0)))) (pu_lst (pua_cons (pu_ix (pu_var 1) pu_int) pua_nil))))))))), ?_⟩
  have xr := x.toRows
  have htall := x.tall
  have hwide := x.wide
  refine ⟨_, _, RepSt.c1 rt (RepSt.c0 (RepSt.c0 RepSt.e0)), eCall_of (aCons_of rfl rfl) (v_sums xr), fun v1 H1 s1 r1 => ?_⟩
  have rt1 := rt.mono s1
  have hz : iZip (eVar 0) (eOp oIx (eVar 1) (eC (.int 0))) [some (encT t), some (sumsD t wd), none] = some ((t.zip (t.map List.sum)).map fun p => PyData.tuple [encR p.1, .int p.2]) := by
    rw [iZip_of (x := encT t) (l := t.map encR) rfl rfl (ix_tup (i := 0) rfl rfl rfl) rfl, zip_map]
  have hzip : t.zip (t.map List.sum) = t.map fun r => (r, r.sum) := by
    refine List.ext_getElem (by rw [List.length_zip, List.length_map, List.length_map]; omega) fun i h1 h2 => ?_
    rw [List.getElem_zip, List.getElem_map, List.getElem_map]
  rw [hzip, List.map_map] at hz
  refine ⟨_, _, RepSt.c1 rt1 (RepSt.c1 r1 (RepSt.c0 RepSt.e0)), hz, fun J H2 s2 hJ => ?_⟩
  have hdl : (t.map ((fun p : List Int × Int => PyData.tuple [encR p.1, .int p.2]) ∘ fun r => (r, r.sum))).length = t.length := by rw [List.length_map]
  have hsl : (5 : Nat) < sizeLine := by decide
  refine ⟨fun i m ys H3 => m = t.length - i ∧ i ≤ t.length ∧ ∃ rs : List Addr, ys = rs.map V.ref ∧ rs.length = i ∧ rs.Nodup ∧ (∀ a ∈ rs, H2 a = none) ∧ Same H2 H3 ∧ ∀ (j : Nat) (r : Addr) (m : List Int), rs[j]? = some r → t[j]? = some m → H3 r = some (.lst ((m ++ [-m.sum]).map V.int)),
    ⟨t.length, rfl, Nat.zero_le _, [], rfl, rfl, List.nodup_nil, (fun a ha => nomatch ha), Same.refl _, fun j r m h1 _ => by simp at h1⟩, ?_⟩
  rintro i m ys H3 ⟨rfl, hi, rs, rfl, hrl, hnd, hfr, s3, hrows⟩
  by_cases hlt : i < t.length
  · refine .inr ⟨hJ.go i H3 s3 (by rw [hdl]; exact hlt), by rw [List.length_map, hrl]; omega, fun v H4 hy => ?_⟩
    obtain ⟨s4, dx, ex, rx⟩ := hJ.yld i H3 v H4 s3 hy (by rw [hdl]; exact hlt)
    rw [List.getElem?_map, List.getElem?_eq_getElem hlt] at ex
    cases ex
    obtain ⟨pa, pxs, rfl, psq, prs⟩ := rep_tup rx
    obtain ⟨va, vb, rfl, ra, rb⟩ := reps2 prs
    have zb := rep_int rb
    subst zb
    refine ⟨pa, _, rfl, psq, rfl, va, _, rfl, .int (t[i].sum), _, rfl, rfl, ⟨rfl, fun j w hj => ?_⟩, ?_⟩
    · have : (selSt [none, none] [some vt, some v1, none])[j]? = some (some w) := hj
      match j, this with
      | 0, h => cases h
      | 1, h => cases h
      | (k + 2), h => cases h
    · show (if true = true then _ else _)
      rw [if_pos rfl]
      have rst : RepSt K H4 [some (encR t[i]), some (.int t[i].sum)] [some va, some (.int t[i].sum)] := RepSt.c1 ra (RepSt.c1 (Rep.ofInt _) RepSt.e0)
      refine ⟨_, .list (t[i].map PyData.int), rst, eCall_of (aCons_of rfl rfl) rfl, fun u1 H5 s5 r5 => ?_⟩
      refine ⟨_, .list [.int (-t[i].sum)], rst.mono s5, rfl, fun u2 H6 s6 r6 => ?_⟩
      obtain ⟨a5, xs5, rfl, sq5, rs5⟩ := rep_lst r5
      obtain ⟨a6, xs6, rfl, sq6, rs6⟩ := rep_lst r6
      have z5 := reps_ints rs5
      have z6 := reps_ints (ns := [-t[i].sum]) rs6
      subst z5 z6
      have hrw := x.rows t[i] (List.getElem_mem hlt)
      refine ⟨a5, a6, _, _, rfl, rfl, s6.seq sq5, sq6, by rw [List.length_map, List.length_map, hrw, List.length_singleton]; omega, fun p hp => ⟨t.length - (i + 1), by omega, rfl, hlt, rs ++ [p], by rw [List.map_append]; rfl, by rw [List.length_append, hrl, List.length_singleton], ?_, ?_, ?_, ?_⟩⟩
      · rw [List.nodup_append]
        refine ⟨hnd, (List.nodup_cons.mpr ⟨by simp, List.nodup_nil⟩), fun a ha c hc => ?_⟩
        rw [List.mem_singleton.mp hc]
        intro z
        obtain ⟨j, hj, ej⟩ := List.mem_iff_getElem.mp ha
        have hjt : j < t.length := by omega
        have := (s4.trans (s5.trans s6)) _ _ (hrows j _ _ (List.getElem?_eq_getElem hj) (List.getElem?_eq_getElem hjt))
        rw [ej, z, hp] at this
        cases this
      · intro a ha
        rcases List.mem_append.mp ha with h9 | h9
        · exact hfr a h9
        · rw [List.mem_singleton.mp h9]
          exact ((s3.trans s4).trans (s5.trans s6)).free hp
      · exact ((s3.trans s4).trans (s5.trans s6)).trans (same_upd hp _)
      · intro j r m h1 h2
        by_cases hj : j < rs.length
        · rw [List.getElem?_append_left hj] at h1
          exact (same_upd hp _) _ _ ((s4.trans (s5.trans s6)) _ _ (hrows j r m h1 h2))
        · have hji : j = i := by
            have := (List.getElem?_eq_some_iff.mp h1).1
            rw [List.length_append, List.length_singleton] at this
            omega
          subst hji
          rw [List.getElem?_append_right (by omega), hrl, Nat.sub_self] at h1
          cases h1
          rw [List.getElem?_eq_getElem hlt] at h2
          cases h2
          rw [upd_same, List.map_append]
  · have hie : i = t.length := by omega
    subst hie
    refine .inl ⟨by have := hJ.stop H3 s3; rw [hdl] at this; exact this, fun gl hgl => ?_⟩
    have s13 : Same H1 (upd H3 gl (.lst (rs.map V.ref))) := (s2.trans s3).trans (same_upd hgl _)
    refine ⟨.ref gl, rfl, ?_⟩
    have e5 : eLc (iSeq (eOp oIx (eVar 1) (eC (.int 1)))) [none] (gN 0) cTrue (eUn oNeg (eVar 0)) [none, some (sumsD t wd), none] = some (.list (((List.range wd).map fun j => -(colI t j)).map PyData.int)) := by
      rw [eLc_map (xs := (List.range wd).map fun j => colI t j) (e := PyData.int) (g := fun c => PyData.int (-c)) (iSeq_tup (ix_tup (i := 1) rfl rfl rfl)) (by rw [List.length_map, List.length_range]; omega) fun c _ => ⟨[some (.int c)], rfl, rfl, eUn_of rfl (neg_of c)⟩]
      rw [List.map_map, List.map_map]
      rfl
    refine ⟨_, _, RepSt.c0 (RepSt.c1 (r1.mono s13) (RepSt.c0 RepSt.e0)), e5, fun u5 H5 s5 r5 => ?_⟩
    refine ⟨[none, some (sumsD t wd), none], .list [.int (t.map List.sum).sum], RepSt.c0 (RepSt.c1 (r1.mono (s13.trans s5)) (RepSt.c0 RepSt.e0)), ?_, fun u6 H6 s6 r6 => ?_⟩
    · exact eLst_of (aCons_of (ix_tup (i := 2) rfl rfl rfl) rfl) (by simp)
    obtain ⟨a5, xs5, rfl, sq5, rs5⟩ := rep_lst r5
    obtain ⟨a6, xs6, rfl, sq6, rs6⟩ := rep_lst r6
    have z5 := reps_ints rs5
    have z6 := reps_ints (ns := [(t.map List.sum).sum]) rs6
    subst z5 z6
    refine ⟨a5, a6, _, _, rfl, rfl, s6.seq sq5, sq6, by rw [List.length_map, List.length_map, List.length_map, List.length_range, List.length_singleton]; omega, fun p hp => ?_⟩
    refine ⟨by show 1 ≤ sizeLine; omega, fun p2 hp2 => ?_⟩
    have s56 := s5.trans s6
    have tail_ : Same (upd H3 gl (.lst (rs.map V.ref))) (upd (upd H6 p (.lst (((List.range wd).map fun j => -(colI t j)).map V.int ++ [(t.map List.sum).sum].map V.int))) p2 (.lst [.ref p])) := (s56.trans (same_upd hp _)).trans (same_upd hp2 _)
    refine ⟨gl, p2, rs.map V.ref, [.ref p], rfl, rfl, SqL.of (tail_ _ _ upd_same), SqL.of upd_same, by rw [List.length_map, hrl]; show t.length + 1 ≤ sizeLine; omega, fun g hg => ?_⟩
    have hfree : ∀ {H7 H8 : Hp} {c : Addr}, Same H7 H8 → H8 c = none → H7 c = none := fun s h => s.free h
    have sAll : Same H3 (upd H6 p (.lst (((List.range wd).map fun j => -(colI t j)).map V.int ++ [(t.map List.sum).sum].map V.int))) := ((same_upd hgl _).trans s56).trans (same_upd hp _)
    have hp3 : H3 p = none := ((same_upd hgl _).trans s56).free hp
    have hg3 : H3 g = none := (sAll.trans (same_upd hp2 _)).free hg
    have hgp : g ≠ p := fun z => by rw [z, upd_ne (fun y => by rw [y] at hp2; rw [upd_same] at hp2; cases hp2), upd_same] at hg; cases hg
    have hpr : p ∉ rs := fun z => by
      obtain ⟨j, hj, ej⟩ := List.mem_iff_getElem.mp z
      have := hrows j _ _ (List.getElem?_eq_getElem hj) (List.getElem?_eq_getElem (by omega))
      rw [ej, hp3] at this; cases this
    have hgr : g ∉ rs := fun z => by
      obtain ⟨j, hj, ej⟩ := List.mem_iff_getElem.mp z
      have := hrows j _ _ (List.getElem?_eq_getElem hj) (List.getElem?_eq_getElem (by omega))
      rw [ej, hg3] at this; cases this
    have s02 : Same H H2 := s1.trans s2
    refine q g (rs ++ [p]) _ (((s02.trans s3).trans ((sAll.trans (same_upd hp2 _)).trans (same_upd hg _)))) (fun a ha => ?_) ⟨?_, ?_, ?_, ?_⟩
    · rcases List.mem_cons.mp ha with e | ha
      · rw [e]; exact (s02.trans s3).free hg3
      · rcases List.mem_append.mp ha with h9 | h9
        · exact s02.free (hfr a h9)
        · rw [List.mem_singleton.mp h9]; exact (s02.trans s3).free hp3
    · rw [upd_same, List.map_append]; rfl
    · rw [List.length_append, hrl, List.length_singleton]
      exact (wide_rect x).tall.symm
    · intro j r m h1 h2
      refine (same_upd hg _) _ _ ((same_upd hp2 _) _ _ ?_)
      unfold wideG at h2
      by_cases hj : j < rs.length
      · rw [List.getElem?_append_left hj] at h1
        rw [List.getElem?_append_left (by rw [List.length_map]; omega), List.getElem?_map, List.getElem?_eq_getElem (show j < t.length by omega)] at h2
        cases h2
        exact sAll _ _ (hrows j r _ h1 (List.getElem?_eq_getElem (by omega)))
      · have hjl : j = rs.length := by
          have := (List.getElem?_eq_some_iff.mp h1).1
          rw [List.length_append, List.length_singleton] at this
          omega
        subst hjl
        rw [List.getElem?_append_right (Nat.le_refl _), Nat.sub_self] at h1
        cases h1
        rw [hrl, List.getElem?_append_right (by rw [List.length_map]; exact Nat.le_refl _), List.length_map, Nat.sub_self] at h2
        cases h2
        rw [upd_same, ← List.map_append]
    · refine List.nodup_cons.mpr ⟨fun z => ?_, List.nodup_append.mpr ⟨hnd, (List.nodup_cons.mpr ⟨by simp, List.nodup_nil⟩), fun a ha c hc => ?_⟩⟩
      · rcases List.mem_append.mp z with h9 | h9
        · exact hgr h9
        · exact hgp (List.mem_singleton.mp h9)
      · rw [List.mem_singleton.mp hc]
        exact fun y => hpr (by rw [← y]; exact ha)
theorem ok_widened {f : Addr} {fd : FuncData} (F : Fun K "widened" "widened" s_widened f fd) (hb : Binds K fd ["table"] []) (hm : mg "widened" = some (.ref f)) (m_list : mg "list" = none) (m_zip : mg "zip" = none) (d_sums : Df P w K mg base 2 "sums" ["table"] F_sums) : DfS P w K mg base 3 "widened" ["table"] (spW K) :=
  ⟨f, fd, fn_widened F m_list m_zip d_sums, hb, F.kp, hm⟩
abbrev s_crossing_lines : Stmt := top 8
theorem sc_crossing_lines : FnScope ["grid", "base", "line", "height"] ["grid", "base", "line"] (defScope s_crossing_lines) := ⟨rfl, rfl, rfl, by decide +kernel, rfl, by decide +kernel, by decide +kernel⟩
theorem fn_crossing_lines {f : Addr} {fd : FuncData} (F : Fun K "crossing_lines" "crossing_lines" s_crossing_lines f fd) (m_enumerate : mg "enumerate" = none) (m_len : mg "len" = none) : FnOk P w K mg base CX0 1 f fd ["grid", "base", "line"] (spP K 3 F_crossing_lines) := by
  refine fn_plain (k := 0) F sc_crossing_lines (fun cdv A outer s H E hr => ?_)
  exact (puss_cons (pus_set (i := 3) sc_crossing_lines.nd (pu_callB cd_len rfl m_len bb_len (pua_cons (pu_var 0) pua_nil)))
    (puss_cons (pus_if (put_cmp cd_lt (pu_var 2) (pu_var 3) (nomark _)) (puss_one (pus_ret (pu_lc (N := ["number", "count", "height", "base"]) (sel := [none, none, some 3, some 1]) (XS := ((defScope s_crossing_lines).names)) ⟨rfl, by decide +kernel, by decide +kernel, by decide +kernel, by decide +kernel, rfl, by dsimp only [lcCx, cxOf, Cx.nox]; decide +kernel⟩ rfl rfl (pui_enum rfl m_enumerate rfl (pu_ix (pu_var 0) (pu_var 2))) (td_pair 0 1) (by decide) (fun _ _ _ _ => (pg_tup rfl (pgs_cons (pg_name (i := 0) (by dsimp only [lcCx, cxOf, Cx.nox]; decide +kernel) rfl (by first | exact Or.inl rfl | exact Or.inr rfl)) (pgs_cons (pg_name (i := 1) (by dsimp only [lcCx, cxOf, Cx.nox]; decide +kernel) rfl (by first | exact Or.inl rfl | exact Or.inr rfl)) pgs_nil)))) (fun _ _ _ _ => (puif_one (put_cmp (cd_ne hr.units) (pu_mod (pu_var 1) (pu_var 3)) pu_int (nomark _)))) (fun _ _ _ _ => (pu_add (pu_var 2) (pu_var 0)))))) puss_nil)
    (puss_one (pus_ret (pu_lc (N := ["number", "row", "line", "height", "base"]) (sel := [none, none, some 2, some 3, some 1]) (XS := ((defScope s_crossing_lines).names)) ⟨rfl, by decide +kernel, by decide +kernel, by decide +kernel, by decide +kernel, rfl, by dsimp only [lcCx, cxOf, Cx.nox]; decide +kernel⟩ rfl rfl (pui_enum rfl m_enumerate rfl (pu_var 0)) (td_pair 0 1) (by decide) (fun _ _ _ _ => (pg_tup rfl (pgs_cons (pg_name (i := 0) (by dsimp only [lcCx, cxOf, Cx.nox]; decide +kernel) rfl (by first | exact Or.inl rfl | exact Or.inr rfl)) (pgs_cons (pg_name (i := 1) (by dsimp only [lcCx, cxOf, Cx.nox]; decide +kernel) rfl (by first | exact Or.inl rfl | exact Or.inr rfl)) pgs_nil)))) (fun _ _ _ _ => (puif_one (put_cmp (cd_ne hr.units) (pu_mod (pu_ix (pu_var 1) (pu_sub (pu_var 2) (pu_var 3))) (pu_var 4)) pu_int (nomark _)))) (fun _ _ _ _ => (pu_var 0)))))))
theorem ok_crossing_lines {f : Addr} {fd : FuncData} (F : Fun K "crossing_lines" "crossing_lines" s_crossing_lines f fd) (hb : Binds K fd ["grid", "base", "line"] []) (hm : mg "crossing_lines" = some (.ref f)) (m_enumerate : mg "enumerate" = none) (m_len : mg "len" = none) : Df P w K mg base 1 "crossing_lines" ["grid", "base", "line"] F_crossing_lines :=
  ⟨f, fd, fn_crossing_lines F m_enumerate m_len, hb, F.kp, hm⟩
abbrev s_ring_from : Stmt := top 9
theorem sc_ring_from : FnScope ["grid", "base", "start", "path", "ahead"] ["grid", "base", "start"] (defScope s_ring_from) := ⟨rfl, rfl, rfl, by decide +kernel, rfl, by decide +kernel, by decide +kernel⟩
theorem fn_ring_from {f : Addr} {fd : FuncData} (F : Fun K "ring_from" "ring_from" s_ring_from f fd) (d_crossing_lines : Df P w K mg base 1 "crossing_lines" ["grid", "base", "line"] F_crossing_lines) : FnOk P w K mg base CX0 2 f fd ["grid", "base", "start"] (spP K 3 F_ring_from) := by
  refine fn_plain (k := 1) F sc_ring_from (fun cdv A outer s H E hr => ?_)
  exact (puss_openC (o := 3) sc_ring_from.nd (pua_cons (pu_var 2) pua_nil) (oss_cons (os_lift (pus_set (i := 4) sc_ring_from.nd (pu_ix (pu_callD d_crossing_lines (hr.mono (by decide)) rfl (pua_cons (pu_var 0) (pua_cons (pu_var 1) (pua_cons (pu_var 2) pua_nil))) (fun _ _ h => aLen (es := [(eVar 0), (eVar 1), (eVar 2)]) h)) pu_int)) (leaves_set (by decide)))
    (oss_cons (os_while 100 PassesOwn.never (put_cmp cd_nin (pu_var 4) (pu_var 3) (by with_unfolding_all rfl)) (oss_cons (os_app (o := 3) (pu_var 4))
    (oss_one (os_setV (o := 3) (i := 4) sc_ring_from.nd (pu_ix (pu_lc (N := ["line", "path"]) (sel := [none, some 3]) (XS := ((defScope s_ring_from).names)) ⟨rfl, by decide +kernel, by decide +kernel, by decide +kernel, by decide +kernel, rfl, by dsimp only [lcCx, cxOf, Cx.nox]; decide +kernel⟩ rfl rfl (pui_seq (pu_callD d_crossing_lines (hr.mono (by decide)) rfl (pua_cons (pu_var 0) (pua_cons (pu_var 1) (pua_cons (pu_var 4) pua_nil))) (fun _ _ h => aLen (es := [(eVar 0), (eVar 1), (eVar 4)]) h))) (td_name 0) (by decide) (fun _ _ _ _ => (pg_name (i := 0) (by dsimp only [lcCx, cxOf, Cx.nox]; decide +kernel) rfl (by first | exact Or.inl rfl | exact Or.inr rfl))) (fun _ _ _ _ => (puif_one (put_cmp (cd_ne hr.units) (pu_var 0) (pu_ix (pu_var 1) (pu_neg pu_int)) (nomark _)))) (fun _ _ _ _ => (pu_var 0))) pu_int) (by decide)))))
    (oss_close (puss_one (pus_ret (pu_slice (pu_var 3) (puo_some (pu_index (pu_var 3) (pu_var 4))) puo_none)))))))
theorem ok_ring_from {f : Addr} {fd : FuncData} (F : Fun K "ring_from" "ring_from" s_ring_from f fd) (hb : Binds K fd ["grid", "base", "start"] []) (hm : mg "ring_from" = some (.ref f)) (d_crossing_lines : Df P w K mg base 1 "crossing_lines" ["grid", "base", "line"] F_crossing_lines) : Df P w K mg base 2 "ring_from" ["grid", "base", "start"] F_ring_from :=
  ⟨f, fd, fn_ring_from F d_crossing_lines, hb, F.kp, hm⟩
abbrev s_crossing_place : Stmt := top 10
theorem sc_crossing_place : FnScope ["height", "line", "other"] ["height", "line", "other"] (defScope s_crossing_place) := ⟨rfl, rfl, rfl, by decide +kernel, rfl, by decide +kernel, by decide +kernel⟩
theorem fn_crossing_place {f : Addr} {fd : FuncData} (F : Fun K "crossing_place" "crossing_place" s_crossing_place f fd) (m_max : mg "max" = none) (m_min : mg "min" = none) : FnOk P w K mg base CX0 1 f fd ["height", "line", "other"] (spP K 3 F_crossing_place) := by
  refine fn_plain (k := 0) F sc_crossing_place (fun cdv A outer s H E hr => ?_)
  exact (puss_one (pus_ret (pu_tup (pua_cons (pu_callB (cd_min rfl) rfl m_min bb_min (pua_cons (pu_var 1) (pua_cons (pu_var 2) pua_nil))) (pua_cons (pu_sub (pu_callB (cd_max rfl) rfl m_max bb_max (pua_cons (pu_var 1) (pua_cons (pu_var 2) pua_nil))) (pu_var 0)) pua_nil)))))
theorem ok_crossing_place {f : Addr} {fd : FuncData} (F : Fun K "crossing_place" "crossing_place" s_crossing_place f fd) (hb : Binds K fd ["height", "line", "other"] []) (hm : mg "crossing_place" = some (.ref f)) (m_max : mg "max" = none) (m_min : mg "min" = none) : Df P w K mg base 1 "crossing_place" ["height", "line", "other"] F_crossing_place :=
  ⟨f, fd, fn_crossing_place F m_max m_min, hb, F.kp, hm⟩
abbrev s_places_round : Stmt := top 11
theorem sc_places_round : FnScope ["ring", "height"] ["ring", "height"] (defScope s_places_round) := ⟨rfl, rfl, rfl, by decide +kernel, rfl, by decide +kernel, by decide +kernel⟩
theorem fn_places_round {f : Addr} {fd : FuncData} (F : Fun K "places_round" "places_round" s_places_round f fd) (m_zip : mg "zip" = none) (d_crossing_place : Df P w K mg base 1 "crossing_place" ["height", "line", "other"] F_crossing_place) : FnOk P w K mg base CX0 2 f fd ["ring", "height"] (spP K 2 F_places_round) := by
  refine fn_plain (k := 1) F sc_places_round (fun cdv A outer s H E hr => ?_)
  exact (puss_one (pus_ret (pu_lc (N := ["line", "other", "height"]) (sel := [none, none, some 1]) (XS := ((defScope s_places_round).names)) ⟨rfl, by decide +kernel, by decide +kernel, by decide +kernel, by decide +kernel, rfl, by dsimp only [lcCx, cxOf, Cx.nox]; decide +kernel⟩ rfl rfl (pui_zip rfl m_zip rfl (pu_var 0) (pu_add (pu_slice (pu_var 0) (puo_some pu_int) puo_none) (pu_slice (pu_var 0) puo_none (puo_some pu_int)))) (td_pair 0 1) (by decide) (fun _ _ _ _ => (pg_tup rfl (pgs_cons (pg_name (i := 0) (by dsimp only [lcCx, cxOf, Cx.nox]; decide +kernel) rfl (by first | exact Or.inl rfl | exact Or.inr rfl)) (pgs_cons (pg_name (i := 1) (by dsimp only [lcCx, cxOf, Cx.nox]; decide +kernel) rfl (by first | exact Or.inl rfl | exact Or.inr rfl)) pgs_nil)))) (fun _ _ _ _ => puif_nil) (fun _ _ _ _ => (pu_callD d_crossing_place (hr.mono (by decide)) rfl (pua_cons (pu_var 2) (pua_cons (pu_var 0) (pua_cons (pu_var 1) pua_nil))) (fun _ _ h => aLen (es := [(eVar 2), (eVar 0), (eVar 1)]) h))))))
theorem ok_places_round {f : Addr} {fd : FuncData} (F : Fun K "places_round" "places_round" s_places_round f fd) (hb : Binds K fd ["ring", "height"] []) (hm : mg "places_round" = some (.ref f)) (m_zip : mg "zip" = none) (d_crossing_place : Df P w K mg base 1 "crossing_place" ["height", "line", "other"] F_crossing_place) : Df P w K mg base 2 "places_round" ["ring", "height"] F_places_round :=
  ⟨f, fd, fn_places_round F m_zip d_crossing_place, hb, F.kp, hm⟩
abbrev s_greatest_shift : Stmt := top 12
theorem sc_greatest_shift : FnScope ["grid", "base", "rising", "falling", "rooms_above", "rooms_below"] ["grid", "base", "rising", "falling"] (defScope s_greatest_shift) := ⟨rfl, rfl, rfl, by decide +kernel, rfl, by decide +kernel, by decide +kernel⟩
theorem fn_greatest_shift {f : Addr} {fd : FuncData} (F : Fun K "greatest_shift" "greatest_shift" s_greatest_shift f fd) (m_min : mg "min" = none) : FnOk P w K mg base CX0 1 f fd ["grid", "base", "rising", "falling"] (spP K 4 F_greatest_shift) := by
  refine fn_plain (k := 0) F sc_greatest_shift (fun cdv A outer s H E hr => ?_)
  exact (puss_cons (pus_setLc (i := 4) (N := ["place", "base", "grid"]) (sel := [none, some 1, some 0]) (XS := ((defScope s_greatest_shift).names)) ⟨rfl, by decide +kernel, by decide +kernel, by decide +kernel, by decide +kernel, rfl, by dsimp only [lcCx, cxOf, Cx.nox]; decide +kernel⟩ rfl rfl sc_greatest_shift.nd (pui_seq (pu_var 2)) (td_name 0) (by decide) (fun _ _ _ _ => (pg_name (i := 0) (by dsimp only [lcCx, cxOf, Cx.nox]; decide +kernel) rfl (by first | exact Or.inl rfl | exact Or.inr rfl))) (fun _ _ _ _ => puif_nil) (fun _ _ _ _ => (pu_sub (pu_var 1) (pu_mod (pu_ix (pu_ix (pu_var 2) (pu_ix (pu_var 0) pu_int)) (pu_ix (pu_var 0) pu_int)) (pu_var 1)))))
    (puss_cons (pus_setLc (i := 5) (N := ["place", "grid", "base"]) (sel := [none, some 0, some 1]) (XS := ((defScope s_greatest_shift).names)) ⟨rfl, by decide +kernel, by decide +kernel, by decide +kernel, by decide +kernel, rfl, by dsimp only [lcCx, cxOf, Cx.nox]; decide +kernel⟩ rfl rfl sc_greatest_shift.nd (pui_seq (pu_var 3)) (td_name 0) (by decide) (fun _ _ _ _ => (pg_name (i := 0) (by dsimp only [lcCx, cxOf, Cx.nox]; decide +kernel) rfl (by first | exact Or.inl rfl | exact Or.inr rfl))) (fun _ _ _ _ => puif_nil) (fun _ _ _ _ => (pu_mod (pu_ix (pu_ix (pu_var 1) (pu_ix (pu_var 0) pu_int)) (pu_ix (pu_var 0) pu_int)) (pu_var 2))))
    (puss_one (pus_ret (pu_callB (cd_min rfl) rfl m_min bb_min (pua_cons (pu_add (pu_var 4) (pu_var 5)) pua_nil))))))
theorem ok_greatest_shift {f : Addr} {fd : FuncData} (F : Fun K "greatest_shift" "greatest_shift" s_greatest_shift f fd) (hb : Binds K fd ["grid", "base", "rising", "falling"] []) (hm : mg "greatest_shift" = some (.ref f)) (m_min : mg "min" = none) : Df P w K mg base 1 "greatest_shift" ["grid", "base", "rising", "falling"] F_greatest_shift :=
  ⟨f, fd, fn_greatest_shift F m_min, hb, F.kp, hm⟩
abbrev s_add_at : Stmt := top 13
theorem sc_add_at : FnScope ["grid", "places", "amount", "place"] ["grid", "places", "amount"] (defScope s_add_at) := ⟨rfl, rfl, rfl, by decide +kernel, rfl, by decide +kernel, by decide +kernel⟩
def spA (K : PySem.W.Frag) : Sp := fun vs H Q _ => ∃ g rs M h w ps vp c, vs = [.ref g, vp, .int c] ∧ GridAt H g rs M ∧ RG.Rect M h w ∧ Rep K (rmG H g rs) (encP ps) vp ∧ (∀ p ∈ ps, p.1 < h ∧ p.2 < w) ∧ ∀ H', GridAt H' g rs (RG.addsG M ps c) → Same (rmG H g rs) (rmG H' g rs) → Q .non H'
theorem fn_add_at {f : Addr} {fd : FuncData} (F : Fun K "add_at" "add_at" s_add_at f fd)  : FnOk P w K mg base CX0 1 f fd ["grid", "places", "amount"] (spA K) := by
  refine F.ok (k := 0) sc_add_at (fun vs H Q E h => by obtain ⟨g, rs, M, hh, ww, ps, vp, c, rfl, _⟩ := h; rfl) (fun cdv A outer s H vs Q E hr h => ?_)
  obtain ⟨g, rs, M, hh, ww, ps, vp, c, rfl, G, x, rp, hps, q⟩ := h
  refine ⟨_, pss_one (ps_for PassesOwn.never rfl (pi_list (pv 1)) (pg_name (i := 3) sc_add_at.nd rfl (Or.inl rfl)) (pss_one (ps_augS (pe_ix ix_list (pv 0) (pe_ix L2.ix_tup (pv 3) pe_int (fun _ _ => rfl)) (fun _ _ => rfl)) (pe_ix L2.ix_tup (pv 3) pe_int (fun _ _ => rfl)) get_listN (pv 2) ip_add set_list))), ?_⟩
  obtain ⟨a, xs, rfl, sq, rps⟩ := rep_lst rp
  have hxl : xs.length = ps.length := by rw [rps.length, List.length_map]
  refine ⟨.ref a, rfl, a, rfl, ⟨xs, (same_rmG).seq sq⟩, for_list (xs := xs) (fun i σ2 H2 => ∃ a3, σ2 = [some (.ref g), some (.ref a), some (.int c), a3] ∧ GridAt H2 g rs (RG.addsG M (ps.take i) c) ∧ Same (rmG H g rs) (rmG H2 g rs)) ⟨none, rfl, G, Same.refl _⟩ (fun i σ2 H2 _ ⟨_, _, _, s2⟩ => (s2.trans same_rmG).seq sq) ?_ ?_⟩
  · rintro i v σ2 H2 hx ⟨a3, rfl, G2, s2⟩
    have hi : i < ps.length := by rw [← hxl]; exact (List.getElem?_eq_some_iff.mp hx).1
    obtain ⟨d, e1, rd⟩ := (rps.mono s2).get hx
    rw [List.getElem?_map, List.getElem?_eq_getElem hi] at e1
    cases e1
    obtain ⟨t, ts, rfl, st, rts⟩ := rep_tup rd
    obtain ⟨y1, y2, rfl, r1, r2⟩ := reps2 rts
    have z1 := rep_int r1
    have z2 := rep_int r2
    subst z1 z2
    have st2 : SqT K H2 t [.int (ps[i].1 : Int), .int (ps[i].2 : Int)] := sqT_mono same_rmG st
    obtain ⟨hp1, hp2⟩ := hps _ (List.getElem_mem hi)
    have x2 : RG.Rect (RG.addsG M (ps.take i) c) hh ww := RG.rect_addsG x fun p hp => hps p (List.mem_of_mem_take hp)
    generalize hM2 : RG.addsG M (ps.take i) c = M2 at G2 x2
    have hrl : ps[i].1 < rs.length := by rw [G2.len, x2.tall]; exact hp1
    have hr : rs[ps[i].1]? = some rs[ps[i].1] := List.getElem?_eq_getElem hrl
    obtain ⟨hml, hm⟩ := x2.row hp1
    have hrow := G2.row _ _ _ hr hm
    have hold := RG.gAt_get x2 hp1 hp2
    have hint : ((M2.getD ps[i].1 []).map V.int)[ps[i].2]? = some (.int (RG.gAt M2 ps[i].1 ps[i].2)) := by rw [List.getElem?_map, hold]; rfl
    refine ⟨.ref g, rfl, .ref t, rfl, t, _, 0, .int (ps[i].1 : Int), rfl, rfl, st2, rfl, g, _, (ps[i].1 : Int), .ref rs[ps[i].1], rfl, rfl, SqL.of G2.top, atI_nat (by rw [List.getElem?_map, hr]; rfl), .ref t, rfl, t, _, 1, .int (ps[i].2 : Int), rfl, rfl, st2, rfl,
      rs[ps[i].1], _, ps[i].2, _, rfl, rfl, SqL.of hrow, hint, .int c, rfl, RG.gAt M2 ps[i].1 ps[i].2, c, rfl, rfl, rs[ps[i].1], _, (ps[i].2 : Int), ps[i].2, rfl, rfl, hrow, ?_, some (.ref t), rfl, ?_, ?_⟩
    · unfold ixN
      rw [if_pos (by omega), List.length_map, hml, if_pos (by omega), Int.toNat_natCast]
    · have hset : ((M2.getD ps[i].1 []).map V.int).set ps[i].2 (.int (RG.gAt M2 ps[i].1 ps[i].2 + c)) = ((M2.getD ps[i].1 []).set ps[i].2 (RG.gAt M2 ps[i].1 ps[i].2 + c)).map V.int := by rw [List.map_set]
      rw [hset, List.take_succ, List.getElem?_eq_getElem hi, Option.toList_some, addsG_snoc, hM2]
      exact G2.set hr _
    · rw [rmG_upd (List.mem_cons_of_mem _ (List.mem_of_getElem? hr))]
      exact s2
  · rintro σ2 H2 ⟨a3, rfl, G2, s2⟩
    rw [hxl, List.take_length] at G2
    exact q H2 G2 s2
theorem ok_add_at {f : Addr} {fd : FuncData} (F : Fun K "add_at" "add_at" s_add_at f fd) (hb : Binds K fd ["grid", "places", "amount"] []) (hm : mg "add_at" = some (.ref f))  : DfS P w K mg base 1 "add_at" ["grid", "places", "amount"] (spA K) :=
  ⟨f, fd, fn_add_at F , hb, F.kp, hm⟩
abbrev s_shift_round : Stmt := top 14
theorem sc_shift_round : FnScope ["grid", "base", "ring", "places", "rising", "falling", "amount"] ["grid", "base", "ring"] (defScope s_shift_round) := ⟨rfl, rfl, rfl, by decide +kernel, rfl, by decide +kernel, by decide +kernel⟩
def spS (K : PySem.W.Frag) : Sp := fun vs H Q _ => ∃ g rs M h w b ring vr, vs = [.ref g, .int b, vr] ∧ GridAt H g rs M ∧ RG.Rect M h w ∧ 0 < b ∧ RG.Ring (RG.Adj h w b (RG.gAt M)) ring ∧ ring.length ≤ 400 ∧ h + w ≤ 50 ∧ Rep K H (encN ring) vr ∧ ∀ H', GridAt H' g rs (RG.shiftL M b ring) → Same (rmG H g rs) (rmG H' g rs) → Q .non H'
theorem len_evs {α : Type} : ∀ l : List α, (RG.evs l).length ≤ l.length ∧ (RG.ods l).length ≤ l.length := fun l => ⟨(RG.evs_sub l).length_le, (RG.ods_sub l).length_le⟩
theorem ods_ne {α : Type} : ∀ {l : List α}, 2 ≤ l.length → RG.ods l ≠ []
  | [], h => by simp at h
  | [_], h => by simp at h
  | _ :: _ :: _, _ => by simp [RG.ods]
theorem fn_shift_round {f : Addr} {fd : FuncData} (F : Fun K "shift_round" "shift_round" s_shift_round f fd) (m_len : mg "len" = none) (d_add_at : DfS P w K mg base 1 "add_at" ["grid", "places", "amount"] (spA K)) (d_greatest_shift : Df P w K mg base 1 "greatest_shift" ["grid", "base", "rising", "falling"] F_greatest_shift) (d_places_round : Df P w K mg base 2 "places_round" ["ring", "height"] F_places_round) : FnOk P w K mg base CX0 3 f fd ["grid", "base", "ring"] (spS K) := by
  refine F.ok (k := 2) sc_shift_round (fun vs H Q E h => by obtain ⟨g, rs, M, hh, ww, b, ring, vr, rfl, _⟩ := h; rfl) (fun cdv A outer s H vs Q E hr h => ?_)
  obtain ⟨g, rs, M, hh, ww, b, ring, vr, rfl, G, x, hb, R, hrl, hsz, rr, q⟩ := h
  refine ⟨_, pss_cons (ps_set (i := 3) sc_shift_round.nd rfl (Or.inl rfl) (Pu.un (pu_callD d_places_round (hr.mono (by decide)) rfl (pua_cons (pu_var 2) (pua_cons (pu_callB cd_len rfl m_len bb_len (pua_cons (pu_var 0) pua_nil)) pua_nil)) (fun _ _ h => aLen (es := [(eVar 2), (eCall fLen (aCons (eVar 0) aNil))]) h))))
    (pss_cons (ps_set (i := 4) sc_shift_round.nd rfl (Or.inl rfl) (Pu.un (pu_slice3 (n := 2) (pu_var 3) (puo_some pu_int) puo_none)))
    (pss_cons (ps_set (i := 5) sc_shift_round.nd rfl (Or.inl rfl) (Pu.un (pu_slice3 (n := 2) (pu_var 3) (puo_some pu_int) puo_none)))
    (pss_cons (ps_set (i := 6) sc_shift_round.nd rfl (Or.inl rfl) (Pu.un (pu_callD d_greatest_shift (hr.mono (by decide)) rfl (pua_cons (pu_var 0) (pua_cons (pu_var 1) (pua_cons (pu_var 4) (pua_cons (pu_var 5) pua_nil)))) (fun _ _ h => aLen (es := [(eVar 0), (eVar 1), (eVar 4), (eVar 5)]) h))))
    (pss_cons (ps_kd (ps_expr (pe_callS d_add_at (hr.mono (by decide)) rfl (pa_cons (pv 0) (pa_cons (pv 4) (pa_cons (pv 6) pa_nil))))))
    (pss_one (ps_expr (pe_callS d_add_at (hr.mono (by decide)) rfl (pa_cons (pv 0) (pa_cons (pv 5) (pa_cons (Pu.un (pu_neg (pu_var 6))) pa_nil)))))))))), ?_⟩
  have hin : ∀ p ∈ RG.places hh ring, p.1 < hh ∧ p.2 < ww := fun p hp => ⟨(R.places_loose hp).1, (R.places_loose hp).2.1⟩
  have hpl : (RG.places hh ring).length = ring.length := RG.places_length hh ring
  have hR3 := R.len
  have hev : ∀ p ∈ RG.evs (RG.places hh ring), p.1 < hh ∧ p.2 < ww := fun p hp => hin p ((RG.evs_sub _).mem hp)
  have hod : ∀ p ∈ RG.ods (RG.places hh ring), p.1 < hh ∧ p.2 < ww := fun p hp => hin p ((RG.ods_sub _).mem hp)
  have hevn : RG.evs (RG.places hh ring) ≠ [] := RG.evs_ne fun z => by rw [z] at hpl; simp at hpl; omega
  have hodn : RG.ods (RG.places hh ring) ≠ [] := ods_ne (by omega)
  obtain ⟨l1, l2⟩ := len_evs (RG.places hh ring)
  have e1 : eCall F_places_round (aCons (eVar 2) (aCons (eCall fLen (aCons (eVar 0) aNil)) aNil)) [some (encG M), some (.int b), some (encN ring), none, none, none, none] = some (encP (RG.places hh ring)) :=
    eCall_of (aCons_of rfl (aCons_of (by rw [len_lst (l := M.map encL) rfl, List.length_map, x.tall]) rfl)) (v_places_round R (by omega))
  refine ⟨_, _, RepSt.c1 G.rep (RepSt.c1 (Rep.ofInt b) (RepSt.c1 rr (RepSt.c0 (RepSt.c0 (RepSt.c0 (RepSt.c0 RepSt.e0)))))), e1, fun v3 H1 s1 r3 => ?_⟩
  have e2 : ∀ o, eSl3 (eVar 3) (oSome (eC (.int 0))) oNone 2 [some (encG M), some (.int b), some (encN ring), some (encP (RG.places hh ring)), o, none, none] = some (encP (RG.evs (RG.places hh ring))) := fun o => by
    show some (PyData.list (stepD 2 (cutD _ (some ((0 : Nat) : Int)) none))) = _
    rw [cut_from, List.drop_zero, evs_step, RG.evs_map]
    rfl
  refine ⟨_, _, RepSt.c1 (G.mono s1).rep (RepSt.c1 (Rep.ofInt b) (RepSt.c1 (rr.mono s1) (RepSt.c1 r3 (RepSt.c0 (RepSt.c0 (RepSt.c0 RepSt.e0)))))), e2 none, fun v4 H2 s2 r4 => ?_⟩
  have e3 : eSl3 (eVar 3) (oSome (eC (.int 1))) oNone 2 [some (encG M), some (.int b), some (encN ring), some (encP (RG.places hh ring)), some (encP (RG.evs (RG.places hh ring))), none, none] = some (encP (RG.ods (RG.places hh ring))) := by
    show some (PyData.list (stepD 2 (cutD _ (some ((1 : Nat) : Int)) none))) = _
    rw [cut_from, evs_step, ← List.map_drop, RG.evs_map, ← ods_evs]
    rfl
  refine ⟨_, _, RepSt.c1 (G.mono (s1.trans s2)).rep (RepSt.c1 (Rep.ofInt b) (RepSt.c1 (rr.mono (s1.trans s2)) (RepSt.c1 (r3.mono s2) (RepSt.c1 r4 (RepSt.c0 (RepSt.c0 RepSt.e0)))))), e3, fun v5 H3 s3 r5 => ?_⟩
  have e4 : eCall F_greatest_shift (aCons (eVar 0) (aCons (eVar 1) (aCons (eVar 4) (aCons (eVar 5) aNil)))) [some (encG M), some (.int b), some (encN ring), some (encP (RG.places hh ring)), some (encP (RG.evs (RG.places hh ring))), some (encP (RG.ods (RG.places hh ring))), none] = some (.int (RG.amountL M b (RG.places hh ring))) :=
    eCall_of (aCons_of rfl (aCons_of rfl (aCons_of rfl (aCons_of rfl rfl)))) (v_greatest_shift x hb hev hod hevn (by omega))
  have s13 := (s1.trans s2).trans s3
  refine ⟨_, _, RepSt.c1 (G.mono s13).rep (RepSt.c1 (Rep.ofInt b) (RepSt.c1 (rr.mono s13) (RepSt.c1 (r3.mono (s2.trans s3)) (RepSt.c1 (r4.mono s3) (RepSt.c1 r5 (RepSt.c0 RepSt.e0)))))), e4, fun v6 H4 s4 r6 => ?_⟩
  have z6 := rep_int r6
  subst z6
  have s14 := s13.trans s4
  have G4 := G.mono s14
  intro kd
  have r4' := rep_apart kd G4 hevn (r4.mono (s3.trans s4))
  have r5' := rep_apart kd G4 hodn (r5.mono s4)
  refine ⟨.ref g, rfl, v4, rfl, .int (RG.amountL M b (RG.places hh ring)), rfl, g, rs, M, hh, ww, RG.evs (RG.places hh ring), v4, _, rfl, G4, x, r4', hev, fun H5 G5 s5 => ?_⟩
  refine ⟨.ref g, rfl, v5, rfl, [none, none, none, none, none, none, some (.int (RG.amountL M b (RG.places hh ring)))], .int (-(RG.amountL M b (RG.places hh ring))), RepSt.c0 (RepSt.c0 (RepSt.c0 (RepSt.c0 (RepSt.c0 (RepSt.c0 (RepSt.c1 (Rep.ofInt _) RepSt.e0)))))), rfl, fun v7 H6 s6 r7 => ?_⟩
  have z7 := rep_int r7
  subst z7
  refine ⟨g, rs, _, hh, ww, RG.ods (RG.places hh ring), v5, _, rfl, G5.mono s6, RG.rect_addsG x hev, r5'.mono (s5.trans (rmG_mono s6)), hod, fun H7 G7 s7 => ?_⟩
  refine q H7 ?_ ((rmG_mono s14).trans (s5.trans ((rmG_mono s6).trans s7)))
  unfold RG.shiftL
  rw [x.tall]
  exact G7
theorem ok_shift_round {f : Addr} {fd : FuncData} (F : Fun K "shift_round" "shift_round" s_shift_round f fd) (hb : Binds K fd ["grid", "base", "ring"] []) (hm : mg "shift_round" = some (.ref f)) (m_len : mg "len" = none) (d_add_at : DfS P w K mg base 1 "add_at" ["grid", "places", "amount"] (spA K)) (d_greatest_shift : Df P w K mg base 1 "greatest_shift" ["grid", "base", "rising", "falling"] F_greatest_shift) (d_places_round : Df P w K mg base 2 "places_round" ["ring", "height"] F_places_round) : DfS P w K mg base 3 "shift_round" ["grid", "base", "ring"] (spS K) :=
  ⟨f, fd, fn_shift_round F m_len d_add_at d_greatest_shift d_places_round, hb, F.kp, hm⟩
abbrev s_settle_row : Stmt := top 15
theorem sc_settle_row : FnScope ["grid", "base", "row"] ["grid", "base", "row"] (defScope s_settle_row) := ⟨rfl, rfl, rfl, by decide +kernel, rfl, by decide +kernel, by decide +kernel⟩
def spT (K : PySem.W.Frag) : Sp := fun vs H Q _ => ∃ g rs M h w b row G0, vs = [.ref g, .int b, .int ((row : Nat) : Int)] ∧ GridAt H g rs M ∧ RG.Sett h w b G0 M ∧ 0 < b ∧ row < h ∧ ∀ H', GridAt H' g rs (RG.settleL b row (RG.turns M) M) → Same (rmG H g rs) (rmG H' g rs) → Q .non H'
theorem ring_len {h w : Nat} {b : Int} {G : Nat → Nat → Int} {r : List Nat} (R : RG.Ring (RG.Adj h w b G) r) : r.length ≤ h + w := by
  refine RG.nodup_le R.nd fun l hl => ?_
  obtain ⟨i, hi, e⟩ := List.mem_iff_getElem.mp hl
  rw [← e]
  exact (R.adj i hi).lt
theorem fn_settle_row {f : Addr} {fd : FuncData} (F : Fun K "settle_row" "settle_row" s_settle_row f fd) (d_crossing_lines : Df P w K mg base 1 "crossing_lines" ["grid", "base", "line"] F_crossing_lines) (d_ring_from : Df P w K mg base 2 "ring_from" ["grid", "base", "start"] F_ring_from) (d_shift_round : DfS P w K mg base 3 "shift_round" ["grid", "base", "ring"] (spS K)) : FnOk P w K mg base CX0 4 f fd ["grid", "base", "row"] (spT K) := by
  refine F.ok (k := 3) sc_settle_row (fun vs H Q E h => by obtain ⟨g, rs, M, hh, ww, b, row, G0, rfl, _⟩ := h; rfl) (fun cdv A outer s H vs Q E hr h => ?_)
  obtain ⟨g, rs, M, hh, ww, b, row, G0, rfl, G, S, hb, hrow, q⟩ := h
  refine ⟨_, pss_one (ps_while PassesOwn.never (PuT.un (put_val (pu_callD d_crossing_lines (hr.mono (by decide)) rfl (pua_cons (pu_var 0) (pua_cons (pu_var 1) (pua_cons (pu_var 2) pua_nil))) (fun _ _ h => aLen (es := [(eVar 0), (eVar 1), (eVar 2)]) h))))
    (pss_one (ps_expr (pe_callS d_shift_round (hr.mono (by decide)) rfl (pa_cons (pv 0) (pa_cons (pv 1) (pa_cons (Pu.un (pu_callD d_ring_from (hr.mono (by decide)) rfl (pua_cons (pu_var 0) (pua_cons (pu_var 1) (pua_cons (pu_var 2) pua_nil))) (fun _ _ h => aLen (es := [(eVar 0), (eVar 1), (eVar 2)]) h))) pa_nil))))))), ?_⟩
  have h0 : 0 < hh := by omega
  refine ⟨fun m σ2 H2 => σ2 = [some (.ref g), some (.int b), some (.int ((row : Nat) : Int))] ∧ ∃ M2, GridAt H2 g rs M2 ∧ RG.Sett hh ww b G0 M2 ∧ RG.cnt hh ww b (RG.gAt M2) < m ∧ RG.settleL b row m M2 = RG.settleL b row (RG.turns M) M ∧ Same (rmG H g rs) (rmG H2 g rs),
    ⟨RG.turns M, rfl, M, G, S, RG.turns_ok S h0, rfl, Same.refl _⟩, ?_⟩
  rintro m σ2 H2 ⟨rfl, M2, G2, S2, hc, hfin, s2⟩
  have rs2 : RepSt K H2 [some (encG M2), some (.int b), some (.int ((row : Nat) : Int))] [some (.ref g), some (.int b), some (.int ((row : Nat) : Int))] := RepSt.c1 G2.rep (RepSt.c1 (Rep.ofInt b) (RepSt.c1 (Rep.ofInt _) RepSt.e0))
  have ec : eCall F_crossing_lines (aCons (eVar 0) (aCons (eVar 1) (aCons (eVar 2) aNil))) [some (encG M2), some (.int b), some (.int ((row : Nat) : Int))] = some (encN (RG.cross M2 b row)) :=
    eCall_of (aCons_of rfl (aCons_of rfl (aCons_of rfl rfl))) (v_crossing_lines S2.rect hb (by omega) S2.small)
  refine ⟨_, !(RG.cross M2 b row).isEmpty, rs2, by rw [cT_lst ec, List.isEmpty_map], fun H3 s3 => ?_⟩
  cases m with
  | zero => omega
  | succ m =>
    by_cases he : RG.cross M2 b row = []
    · rw [he, if_neg (by decide)]
      have hf : RG.settleL b row (m + 1) M2 = M2 := by unfold RG.settleL; rw [if_pos he]
      rw [hf] at hfin
      rw [← hfin] at q
      exact q H3 (G2.mono s3) (s2.trans (rmG_mono s3))
    · have hne : (!(RG.cross M2 b row).isEmpty) = true := by
        cases e : RG.cross M2 b row with
        | nil => exact absurd e he
        | cons _ _ => rfl
      rw [if_pos hne]
      obtain ⟨R, S3, _, lt⟩ := RG.one_shift hb S2 hrow he
      have hf : RG.settleL b row (m + 1) M2 = RG.settleL b row m (RG.shiftL M2 b (RG.ringOf M2 b row 100)) := by
        show (if RG.cross M2 b row = [] then M2 else _) = _
        rw [if_neg he]
      rw [hf] at hfin
      refine ⟨fun σ' H' => σ' = [some (.ref g), some (.int b), some (.int ((row : Nat) : Int))] ∧ GridAt H' g rs (RG.shiftL M2 b (RG.ringOf M2 b row 100)) ∧ Same (rmG H g rs) (rmG H' g rs), fun σ' H' ⟨e1, e2, e3⟩ => ⟨m, Nat.lt_succ_self m, e1, _, e2, S3, by omega, hfin, e3⟩, ?_⟩
      have er : eCall F_ring_from (aCons (eVar 0) (aCons (eVar 1) (aCons (eVar 2) aNil))) [some (encG M2), some (.int b), some (.int ((row : Nat) : Int))] = some (encN (RG.ringOf M2 b row 100)) :=
        eCall_of (aCons_of rfl (aCons_of rfl (aCons_of rfl rfl))) (v_ring_from S2.rect S2.fit.zero hb S2.small hrow he)
      refine ⟨.ref g, rfl, .int b, rfl, _, _, rs2.mono s3, er, fun v4 H4 s4 r4 => ?_⟩
      have hlen := ring_len R
      have hsm := S2.small
      refine ⟨g, rs, M2, hh, ww, b, _, v4, rfl, G2.mono (s3.trans s4), S2.rect, hb, R, by omega, hsm, r4, fun H5 G5 s5 => ⟨rfl, G5, s2.trans ((rmG_mono (s3.trans s4)).trans s5)⟩⟩
theorem ok_settle_row {f : Addr} {fd : FuncData} (F : Fun K "settle_row" "settle_row" s_settle_row f fd) (hb : Binds K fd ["grid", "base", "row"] []) (hm : mg "settle_row" = some (.ref f)) (d_crossing_lines : Df P w K mg base 1 "crossing_lines" ["grid", "base", "line"] F_crossing_lines) (d_ring_from : Df P w K mg base 2 "ring_from" ["grid", "base", "start"] F_ring_from) (d_shift_round : DfS P w K mg base 3 "shift_round" ["grid", "base", "ring"] (spS K)) : DfS P w K mg base 4 "settle_row" ["grid", "base", "row"] (spT K) :=
  ⟨f, fd, fn_settle_row F d_crossing_lines d_ring_from d_shift_round, hb, F.kp, hm⟩
abbrev s_settled : Stmt := top 16
theorem sc_settled : FnScope ["grid", "base", "size", "row"] ["grid", "base"] (defScope s_settled) := ⟨rfl, rfl, rfl, by decide +kernel, rfl, by decide +kernel, by decide +kernel⟩
def spD (K : PySem.W.Frag) : Sp := fun vs H Q _ => ∃ g rs M h w b G0, vs = [.ref g, .int b] ∧ GridAt H g rs M ∧ RG.Sett (h + 1) (w + 1) b G0 M ∧ 0 < b ∧ b ≤ 1000 ∧ w ≤ 5 ∧ ∀ v H', Same (rmG H g rs) H' → Rep K H' (encT (settledL M b h)) v → Q v H'
theorem fn_settled {f : Addr} {fd : FuncData} (F : Fun K "settled" "settled" s_settled f fd) (m_abs : mg "abs" = none) (m_len : mg "len" = none) (m_range : mg "range" = none) (m_tuple : mg "tuple" = none) (d_down : Df P w K mg base 3 "down" ["table", "base"] F_down) (d_settle_row : DfS P w K mg base 4 "settle_row" ["grid", "base", "row"] (spT K)) : FnOk P w K mg base CX0 5 f fd ["grid", "base"] (spD K) := by
  refine F.ok (k := 4) sc_settled (fun vs H Q E h => by obtain ⟨g, rs, M, hh, ww, b, G0, rfl, _⟩ := h; rfl) (fun cdv A outer s H vs Q E hr h => ?_)
  obtain ⟨g, rs, M, hh, wd, b, G0, rfl, G1, S0, hb, hb2, hwd, q⟩ := h
  refine ⟨_, pss_cons (ps_set (i := 2) sc_settled.nd rfl (Or.inl rfl) (Pu.un (pu_callB cd_abs rfl m_abs bb_abs (pua_cons (pu_var 1) pua_nil))))
    (pss_cons (ps_for PassesOwn.never rfl (pi_range1 rfl m_range (pa_cons (Pu.un (pu_sub (pu_callB cd_len rfl m_len bb_len (pua_cons (pu_var 0) pua_nil)) pu_int)) pa_nil)) (pg_name (i := 3) sc_settled.nd rfl (Or.inl rfl))
      (pss_one (ps_expr (pe_callS d_settle_row (hr.mono (by decide)) rfl (pa_cons (pv 0) (pa_cons (pv 2) (pa_cons (pv 3) pa_nil)))))))
    (pss_one (ps_ret (Pu.un (pu_callD d_down (hr.mono (by decide)) rfl (pua_cons (pu_callTy cd_tuple rfl m_tuple bb_tuple (pua_cons (pu_lc (N := ["counts"]) (sel := [none]) (XS := ((defScope s_settled).names)) ⟨rfl, by decide +kernel, by decide +kernel, by decide +kernel, by decide +kernel, rfl, by dsimp only [lcCx, cxOf, Cx.nox]; decide +kernel⟩ rfl rfl (pui_seq (pu_slice (pu_var 0) puo_none (puo_some (pu_neg pu_int)))) (td_name 0) (by decide) (fun _ _ _ _ => (pg_name (i := 0) (by dsimp only [lcCx, cxOf, Cx.nox]; decide +kernel) rfl (by first | exact Or.inl rfl | exact Or.inr rfl))) (fun _ _ _ _ => puif_nil) (fun _ _ _ _ => (pu_callTy cd_tuple rfl m_tuple bb_tuple (pua_cons (pu_slice (pu_var 0) puo_none (puo_some (pu_neg pu_int))) pua_nil)))) pua_nil)) (pua_cons (pu_var 1) pua_nil)) (fun _ _ h => aLen (es := [(eCall fTuple (aCons (eLc (iSeq (eSl (eVar 0) oNone (oSome (eUn oNeg (eC (.int 1)))))) [none] (gN 0) cTrue (eCall fTuple (aCons (eSl (eVar 0) oNone (oSome (eUn oNeg (eC (.int 1))))) aNil))) aNil)), (eVar 1)]) h)))))), ?_⟩
  have hab : eCall fAbs (aCons (eVar 1) aNil) [none, some (.int b), none, none] = some (.int b) := by
    show some (PyData.int (if b < 0 then -b else b)) = _
    rw [if_neg (by omega)]
  refine ⟨_, _, RepSt.c0 (RepSt.c1 (Rep.ofInt b) (RepSt.c0 (RepSt.c0 RepSt.e0))), hab, fun v3 H2 s2 r3 => ?_⟩
  have z3 := rep_int r3
  subst z3
  have G2 := G1.mono s2
  have s02 : Same (rmG H g rs) (rmG H2 g rs) := rmG_mono s2
  have eln : eOp oSub (eCall fLen (aCons (eVar 0) aNil)) (eC (.int 1)) [some (encG M), none, none, none] = some (.int ((hh : Nat) : Int)) := by
    rw [eOp_of (len_lst (l := M.map encL) rfl) rfl (sub_of _ _), List.length_map, S0.rect.tall]
    exact congrArg (fun z => some (PyData.int z)) (by omega)
  have hsm := S0.small
  refine ⟨_, _, RepSt.c1 G2.rep (RepSt.c0 (RepSt.c0 (RepSt.c0 RepSt.e0))), eln, fun v4 H3 s3 r4 => ?_⟩
  have z4 := rep_int r4
  subst z4
  have s03 : Same (rmG H g rs) (rmG H3 g rs) := s02.trans (rmG_mono s3)
  have hlo : -(2 ^ 62) ≤ ((hh : Nat) : Int) := by omega
  have hhi : ((hh : Nat) : Int) < 2 ^ 62 := by omega
  refine ⟨((hh : Nat) : Int), rfl, hlo, hhi, ?_⟩
  rw [Int.toNat_natCast]
  refine for_range (n := hh) (fun i σ5 H5 => ∃ a4, σ5 = [some (.ref g), some (.int b), some (.int b), a4] ∧ GridAt H5 g rs (RG.allL b i M) ∧ Same (rmG H g rs) (rmG H5 g rs)) ⟨none, rfl, G2.mono s3, s03⟩ ?_ ?_
  · rintro i σ5 H5 hi ⟨a4, rfl, G5, s5⟩
    obtain ⟨S5, _⟩ := RG.all_ok hb S0 i (by omega)
    have ei : (0 : Int) + ((i : Nat) : Int) = ((i : Nat) : Int) := by omega
    refine ⟨.ref g, rfl, .int b, rfl, .int (0 + ((i : Nat) : Int)), rfl, g, rs, _, hh + 1, wd + 1, b, i, _, by rw [ei], G5, S5, hb, by omega, fun H6 G6 s6 => ⟨_, rfl, G6, s5.trans s6⟩⟩
  · rintro σ5 H5 ⟨a4, rfl, G5, s5⟩
    generalize hg : RG.allL b hh M = Gn at G5
    have S := (RG.all_ok hb S0 hh (Nat.le_succ _)).1
    rw [hg] at S
    have hev : (eCall F_down (aCons (eCall fTuple (aCons (eLc (iSeq (eSl (eVar 0) oNone (oSome (eUn oNeg (eC (.int 1)))))) [none] (gN 0) cTrue (eCall fTuple (aCons (eSl (eVar 0) oNone (oSome (eUn oNeg (eC (.int 1))))) aNil))) aNil)) (aCons (eVar 1) aNil))) [some (encG Gn), some (.int b), none, none] = some (encT (settledL M b hh)) := by
      have e1 : eSl (eVar 0) oNone (oSome (eUn oNeg (eC (.int 1)))) [some (encG Gn), some (.int b), none, none] = some (.list (Gn.dropLast.map encL)) := by
        show some (PyData.list (cutD (Gn.map encL) none (some (-1)))) = _
        rw [cut_last, List.map_dropLast]
      have hgl : Gn.dropLast.length = hh := by rw [List.length_dropLast, S.rect.tall]; rfl
      have e2 := eLc_map (fi := iSeq (eSl (eVar 0) oNone (oSome (eUn oNeg (eC (.int 1)))))) (sel := [none]) (gf := gN 0) (ct := cTrue) (fe := eCall fTuple (aCons (eSl (eVar 0) oNone (oSome (eUn oNeg (eC (.int 1))))) aNil)) (δ := [some (encG Gn), some (.int b), none, none]) (xs := Gn.dropLast) (e := encL) (g := fun r => encR r.dropLast) (iSeq_lst e1) (by omega) fun r _ => ⟨[some (encL r)], rfl, rfl, by
          show some (PyData.tuple (cutD (r.map PyData.int) none (some (-1)))) = some (PyData.tuple (r.dropLast.map PyData.int))
          rw [cut_last, List.map_dropLast]⟩
      have e3 : eCall fTuple (aCons (eLc (iSeq (eSl (eVar 0) oNone (oSome (eUn oNeg (eC (.int 1)))))) [none] (gN 0) cTrue (eCall fTuple (aCons (eSl (eVar 0) oNone (oSome (eUn oNeg (eC (.int 1))))) aNil))) aNil) [some (encG Gn), some (.int b), none, none] = some (encT (Gn.dropLast.map List.dropLast)) := by
        rw [eCall_of (aCons_of e2 rfl) rfl]
        show some (PyData.tuple (Gn.dropLast.map fun r => encR r.dropLast)) = some (PyData.tuple ((Gn.dropLast.map List.dropLast).map encR))
        rw [List.map_map]
        rfl
      rw [eCall_of (aCons_of e3 (aCons_of rfl rfl)) (v_downR (t := Gn.dropLast.map List.dropLast) (w := wd) (by rw [List.length_map, hgl]; omega) (fun r hr => by
        obtain ⟨q, hq, rfl⟩ := List.mem_map.mp hr
        rw [List.length_dropLast, S.rect.wide q (List.dropLast_subset Gn hq)]; rfl) hwd hb (by omega))]
      rw [List.map_map, ← hg]
      rfl
    refine ⟨_, _, RepSt.c1 G5.rep (RepSt.c1 (Rep.ofInt b) (RepSt.c0 (RepSt.c0 RepSt.e0))), hev, fun v6 H6 s6 r6 => q v6 H6 ((s5.trans same_rmG).trans s6) r6⟩
theorem ok_settled {f : Addr} {fd : FuncData} (F : Fun K "settled" "settled" s_settled f fd) (hb : Binds K fd ["grid", "base"] []) (hm : mg "settled" = some (.ref f)) (m_abs : mg "abs" = none) (m_len : mg "len" = none) (m_range : mg "range" = none) (m_tuple : mg "tuple" = none) (d_down : Df P w K mg base 3 "down" ["table", "base"] F_down) (d_settle_row : DfS P w K mg base 4 "settle_row" ["grid", "base", "row"] (spT K)) : DfS P w K mg base 5 "settled" ["grid", "base"] (spD K) :=
  ⟨f, fd, fn_settled F m_abs m_len m_range m_tuple d_down d_settle_row, hb, F.kp, hm⟩
abbrev s_widened_place : Stmt := top 18
theorem sc_widened_place : FnScope ["grid", "kind", "at", "last_row", "last_pillar"] ["grid", "kind", "at"] (defScope s_widened_place) := ⟨rfl, rfl, rfl, by decide +kernel, rfl, by decide +kernel, by decide +kernel⟩
theorem fn_widened_place {f : Addr} {fd : FuncData} (F : Fun K "widened_place" "widened_place" s_widened_place f fd) (m_len : mg "len" = none) : FnOk P w K mg base CX0 1 f fd ["grid", "kind", "at"] (spP K 3 F_widened_place) := by
  refine fn_plain (k := 0) F sc_widened_place (fun cdv A outer s H E hr => ?_)
  exact (puss_cons (pus_set (i := 3) sc_widened_place.nd (pu_sub (pu_callB cd_len rfl m_len bb_len (pua_cons (pu_var 0) pua_nil)) pu_int))
    (puss_cons (pus_set (i := 4) sc_widened_place.nd (pu_sub (pu_callB cd_len rfl m_len bb_len (pua_cons (pu_ix (pu_var 0) pu_int) pua_nil)) pu_int))
    (puss_cons (pus_if (put_cmp (cd_eq hr.units) (pu_var 1) pu_str (nomark _)) (puss_one (pus_ret (pu_tup (pua_cons (pu_var 2) (pua_cons (pu_var 4) pua_nil))))) puss_nil)
    (puss_cons (pus_if (put_cmp (cd_eq hr.units) (pu_var 1) pu_str (nomark _)) (puss_one (pus_ret (pu_tup (pua_cons (pu_var 3) (pua_cons (pu_var 2) pua_nil))))) puss_nil)
    (puss_cons (pus_if (put_cmp (cd_eq hr.units) (pu_var 1) pu_str (nomark _)) (puss_one (pus_ret (pu_tup (pua_cons (pu_var 3) (pua_cons (pu_var 4) pua_nil))))) puss_nil)
    (puss_one (pus_ret (pu_var 2))))))))
theorem ok_widened_place {f : Addr} {fd : FuncData} (F : Fun K "widened_place" "widened_place" s_widened_place f fd) (hb : Binds K fd ["grid", "kind", "at"] []) (hm : mg "widened_place" = some (.ref f)) (m_len : mg "len" = none) : Df P w K mg base 1 "widened_place" ["grid", "kind", "at"] F_widened_place :=
  ⟨f, fd, fn_widened_place F m_len, hb, F.kp, hm⟩
abbrev s_must_rise : Stmt := top 19
theorem sc_must_rise : FnScope ["base", "kind", "upward", "rises"] ["base", "kind", "upward"] (defScope s_must_rise) := ⟨rfl, rfl, rfl, by decide +kernel, rfl, by decide +kernel, by decide +kernel⟩
theorem fn_must_rise {f : Addr} {fd : FuncData} (F : Fun K "must_rise" "must_rise" s_must_rise f fd)  : FnOk P w K mg base CX0 1 f fd ["base", "kind", "upward"] (spP K 3 F_must_rise) := by
  refine fn_plain (k := 0) F sc_must_rise (fun cdv A outer s H E hr => ?_)
  exact (puss_cons (pus_set (i := 3) sc_must_rise.nd (pu_var 2))
    (puss_cons (pus_if (put_w (puw_or (put_cmp (cd_eq hr.units) (pu_var 1) pu_str (nomark _)) (puw_or1 (put_cmp (cd_eq hr.units) (pu_var 1) pu_str (nomark _))))) (puss_one (pus_set (i := 3) sc_must_rise.nd (pu_not (pu_var 3)))) puss_nil)
    (puss_cons (pus_if (put_cmp cd_lt (pu_var 0) pu_int (nomark _)) (puss_one (pus_set (i := 3) sc_must_rise.nd (pu_not (pu_var 3)))) puss_nil)
    (puss_one (pus_ret (pu_var 3))))))
theorem ok_must_rise {f : Addr} {fd : FuncData} (F : Fun K "must_rise" "must_rise" s_must_rise f fd) (hb : Binds K fd ["base", "kind", "upward"] []) (hm : mg "must_rise" = some (.ref f))  : Df P w K mg base 1 "must_rise" ["base", "kind", "upward"] F_must_rise :=
  ⟨f, fd, fn_must_rise F , hb, F.kp, hm⟩
abbrev s_path_round : Stmt := top 20
theorem sc_path_round : FnScope ["grid", "base", "place", "start", "goal", "paths", "waiting", "line", "other"] ["grid", "base", "place"] (defScope s_path_round) := ⟨rfl, rfl, rfl, by decide +kernel, rfl, by decide +kernel, by decide +kernel⟩
def spQ (K : PySem.W.Frag) : Sp := fun vs H Q _ => ∃ M h w b r c vg vp, vs = [vg, .int b, vp] ∧ Rep K H (encG M) vg ∧ Rep K H (.tuple [.int ((r : Nat) : Int), .int ((c : Nat) : Int)]) vp ∧ RG.Rect M h w ∧ RG.Zero h w (RG.gAt M) ∧ 0 < b ∧ h + w ≤ 50 ∧ r < h ∧ c < w ∧ RG.Ls b (RG.gAt M r c) ∧ ∀ v H', Same H H' → Rep K H' (encN (RG.pathL M b r c)) v → Q v H'
inductive PAt (K : PySem.W.Frag) (S : Hp) : List (Key × V) → RG.Pm → Prop
  | nil : PAt K S [] []
  | cons {l : Nat} {p : List Nat} {v : V} {kvs : List (Key × V)} {ps : RG.Pm} : Rep K S (encN p) v → PAt K S kvs ps → PAt K S ((Sum.inl ((l : Nat) : Int), v) :: kvs) ((l, p) :: ps)
theorem PAt.mono {S S' : Hp} {kvs : List (Key × V)} {ps : RG.Pm} (x : PAt K S kvs ps) (s : Same S S') : PAt K S' kvs ps := by
  induction x with
  | nil => exact .nil
  | cons h _ ih => exact .cons (h.mono s) ih
theorem PAt.len {S : Hp} {kvs : List (Key × V)} {ps : RG.Pm} (x : PAt K S kvs ps) : kvs.length = ps.length := by
  induction x with
  | nil => rfl
  | cons _ _ ih => rw [List.length_cons, List.length_cons, ih]
theorem key_ne {l m : Nat} (h : m ≠ l) : ¬ ((Sum.inl ((m : Nat) : Int) : Key) = Sum.inl ((l : Nat) : Int)) := fun z => h (by injection z with z; omega)
theorem PAt.get {S : Hp} {kvs : List (Key × V)} {ps : RG.Pm} (x : PAt K S kvs ps) {l : Nat} (h : l ∈ RG.keysP ps) : ∃ v, valV kvs (Sum.inl ((l : Nat) : Int)) = some v ∧ Rep K S (encN (RG.pathP ps l)) v := by
  induction x with
  | nil => cases h
  | @cons m p v kvs ps hr _ ih =>
    by_cases e : m = l
    · subst e
      refine ⟨v, valV_pos rfl, ?_⟩
      have : RG.pathP ((m, p) :: ps) m = p := by unfold RG.pathP; rw [List.lookup_cons_self]; rfl
      rw [this]
      exact hr
    · have h' : l ∈ RG.keysP ps := by
        rcases List.mem_cons.mp h with h | h
        · exact absurd h.symm e
        · exact h
      obtain ⟨u, h1, h2⟩ := ih h'
      refine ⟨u, by rw [valV_neg (key_ne e)]; exact h1, ?_⟩
      have : RG.pathP ((m, p) :: ps) l = RG.pathP ps l := by unfold RG.pathP; rw [List.lookup_cons, beq_eq_false_iff_ne.mpr (Ne.symm e)]
      rw [this]
      exact h2
theorem PAt.no {S : Hp} {kvs : List (Key × V)} {ps : RG.Pm} (x : PAt K S kvs ps) {l : Nat} (h : l ∉ RG.keysP ps) : valV kvs (Sum.inl ((l : Nat) : Int)) = none := by
  induction x with
  | nil => rfl
  | @cons m p v kvs ps hr _ ih =>
    have e : m ≠ l := fun z => h (by rw [z]; exact List.mem_cons_self)
    rw [valV_neg (key_ne e)]
    exact ih fun z => h (List.mem_cons_of_mem _ z)
theorem PAt.snoc {S : Hp} {kvs : List (Key × V)} {ps : RG.Pm} (x : PAt K S kvs ps) {m : Nat} {p : List Nat} {v : V} (r : Rep K S (encN p) v) : PAt K S (kvs ++ [(Sum.inl ((m : Nat) : Int), v)]) (ps ++ [(m, p)]) := by
  induction x with
  | nil => exact .cons r .nil
  | cons h _ ih => exact .cons h ih
theorem PAt.put {S : Hp} {kvs : List (Key × V)} {ps : RG.Pm} (x : PAt K S kvs ps) {m : Nat} (h : m ∉ RG.keysP ps) (v : V) : putK kvs (Sum.inl ((m : Nat) : Int)) v = kvs ++ [(Sum.inl ((m : Nat) : Int), v)] := by
  unfold putK
  have : (kvs.any fun kv => decide (kv.1 = Sum.inl ((m : Nat) : Int))) = false := by
    induction x with
    | nil => rfl
    | @cons l p u kvs ps hr _ ih =>
      have e : l ≠ m := fun z => h (by rw [z]; exact List.mem_cons_self)
      rw [List.any_cons, ih fun z => h (List.mem_cons_of_mem _ z), decide_eq_false (key_ne e)]
      rfl
  rw [this, if_neg (by decide)]
def stH (H : Hp) (q d : Addr) : Hp := rm (rm H q) d
theorem stH_same {H : Hp} {q d : Addr} : Same (stH H q d) H := (same_rm (rm H q) d).trans (same_rm H q)
theorem stH_mono {H H' : Hp} {q d : Addr} (s : Same H H') : Same (stH H q d) (stH H' q d) := same_rm_rm (same_rm_rm s q) d
theorem stH_at {H : Hp} {q d c : Addr} (h1 : c ≠ q) (h2 : c ≠ d) : stH H q d c = H c := by unfold stH; rw [rm_ne h2, rm_ne h1]
theorem stH_some {H : Hp} {q d c : Addr} {o : HO} (h : stH H q d c = some o) : c ≠ q ∧ c ≠ d ∧ H c = some o := by
  unfold stH at h
  have h2 : c ≠ d := fun z => by rw [z, rm_same] at h; cases h
  rw [rm_ne h2] at h
  have h1 : c ≠ q := fun z => by rw [z, rm_same] at h; cases h
  rw [rm_ne h1] at h
  exact ⟨h1, h2, h⟩
def wsV (ws : List Nat) : List V := ws.map fun (n : Nat) => V.int (n : Int)
structure BfsAt (K : PySem.W.Frag) (q d : Addr) (H : Hp) (ps : RG.Pm) (ws : List Nat) : Prop where
  dict : ∃ kvs, H d = some (.dK kvs) ∧ PAt K (stH H q d) kvs ps
  wait : H q = some (.lst (wsV ws))
theorem BfsAt.ne {H : Hp} {q d : Addr} {ps : RG.Pm} {ws : List Nat} (x : BfsAt K q d H ps ws) : q ≠ d := fun z => by
  obtain ⟨kvs, h, _⟩ := x.dict
  have := x.wait
  rw [z, h] at this
  cases this
theorem BfsAt.mono {H H' : Hp} {q d : Addr} {ps : RG.Pm} {ws : List Nat} (x : BfsAt K q d H ps ws) (s : Same H H') : BfsAt K q d H' ps ws := by
  obtain ⟨kvs, h, p⟩ := x.dict
  exact ⟨⟨kvs, s _ _ h, p.mono (stH_mono s)⟩, s _ _ x.wait⟩
theorem ne_pair (a b c e : Nat) : oNe (.tuple [.int (a : Int), .int (b : Int)]) (.tuple [.int (c : Int), .int (e : Int)]) = some (.bool (!decide ((a, b) = (c, e)))) := by
  have sh : ∀ x y : Int, SeqAt.shaped (.tuple [.int x, .int y]) = true := fun x y => by
    unfold SeqAt.shaped
    simp [PyData.canLay0, PyData.canLayAll0, PyData.depth, PyData.depthAll]
  unfold oNe
  rw [sh, sh]
  simp [PyData.eqv, PyData.eqvAll]
  rw [beq_nat, beq_nat]
theorem fn_path_round {f : Addr} {fd : FuncData} (F : Fun K "path_round" "path_round" s_path_round f fd) (m_len : mg "len" = none) (d_crossing_lines : Df P w K mg base 1 "crossing_lines" ["grid", "base", "line"] F_crossing_lines) : FnOk P w K mg base CX0 2 f fd ["grid", "base", "place"] (spQ K) := by
  refine F.ok (k := 1) sc_path_round (fun vs H Q E h => by obtain ⟨M, hh, ww, b, r, c, vg, vp, rfl, _⟩ := h; rfl) (fun cdv A outer s H vs Q E hr h => ?_)
  obtain ⟨M, hh, ww, b, r, c, vg, vp, rfl, rg, rp, x, z, hb, hsm, hrr, hcc, hl, q⟩ := h
  refine ⟨_, pss_cons (ps_set (i := 3) sc_path_round.nd rfl (Or.inl rfl) (Pu.un (pu_ix (pu_var 2) pu_int)))
    (pss_cons (ps_set (i := 4) sc_path_round.nd rfl (Or.inl rfl) (Pu.un (pu_add (pu_callB cd_len rfl m_len bb_len (pua_cons (pu_var 0) pua_nil)) (pu_ix (pu_var 2) pu_int))))
    (pss_cons (ps_set (i := 5) sc_path_round.nd rfl (Or.inl rfl) (pe_disp (pps_cons (pv 3) (pe_lst (pa_cons (pv 3) pa_nil)) pps_nil) rfl rfl (by simp) (by decide)))
    (pss_cons (ps_set (i := 6) sc_path_round.nd rfl (Or.inl rfl) (pe_lst (pa_cons (pv 3) pa_nil)))
    (pss_cons (ps_while PassesOwn.never (pt_cmp (pc_dnotin (hu_of hr) (pv 4) (pv 5)))
      (pss_cons (ps_set (i := 7) sc_path_round.nd rfl (Or.inl rfl) (pe_bm PySem.F.plainAttrs_list PySem.F.slot_list_pop PySem.F.type_list_pop mt_popAt (pv 6) (pa_cons pe_int pa_nil)))
      (pss_one (ps_for PassesOwn.never rfl (pi_list (PE.frame (Pu.un (pu_callD d_crossing_lines (hr.mono (by decide)) rfl (pua_cons (pu_var 0) (pua_cons (pu_var 1) (pua_cons (pu_var 7) pua_nil))) (fun _ _ h => aLen (es := [(eVar 0), (eVar 1), (eVar 7)]) h))))) (pg_name (i := 8) sc_path_round.nd rfl (Or.inl rfl))
        (pss_one (ps_if (PW.pt (pw_and (pt_cmp (pc_dnotin (hu_of hr) (pv 8) (pv 5))) (pw_and1 (PuT.un (put_cmp (cd_ne hr.units) (pu_tup (pua_cons (pu_var 7) (pua_cons (pu_var 8) pua_nil))) (pu_tup (pua_cons (pu_var 3) (pua_cons (pu_var 4) pua_nil))) (nomark _))))))
          (pss_cons (ps_dput (hu_of hr) (pv 5) (pv 8) (pe_op op_catL (pe_dget (hu_of hr) (pv 5) (pv 7) (fun _ _ => rfl)) (pe_lst (pa_cons (pv 8) pa_nil))) rfl)
          (pss_one (ps_expr (pe_bm PySem.F.plainAttrs_list PySem.F.slot_list_append PySem.F.type_list_append mt_append (pv 6) (pa_cons (pv 8) pa_nil))))) pss_nil))))))
    (pss_one (ps_ret (pe_dget (hu_of hr) (pv 5) (pv 4) (fun _ _ => rfl)))))))), ?_⟩
  refine ⟨[none, none, some (.tuple [.int ((r : Nat) : Int), .int ((c : Nat) : Int)]), none, none, none, none, none, none], .int ((r : Nat) : Int), RepSt.c0 (RepSt.c0 (RepSt.c1 rp (RepSt.c0 (RepSt.c0 (RepSt.c0 (RepSt.c0 (RepSt.c0 (RepSt.c0 RepSt.e0)))))))), ix_tup (l := [.int ((r : Nat) : Int), .int ((c : Nat) : Int)]) (i := 0) rfl rfl rfl, fun v1 H1 s1 r1 => ?_⟩
  have z1 := rep_int r1
  subst z1
  refine ⟨[some (encG M), none, some (.tuple [.int ((r : Nat) : Int), .int ((c : Nat) : Int)]), none, none, none, none, none, none], .int ((hh + c : Nat) : Int), RepSt.c1 (rg.mono s1) (RepSt.c0 (RepSt.c1 (rp.mono s1) (RepSt.c0 (RepSt.c0 (RepSt.c0 (RepSt.c0 (RepSt.c0 (RepSt.c0 RepSt.e0)))))))), ?_, fun v2 H2 s2 r2 => ?_⟩
  · rw [eOp_of (len_lst (l := M.map encL) rfl) (ix_tup (l := [.int ((r : Nat) : Int), .int ((c : Nat) : Int)]) (i := 1) rfl rfl rfl) (add_of _ _), List.length_map, x.tall]
    exact congrArg (fun z => some (PyData.int z)) (by omega)
  have z2 := rep_int r2
  subst z2
  have s12 := s1.trans s2
  have h1s : (1 : Nat) ≤ sizeLine := by decide
  refine fun d hd => ⟨.int ((r : Nat) : Int), rfl, .int ((r : Nat) : Int), rfl, h1s, fun p1 hp1 => ?_⟩
  have hdp : d ≠ p1 := fun e => by rw [e, upd_same] at hp1; cases hp1
  have hp1n : H2 p1 = none := by rw [upd_ne (Ne.symm hdp)] at hp1; exact hp1
  refine ⟨by rw [upd_ne hdp]; exact upd_same, [(Sum.inl ((r : Nat) : Int), .ref p1)], rfl, by simp, ?_⟩
  refine ⟨.int ((r : Nat) : Int), rfl, h1s, fun qq hq => ?_⟩
  have hqd : qq ≠ d := fun e => by rw [e, upd_same] at hq; cases hq
  rw [upd_ne hqd] at hq
  have hqp : qq ≠ p1 := fun e => by rw [e, upd_same] at hq; cases hq
  rw [upd_ne hqp, upd_ne hqd] at hq
  have B0 : BfsAt K qq d (upd (upd (upd (upd H2 d (.dK [])) p1 (.lst [.int ((r : Nat) : Int)])) d (.dK [(Sum.inl ((r : Nat) : Int), .ref p1)])) qq (.lst [.int ((r : Nat) : Int)])) [(r, [r])] [r] := by
    refine ⟨⟨[(Sum.inl ((r : Nat) : Int), .ref p1)], by rw [upd_ne (Ne.symm hqd)]; exact upd_same, PAt.cons ?_ PAt.nil⟩, upd_same⟩
    exact Rep.ofLst (SqL.of (xs := [.int ((r : Nat) : Int)]) (by rw [stH_at (Ne.symm hqp) (Ne.symm hdp), upd_ne (Ne.symm hqp), upd_ne (Ne.symm hdp)]; exact upd_same)) (Reps.cons (Rep.ofInt _) Reps.nil)
  have S0 : Same H (stH (upd (upd (upd (upd H2 d (.dK [])) p1 (.lst [.int ((r : Nat) : Int)])) d (.dK [(Sum.inl ((r : Nat) : Int), .ref p1)])) qq (.lst [.int ((r : Nat) : Int)])) qq d) := fun e o he => by
    have h2 := s12 _ _ he
    have e1 : e ≠ d := fun z => by rw [z, hd] at h2; cases h2
    have e2 : e ≠ p1 := fun z => by rw [z, hp1n] at h2; cases h2
    have e3 : e ≠ qq := fun z => by rw [z, hq] at h2; cases h2
    rw [stH_at e3 e1, upd_ne e3, upd_ne e1, upd_ne e2, upd_ne e1]
    exact h2
  have hg0 : hh + c ≠ r := by omega
  refine ⟨fun m σ2 H3 => ∃ ps ws a7 a8, σ2 = [some vg, some (.int b), some vp, some (.int ((r : Nat) : Int)), some (.int ((hh + c : Nat) : Int)), some (.ref d), some (.ref qq), a7, a8] ∧ BfsAt K qq d H3 ps ws ∧ RG.Wide2 (RG.Adj hh ww b (RG.gAt M)) (hh + ww) r (hh + c) ps ws ∧ 2 * (hh + ww - ps.length) + ws.length < m ∧ 2 * (hh + ww - ps.length) + ws.length ≤ 200 ∧ RG.bfsP M b r (hh + c) m ps ws = RG.pathL M b r c ∧ Same H (stH H3 qq d),
    ⟨2 * (hh + ww) + 5, [(r, [r])], [r], none, none, rfl, B0, RG.wide_start (by omega) hg0, by simp; omega, by simp; omega, ?_, S0⟩, ?_⟩
  · unfold RG.pathL
    rw [x.tall, (x.row (i := 0) (by omega)).1]
  rintro m σ2 H3 ⟨ps, ws, a7, a8, rfl, B3, W3, hm, hbd, hfin, s3⟩
  obtain ⟨kvs, hdk, pat⟩ := B3.dict
  have hnq := B3.ne
  refine ⟨.int ((hh + c : Nat) : Int), rfl, .ref d, rfl, d, _, rfl, DGet.k (k := Sum.inl ((hh + c : Nat) : Int)) hdk, _, rfl, ?_⟩
  cases m with
  | zero => omega
  | succ m =>
    by_cases hgk : hh + c ∈ RG.keysP ps
    · obtain ⟨v, hv, rv⟩ := pat.get hgk
      rw [hv, if_neg (by simp)]
      refine ⟨.ref d, rfl, .int ((hh + c : Nat) : Int), rfl, d, v, rfl, by rw [← hv]; exact DGet.k (k := Sum.inl ((hh + c : Nat) : Int)) hdk, ?_⟩
      have hf : RG.bfsP M b r (hh + c) (m + 1) ps ws = RG.pathP ps (hh + c) := by unfold RG.bfsP; rw [if_pos hgk]
      rw [hf] at hfin
      rw [← hfin] at q
      exact q v H3 (s3.trans stH_same) (rv.mono stH_same)
    · rw [pat.no hgk, if_pos (show (!(none : Option V).isSome) = true from rfl)]
      cases ws with
      | nil => exact absurd (RG.wide_more x z hrr hcc hl W3) hgk
      | cons l ws =>
        obtain ⟨W4, hm4⟩ := RG.wide_turn x W3
        have hlk := W3.sub l List.mem_cons_self
        have hll := W3.pa.lt l hlk
        have hf : RG.bfsP M b r (hh + c) (m + 1) ps (l :: ws) = RG.bfsP M b r (hh + c) m ((RG.cross M b l).foldl (RG.seeP r (hh + c) l) (ps, ws)).1 ((RG.cross M b l).foldl (RG.seeP r (hh + c) l) (ps, ws)).2 := by
          show (if hh + c ∈ RG.keysP ps then _ else _) = _
          rw [if_neg hgk]
        rw [hf] at hfin
        refine ⟨fun σ' H' => ∃ ps2 ws2 a8, σ' = [some vg, some (.int b), some vp, some (.int ((r : Nat) : Int)), some (.int ((hh + c : Nat) : Int)), some (.ref d), some (.ref qq), some (.int ((l : Nat) : Int)), a8] ∧ (RG.cross M b l).foldl (RG.seeP r (hh + c) l) (ps, ws) = (ps2, ws2) ∧ BfsAt K qq d H' ps2 ws2 ∧ Same H (stH H' qq d), ?_, ?_⟩
        · rintro σ' H' ⟨ps2, ws2, a8, e1, e2, e3, e4⟩
          rw [e2] at W4 hm4 hfin
          exact ⟨m, Nat.lt_succ_self m, ps2, ws2, _, a8, e1, e3, W4, by dsimp only at hm4; omega, by dsimp only at hm4; omega, hfin, e4⟩
        have hwt := B3.wait
        refine ⟨.ref qq, rfl, .inl ⟨rfl, _, SqL.of hwt⟩, qq, wsV (l :: ws), 0, 0, .int ((l : Nat) : Int), rfl, rfl, hwt, by decide, by decide, ?_, rfl, ?_⟩
        · show seqIndex? 0 (wsV (l :: ws)).length = some 0
          have : (wsV (l :: ws)).length = ws.length + 1 := by unfold wsV; rw [List.length_map, List.length_cons]
          rw [this]
          unfold seqIndex?
          simp
        refine ⟨qq, wsV ws, upd_same, ?_⟩
        have hrq : rm (upd H3 qq (.lst ((wsV (l :: ws)).eraseIdx 0))) qq = rm H3 qq := rm_upd2
        rw [hrq]
        have rgq : Rep K (rm H3 qq) (encG M) vg := (rg.mono s3).mono (same_rm (rm H3 qq) d)
        refine ⟨[some (encG M), some (.int b), none, none, none, none, none, some (.int ((l : Nat) : Int)), none], encN (RG.cross M b l), RepSt.c1 rgq (RepSt.c1 (Rep.ofInt b) (RepSt.c0 (RepSt.c0 (RepSt.c0 (RepSt.c0 (RepSt.c0 (RepSt.c1 (Rep.ofInt _) (RepSt.c0 RepSt.e0)))))))), eCall_of (aCons_of rfl (aCons_of rfl (aCons_of rfl rfl))) (v_crossing_lines x hb hll hsm), fun v5 H5 s5 r5 hn5 => ?_⟩
        obtain ⟨aL, xsL, rfl, sqL5, rps5⟩ := rep_lst r5
        have hd5 : H5 d = some (.dK kvs) := s5 _ _ (by rw [rm_ne (Ne.symm hnq)]; exact hdk)
        have st6 : stH (upd H5 qq (.lst (wsV ws))) qq d = rm H5 d := by unfold stH; rw [rm_upd hn5]
        have sq6 : SqL K (stH (upd H5 qq (.lst (wsV ws))) qq d) aL xsL := by rw [st6]; exact sqL_rmD hd5 sqL5
        have B6 : BfsAt K qq d (upd H5 qq (.lst (wsV ws))) ps ws := ⟨⟨kvs, by rw [upd_ne (Ne.symm hnq)]; exact hd5, by rw [st6]; exact pat.mono (same_rm_rm s5 d)⟩, upd_same⟩
        have s6 : Same H (stH (upd H5 qq (.lst (wsV ws))) qq d) := by rw [st6]; exact s3.trans (same_rm_rm s5 d)
        have hxl : xsL.length = (RG.cross M b l).length := by rw [rps5.length, List.length_map]
        refine ⟨aL, rfl, ⟨xsL, stH_same.seq sq6⟩, for_list (xs := xsL) (fun i σ7 H7 => ∃ ps2 ws2 a8, σ7 = [some vg, some (.int b), some vp, some (.int ((r : Nat) : Int)), some (.int ((hh + c : Nat) : Int)), some (.ref d), some (.ref qq), some (.int ((l : Nat) : Int)), a8] ∧ ((RG.cross M b l).take i).foldl (RG.seeP r (hh + c) l) (ps, ws) = (ps2, ws2) ∧ BfsAt K qq d H7 ps2 ws2 ∧ RG.Paths (RG.Adj hh ww b (RG.gAt M)) (hh + ww) r (hh + c) ps2 ∧ l ∈ RG.keysP ps2 ∧ 2 * (hh + ww - ps2.length) + ws2.length ≤ 200 ∧ Same (stH (upd H5 qq (.lst (wsV ws))) qq d) (stH H7 qq d))
          ⟨ps, ws, _, rfl, rfl, B6, W3.pa, hlk, by rw [List.length_cons] at hbd; omega, Same.refl _⟩ (fun i σ7 H7 _ ⟨_, _, _, _, _, _, _, _, _, s7⟩ => stH_same.seq (s7.seq sq6)) ?_ ?_⟩
        · rintro i v σ7 H7 hx ⟨ps2, ws2, a8, rfl, hfold, B7, P7, hl7, hb7, s7⟩
          have hi : i < (RG.cross M b l).length := by rw [← hxl]; exact (List.getElem?_eq_some_iff.mp hx).1
          obtain ⟨dd, e1, rd⟩ := rps5.get hx
          rw [List.getElem?_map, List.getElem?_eq_getElem hi] at e1
          cases e1
          have zv := rep_int rd
          subst zv
          have hmA : RG.Adj hh ww b (RG.gAt M) l (RG.cross M b l)[i] := (RG.mem_cross x hll).mp (List.getElem_mem hi)
          have htk : (RG.cross M b l).take (i + 1) = (RG.cross M b l).take i ++ [(RG.cross M b l)[i]] := by rw [List.take_succ, List.getElem?_eq_getElem hi]; rfl
          generalize (RG.cross M b l)[i] = mm at hmA htk
          have hstep : ((RG.cross M b l).take (i + 1)).foldl (RG.seeP r (hh + c) l) (ps, ws) = RG.seeP r (hh + c) l (ps2, ws2) mm := by rw [htk, List.foldl_append, hfold]; rfl
          obtain ⟨kv2, hd2, pat2⟩ := B7.dict
          refine ⟨.int ((mm : Nat) : Int), rfl, .ref d, rfl, d, _, rfl, DGet.k (k := Sum.inl ((mm : Nat) : Int)) hd2, _, rfl, ?_⟩
          by_cases hmk : mm ∈ RG.keysP ps2
          · obtain ⟨v', hv', _⟩ := pat2.get hmk
            rw [hv']
            refine (if_neg (show ¬ (!(some v').isSome) = true by simp) : _ = _).mpr ?_
            refine (if_neg (by decide) : _ = _).mpr ?_
            refine ⟨ps2, ws2, _, rfl, ?_, B7, P7, hl7, hb7, s7⟩
            rw [hstep]
            unfold RG.seeP
            rw [if_neg (fun z => z.1 hmk)]
          · rw [pat2.no hmk]
            refine (if_pos (show (!(none : Option V).isSome) = true from rfl) : _ = _).mpr ?_
            have en : cB (eOp oNe (eTup (aCons (eVar 7) (aCons (eVar 8) aNil))) (eTup (aCons (eVar 3) (aCons (eVar 4) aNil)))) [none, none, none, some (.int ((r : Nat) : Int)), some (.int ((hh + c : Nat) : Int)), none, none, some (.int ((l : Nat) : Int)), some (.int ((mm : Nat) : Int))] = some (!decide ((l, mm) = (r, hh + c))) := cB_of (eOp_of (eTup_of (aCons_of rfl (aCons_of rfl rfl)) (by simp)) (eTup_of (aCons_of rfl (aCons_of rfl rfl)) (by simp)) (ne_pair _ _ _ _))
            refine ⟨_, _, RepSt.c0 (RepSt.c0 (RepSt.c0 (RepSt.c1 (Rep.ofInt _) (RepSt.c1 (Rep.ofInt _) (RepSt.c0 (RepSt.c0 (RepSt.c1 (Rep.ofInt _) (RepSt.c1 (Rep.ofInt _) RepSt.e0)))))))), en, fun H8 s8 => ?_⟩
            have B8 := B7.mono s8
            have s78 : Same (stH (upd H5 qq (.lst (wsV ws))) qq d) (stH H8 qq d) := s7.trans (stH_mono s8)
            by_cases hpr : (l, mm) = (r, hh + c)
            · rw [decide_eq_true hpr]
              refine (if_neg (by decide) : _ = _).mpr ?_
              refine ⟨ps2, ws2, _, rfl, ?_, B8, P7, hl7, hb7, s78⟩
              rw [hstep]
              unfold RG.seeP
              rw [if_neg (fun z => z.2 hpr)]
            · rw [decide_eq_false hpr]
              refine (if_pos (show (!false) = true from rfl) : _ = _).mpr ?_
              obtain ⟨kv3, hd3, pat3⟩ := B8.dict
              obtain ⟨vl, hvl, rvl⟩ := pat3.get hl7
              obtain ⟨al, xl, rfl, sql, rpl⟩ := rep_lst rvl
              have hlt : mm < hh + ww := hmA.symm.lt
              have P9 := P7.more hl7 hmk hmA hlt hpr
              have hplen : (RG.keysP (ps2 ++ [(mm, RG.pathP ps2 l ++ [mm])])).length ≤ hh + ww := RG.nodup_le P9.nd P9.lt
              have hklen : (RG.keysP (ps2 ++ [(mm, RG.pathP ps2 l ++ [mm])])).length = ps2.length + 1 := by unfold RG.keysP; rw [List.length_map, List.length_append, List.length_singleton]
              obtain ⟨h0, _, _, hnd, _, hin, _⟩ := P7.ok l _ (RG.lookup_mem hl7)
              have hxll : xl.length ≤ hh + ww := by
                rw [rpl.length, List.length_map]
                exact RG.nodup_le hnd fun y hy => P7.lt y (hin y hy)
              have hsz : (1000 : Nat) < sizeLine := by decide
              refine ⟨.ref d, rfl, .int ((l : Nat) : Int), rfl, d, .ref al, rfl, by rw [← hvl]; exact DGet.k (k := Sum.inl ((l : Nat) : Int)) hd3, .int ((mm : Nat) : Int), rfl, h1s, fun p3 hp3 => ?_⟩
              refine ⟨al, p3, xl, [.int ((mm : Nat) : Int)], rfl, rfl, (same_upd hp3 _).seq (stH_same.seq sql), SqL.of upd_same, by rw [List.length_singleton]; omega, fun p4 hp4 => ?_⟩
              have n34 : p4 ≠ p3 := fun e => by rw [e, upd_same] at hp4; cases hp4
              rw [upd_ne n34] at hp4
              have hq3 := B8.wait
              have d3 : d ≠ p3 := fun e => by rw [e, hp3] at hd3; cases hd3
              have d4 : d ≠ p4 := fun e => by rw [e, hp4] at hd3; cases hd3
              have q3 : qq ≠ p3 := fun e => by rw [e, hp3] at hq3; cases hq3
              have q4 : qq ≠ p4 := fun e => by rw [e, hp4] at hq3; cases hq3
              refine ⟨.ref d, rfl, .int ((mm : Nat) : Int), rfl, d, _, rfl, DPut.k (k := Sum.inl ((mm : Nat) : Int)) (by rw [upd_ne d4, upd_ne d3]; exact hd3) (by rw [pat3.len]; omega), ?_⟩
              rw [pat3.put hmk]
              have hwsl : ws2.length ≤ 1000 := by omega
              refine ⟨.ref qq, rfl, .inl ⟨rfl, wsV ws2, SqL.of (by rw [upd_ne hnq, upd_ne q4, upd_ne q3]; exact hq3)⟩, .int ((mm : Nat) : Int), rfl, qq, wsV ws2, .int ((mm : Nat) : Int), rfl, rfl, by rw [upd_ne hnq, upd_ne q4, upd_ne q3]; exact hq3, by unfold wsV; rw [List.length_map]; omega, ?_⟩
              have sst : Same (stH H8 qq d) (stH (upd (upd (upd (upd H8 p3 (.lst [.int ((mm : Nat) : Int)])) p4 (.lst (xl ++ [.int ((mm : Nat) : Int)]))) d (.dK (kv3 ++ [(Sum.inl ((mm : Nat) : Int), .ref p4)]))) qq (.lst (wsV ws2 ++ [.int ((mm : Nat) : Int)]))) qq d) := fun e o he => by
                obtain ⟨e1, e2, e3⟩ := stH_some he
                have e4 : e ≠ p3 := fun z => by rw [z, hp3] at e3; cases e3
                have e5 : e ≠ p4 := fun z => by rw [z, hp4] at e3; cases e3
                rw [stH_at e1 e2, upd_ne e1, upd_ne e2, upd_ne e5, upd_ne e4]
                exact e3
              refine ⟨ps2 ++ [(mm, RG.pathP ps2 l ++ [mm])], ws2 ++ [mm], _, rfl, ?_, ⟨⟨_, by rw [upd_ne (Ne.symm hnq)]; exact upd_same, PAt.snoc (pat3.mono sst) ?_⟩, ?_⟩, P9, ?_, by rw [List.length_append, List.length_append, List.length_singleton, List.length_singleton]; omega, s78.trans sst⟩
              · rw [hstep]
                unfold RG.seeP
                rw [if_pos ⟨hmk, hpr⟩]
              · show Rep K _ (.list ((RG.pathP ps2 l ++ [mm]).map fun (m : Nat) => PyData.int (m : Int))) _
                rw [List.map_append]
                exact Rep.ofLst (SqL.of (by rw [stH_at (Ne.symm q4) (Ne.symm d4), upd_ne (Ne.symm q4), upd_ne (Ne.symm d4)]; exact upd_same)) (Reps.append (rpl.mono sst) (Reps.cons (Rep.ofInt _) Reps.nil))
              · have : wsV (ws2 ++ [mm]) = wsV ws2 ++ [.int ((mm : Nat) : Int)] := by unfold wsV; rw [List.map_append]; rfl
                rw [this]
                exact upd_same
              · rw [RG.keys_app]; exact List.mem_append_left _ hl7
        · rintro σ7 H7 ⟨ps2, ws2, a8, rfl, hfold, B7, P7, hl7, hb7, s7⟩
          rw [hxl, List.take_length] at hfold
          exact ⟨ps2, ws2, a8, rfl, hfold, B7, s6.trans s7⟩
theorem ok_path_round {f : Addr} {fd : FuncData} (F : Fun K "path_round" "path_round" s_path_round f fd) (hb : Binds K fd ["grid", "base", "place"] []) (hm : mg "path_round" = some (.ref f)) (m_len : mg "len" = none) (d_crossing_lines : Df P w K mg base 1 "crossing_lines" ["grid", "base", "line"] F_crossing_lines) : DfS P w K mg base 2 "path_round" ["grid", "base", "place"] (spQ K) :=
  ⟨f, fd, fn_path_round F m_len d_crossing_lines, hb, F.kp, hm⟩
abbrev s_settle_place : Stmt := top 21
theorem sc_settle_place : FnScope ["grid", "base", "place", "rises", "path", "ring"] ["grid", "base", "place", "rises"] (defScope s_settle_place) := ⟨rfl, rfl, rfl, by decide +kernel, rfl, by decide +kernel, by decide +kernel⟩
def spL (K : PySem.W.Frag) : Sp := fun vs H Q _ => ∃ g rs M h w b r c up G0 vp, vs = [.ref g, .int b, vp, .bl up] ∧ GridAt H g rs M ∧ RG.Sett h w b G0 M ∧ 0 < b ∧ r < h ∧ c < w ∧ Rep K H (.tuple [.int ((r : Nat) : Int), .int ((c : Nat) : Int)]) vp ∧ ∀ H', GridAt H' g rs (RG.placeL b r c up (RG.turns M) M) → Same (rmG H g rs) (rmG H' g rs) → Q .non H'
theorem tup_apart {H : Hp} {g : Addr} {rs : List Addr} {M : List (List Int)} {x y : Int} {v : V} (kd : KD K H) (G : GridAt H g rs M) (h : Rep K H (.tuple [.int x, .int y]) v) : Rep K (rmG H g rs) (.tuple [.int x, .int y]) v := by
  obtain ⟨t, ts, rfl, st, rts⟩ := rep_tup h
  obtain ⟨a, b, rfl, ra, rb⟩ := reps2 rts
  have ht : t ∉ g :: rs := fun z => by
    rcases List.mem_cons.mp z with e | e
    · subst e; exact kd _ _ _ st G.top
    · obtain ⟨i, hi, ei⟩ := List.mem_iff_getElem.mp e
      have hm : i < M.length := by rw [← G.len]; exact hi
      exact kd _ _ _ st (by rw [← ei]; exact G.row i _ _ (List.getElem?_eq_getElem hi) (List.getElem?_eq_getElem hm))
  refine Rep.ofTup ?_ (Reps.cons (flat_rep rfl ra) (Reps.cons (flat_rep rfl rb) Reps.nil))
  rcases st with (st | ⟨o, st⟩) | st
  · exact .inl (.inl (by rw [rmG_out ht]; exact st))
  · exact .inl (.inr ⟨o, by rw [rmG_out ht]; exact st⟩)
  · exact .inr st
theorem cut_end {α : Type} (l : List α) : cutD l (some (-1)) none = l.drop (l.length - 1) := by
  unfold cutD
  have e1 : HT.sIx l.length 0 (some (-1)) = l.length - 1 := by
    show (if (-1 : Int) < 0 then ((-1 : Int) + (l.length : Int)).toNat else min ((-1 : Int)).toNat l.length) = _
    rw [if_pos (by decide)]
    omega
  have e2 : HT.sIx l.length l.length none = l.length := rfl
  rw [e1, e2]
  exact List.take_of_length_le (by rw [List.length_drop]; omega)
theorem ring_len2 {h w : Nat} {b : Int} {G : Nat → Nat → Int} {r : List Nat} (R : RG.Ring (RG.Adj h w b G) r) : r.length ≤ h + w := by
  refine RG.nodup_le R.nd fun l hl => ?_
  obtain ⟨i, hi, e⟩ := List.mem_iff_getElem.mp hl
  rw [← e]
  exact (R.adj i hi).lt
theorem e_ring {up : Bool} {p : List Nat} {a0 a1 a2 a5 : Option D} (hp : p.length ≤ 1000) : eIf (cT (eVar 3)) (eOp oAdd (eSl (eVar 4) (oSome (eUn oNeg (eC (.int 1)))) oNone) (eSl (eVar 4) oNone (oSome (eUn oNeg (eC (.int 1)))))) (eVar 4) [a0, a1, a2, some (.bool up), some (encN p), a5] = some (encN (RG.ringU up p)) := by
  cases up with
  | false =>
    rw [eIf_f (cT_bool rfl)]
    rfl
  | true =>
    rw [eIf_t (cT_bool rfl)]
    have e1 : eSl (eVar 4) (oSome (eUn oNeg (eC (.int 1)))) oNone [a0, a1, a2, some (.bool true), some (encN p), a5] = some (.list ((p.drop (p.length - 1)).map fun (m : Nat) => PyData.int (m : Int))) := by
      show some (PyData.list (cutD (p.map fun (m : Nat) => PyData.int (m : Int)) (some (-1)) none)) = _
      rw [cut_end, List.length_map, List.map_drop]
    have e2 : eSl (eVar 4) oNone (oSome (eUn oNeg (eC (.int 1)))) [a0, a1, a2, some (.bool true), some (encN p), a5] = some (.list (p.dropLast.map fun (m : Nat) => PyData.int (m : Int))) := by
      show some (PyData.list (cutD (p.map fun (m : Nat) => PyData.int (m : Int)) none (some (-1)))) = _
      rw [cut_last, List.map_dropLast]
    rw [eOp_of e1 e2 (add_lst _ _ (by rw [List.length_map, List.length_map, List.length_drop, List.length_dropLast]; omega)), ← List.map_append]
    rfl
theorem fn_settle_place {f : Addr} {fd : FuncData} (F : Fun K "settle_place" "settle_place" s_settle_place f fd) (d_path_round : DfS P w K mg base 2 "path_round" ["grid", "base", "place"] (spQ K)) (d_shift_round : DfS P w K mg base 3 "shift_round" ["grid", "base", "ring"] (spS K)) : FnOk P w K mg base CX0 4 f fd ["grid", "base", "place", "rises"] (spL K) := by
  refine F.ok (k := 3) sc_settle_place (fun vs H Q E h => by obtain ⟨g, rs, M, hh, ww, b, r, c, up, G0, vp, rfl, _⟩ := h; rfl) (fun cdv A outer s H vs Q E hr h => ?_)
  obtain ⟨g, rs, M, hh, ww, b, r, c, up, G0, vp, rfl, G, S, hb, hrr, hcc, rp, q⟩ := h
  refine ⟨_, pss_one (ps_kd (ps_while PassesOwn.never (PuT.un (put_cmp (cd_ne hr.units) (pu_mod (pu_ix (pu_ix (pu_var 0) (pu_ix (pu_var 2) pu_int)) (pu_ix (pu_var 2) pu_int)) (pu_var 1)) pu_int (nomark _)))
    (pss_cons (ps_set (i := 4) sc_settle_place.nd rfl (Or.inl rfl) (pe_callS d_path_round (hr.mono (by decide)) rfl (pa_cons (pv 0) (pa_cons (pv 1) (pa_cons (pv 2) pa_nil)))))
    (pss_cons (ps_set (i := 5) sc_settle_place.nd rfl (Or.inl rfl) (Pu.un (pu_if (put_val (pu_var 3)) (pu_add (pu_slice (pu_var 4) (puo_some (pu_neg pu_int)) puo_none) (pu_slice (pu_var 4) puo_none (puo_some (pu_neg pu_int)))) (pu_var 4))))
    (pss_one (ps_expr (pe_callS d_shift_round (hr.mono (by decide)) rfl (pa_cons (pv 0) (pa_cons (pv 1) (pa_cons (pv 5) pa_nil)))))))))), ?_⟩
  intro kd
  have rp0 := tup_apart kd G rp
  refine ⟨fun m σ2 H2 => (∃ a4 a5, σ2 = [some (.ref g), some (.int b), some vp, some (.bl up), a4, a5]) ∧ ∃ M2, GridAt H2 g rs M2 ∧ RG.Sett hh ww b G0 M2 ∧ RG.cnt hh ww b (RG.gAt M2) < m ∧ RG.placeL b r c up m M2 = RG.placeL b r c up (RG.turns M) M ∧ Same (rmG H g rs) (rmG H2 g rs),
    ⟨RG.turns M, ⟨none, none, rfl⟩, M, G, S, RG.turns_ok S (by omega), rfl, Same.refl _⟩, ?_⟩
  rintro m σ2 H2 ⟨⟨a4, a5, rfl⟩, M2, G2, S2, hc, hfin, s2⟩
  have rp2 : Rep K H2 (.tuple [.int ((r : Nat) : Int), .int ((c : Nat) : Int)]) vp := (rp0.mono s2).mono same_rmG
  have rs2 : RepSt K H2 [some (encG M2), some (.int b), some (.tuple [.int ((r : Nat) : Int), .int ((c : Nat) : Int)]), none, none, none] [some (.ref g), some (.int b), some vp, some (.bl up), a4, a5] := RepSt.c1 G2.rep (RepSt.c1 (Rep.ofInt b) (RepSt.c1 rp2 (RepSt.c0 (RepSt.c0 (RepSt.c0 RepSt.e0)))))
  have et : cB (eOp oNe (eOp oMod (eOp oIx (eOp oIx (eVar 0) (eOp oIx (eVar 2) (eC (.int 0)))) (eOp oIx (eVar 2) (eC (.int 1)))) (eVar 1)) (eC (.int 0))) [some (encG M2), some (.int b), some (.tuple [.int ((r : Nat) : Int), .int ((c : Nat) : Int)]), none, none, none] = some (!(RG.gAt M2 r c % b == 0)) :=
    cB_of (eOp_of (eOp_of (ix_lst (l := (M2.getD r []).map PyData.int) (i := c) (ix_lst (l := M2.map encL) (i := r) rfl (ix_tup (l := [.int ((r : Nat) : Int), .int ((c : Nat) : Int)]) (i := 0) rfl rfl rfl) (get_rowL (by rw [S2.rect.tall]; exact hrr))) (ix_tup (l := [.int ((r : Nat) : Int), .int ((c : Nat) : Int)]) (i := 1) rfl rfl rfl) (get_intL (by rw [(S2.rect.row hrr).1]; exact hcc))) rfl (mod_of hb)) rfl (ne_int _ _))
  refine ⟨_, _, rs2, et, fun H3 s3 => ?_⟩
  cases m with
  | zero => omega
  | succ m =>
    by_cases he : RG.gAt M2 r c % b = 0
    · rw [he, if_neg (by decide)]
      have hf : RG.placeL b r c up (m + 1) M2 = M2 := by unfold RG.placeL; rw [if_pos he]
      rw [hf] at hfin
      rw [← hfin] at q
      exact q H3 (G2.mono s3) (s2.trans (rmG_mono s3))
    · have hne : (!(RG.gAt M2 r c % b == 0)) = true := by rw [beq_eq_false_iff_ne.mpr he]; rfl
      rw [if_pos hne]
      obtain ⟨R, S3, lt, _⟩ := RG.place_shift (up := up) hb S2 hrr hcc he
      have hf : RG.placeL b r c up (m + 1) M2 = RG.placeL b r c up m (RG.shiftL M2 b (RG.ringU up (RG.pathL M2 b r c))) := by
        show (if RG.gAt M2 r c % b = 0 then M2 else _) = _
        rw [if_neg he]
      rw [hf] at hfin
      refine ⟨fun σ' H' => (∃ a4 a5, σ' = [some (.ref g), some (.int b), some vp, some (.bl up), a4, a5]) ∧ GridAt H' g rs (RG.shiftL M2 b (RG.ringU up (RG.pathL M2 b r c))) ∧ Same (rmG H g rs) (rmG H' g rs), fun σ' H' ⟨e1, e2, e3⟩ => ⟨m, Nat.lt_succ_self m, e1, _, e2, S3, by omega, hfin, e3⟩, ?_⟩
      have hsm := S2.small
      have P0 := RG.path_ok S2.rect S2.fit.zero hrr hcc he
      have hpl := ring_len2 P0.ring
      have hrl := ring_len2 R
      refine ⟨.ref g, rfl, .int b, rfl, vp, rfl, M2, hh, ww, b, r, c, .ref g, vp, rfl, (G2.mono s3).rep, rp2.mono s3, S2.rect, S2.fit.zero, hb, S2.small, hrr, hcc, he, fun v4 H4 s4 r4 => ?_⟩
      refine ⟨[none, none, none, some (.bool up), some (encN (RG.pathL M2 b r c)), none], _, RepSt.c0 (RepSt.c0 (RepSt.c0 (RepSt.c1 (Rep.ofBool up) (RepSt.c1 r4 (RepSt.c0 RepSt.e0))))), e_ring (by omega), fun v5 H5 s5 r5 => ?_⟩
      have s35 := (s3.trans s4).trans s5
      refine ⟨.ref g, rfl, .int b, rfl, v5, rfl, g, rs, M2, hh, ww, b, _, v5, rfl, G2.mono s35, S2.rect, hb, R, by omega, hsm, r5, fun H6 G6 s6 => ⟨⟨_, _, rfl⟩, G6, s2.trans ((rmG_mono s35).trans s6)⟩⟩
theorem ok_settle_place {f : Addr} {fd : FuncData} (F : Fun K "settle_place" "settle_place" s_settle_place f fd) (hb : Binds K fd ["grid", "base", "place", "rises"] []) (hm : mg "settle_place" = some (.ref f)) (d_path_round : DfS P w K mg base 2 "path_round" ["grid", "base", "place"] (spQ K)) (d_shift_round : DfS P w K mg base 3 "shift_round" ["grid", "base", "ring"] (spS K)) : DfS P w K mg base 4 "settle_place" ["grid", "base", "place", "rises"] (spL K) :=
  ⟨f, fd, fn_settle_place F d_path_round d_shift_round, hb, F.kp, hm⟩
abbrev s_fair_where : Stmt := top 22
theorem sc_fair_where : FnScope ["table", "base", "kind", "at", "upward", "grid"] ["table", "base", "kind", "at", "upward"] (defScope s_fair_where) := ⟨rfl, rfl, rfl, by decide +kernel, rfl, by decide +kernel, by decide +kernel⟩
theorem fn_fair_where {f : Addr} {fd : FuncData} (F : Fun K "fair_where" "fair_where" s_fair_where f fd) (m_abs : mg "abs" = none) (d_must_rise : Df P w K mg base 1 "must_rise" ["base", "kind", "upward"] F_must_rise) (d_settle_place : DfS P w K mg base 4 "settle_place" ["grid", "base", "place", "rises"] (spL K)) (d_settled : DfS P w K mg base 5 "settled" ["grid", "base"] (spD K)) (d_widened : DfS P w K mg base 3 "widened" ["table"] (spW K)) (d_widened_place : Df P w K mg base 1 "widened_place" ["grid", "kind", "at"] F_widened_place) : FnOk P w K mg base CX0 6 f fd ["table", "base", "kind", "at", "upward"] (spP K 5 F_fair_where) := by
  refine F.ok (k := 5) sc_fair_where (spP_len rfl) (fun cdv A outer s H vs Q E hr h => ?_)
  obtain ⟨ds, d, h1, h2, h3, h4⟩ := h
  obtain ⟨t, wd, b, kd, a, up, r, c, fl, ⟨x, ⟨hb, hb2⟩, sp⟩, rfl, rfl⟩ := fair_where_some h3
  obtain ⟨vt, us, rfl, rt, h2⟩ := h2.uncons
  obtain ⟨vb, us, rfl, rb, h2⟩ := h2.uncons
  obtain ⟨vk, us, rfl, rk, h2⟩ := h2.uncons
  obtain ⟨va, vu, rfl, ra, ru⟩ := reps2 h2
  have zb := rep_int rb
  have zk := rep_str rk
  have zu := rep_bool ru
  subst zb zk zu
  refine ⟨_, pss_cons (ps_set (i := 5) sc_fair_where.nd rfl (Or.inl rfl) (pe_callS d_widened (hr.mono (by decide)) rfl (pa_cons (pv 0) pa_nil)))
    (pss_cons (ps_expr (pe_callS d_settle_place (hr.mono (by decide)) rfl (pa_cons (pv 5) (pa_cons (Pu.un (pu_callB cd_abs rfl m_abs bb_abs (pua_cons (pu_var 1) pua_nil))) (pa_cons (Pu.un (pu_callD d_widened_place (hr.mono (by decide)) rfl (pua_cons (pu_var 5) (pua_cons (pu_var 2) (pua_cons (pu_var 3) pua_nil))) (fun _ _ h => aLen (es := [(eVar 5), (eVar 2), (eVar 3)]) h)))
      (pa_cons (Pu.un (pu_callD d_must_rise (hr.mono (by decide)) rfl (pua_cons (pu_var 1) (pua_cons (pu_var 2) (pua_cons (pu_var 4) pua_nil))) (fun _ _ h => aLen (es := [(eVar 1), (eVar 2), (eVar 4)]) h))) pa_nil))))))
    (pss_one (ps_ret (pe_callS d_settled (hr.mono (by decide)) rfl (pa_cons (pv 5) (pa_cons (pv 1) pa_nil)))))), ?_⟩
  refine ⟨vt, rfl, t, wd, vt, rfl, x, rt, fun g rs H1 s1 fresh G1 => ?_⟩
  have S0 := wide_sett x hb
  have s01 : Same H (rmG H1 g rs) := fun e o hc => by
    have hn : e ∉ g :: rs := fun z => by rw [fresh e z] at hc; cases hc
    rw [rmG_out hn]
    exact s1 _ _ hc
  refine ⟨.ref g, rfl, [none, some (.int b), none, none, none, none], .int b, RepSt.c0 (RepSt.c1 (Rep.ofInt b) (RepSt.c0 (RepSt.c0 (RepSt.c0 (RepSt.c0 RepSt.e0))))), ?_, fun v2 H2 s2 r2 => ?_⟩
  · show some (PyData.int (if b < 0 then -b else b)) = _
    rw [if_neg (by omega)]
  have z2 := rep_int r2
  subst z2
  have G2 := G1.mono s2
  refine ⟨[none, none, some (.str kd), some a, none, some (encG (wideG t wd))], _, RepSt.c0 (RepSt.c0 (RepSt.c1 (flat_rep rfl rk) (RepSt.c1 (ra.mono (s1.trans s2)) (RepSt.c0 (RepSt.c1 G2.rep RepSt.e0))))), eCall_of (aCons_of rfl (aCons_of rfl (aCons_of rfl rfl))) (v_widened_place (wide_rect x) sp), fun v3 H3 s3 r3 => ?_⟩
  refine ⟨[none, some (.int b), some (.str kd), none, some (.bool up), none], _, RepSt.c0 (RepSt.c1 (Rep.ofInt b) (RepSt.c1 (flat_rep rfl rk) (RepSt.c0 (RepSt.c1 (Rep.ofBool up) (RepSt.c0 RepSt.e0))))), eCall_of (aCons_of rfl (aCons_of rfl (aCons_of rfl rfl))) (v_must_rise hb sp), fun v4 H4 s4 r4 => ?_⟩
  have z4 := rep_bool r4
  subst z4
  have s24 := (s2.trans s3).trans s4
  have G4 := G1.mono s24
  refine ⟨g, rs, _, t.length + 1, wd + 1, b, r, c, _, _, v3, rfl, G4, S0, hb, sp.lt.1, sp.lt.2, r3.mono s4, fun H5 G5 s5 => ?_⟩
  obtain ⟨S1, _⟩ := RG.place_ok (up := (up ^^ fl)) hb sp.lt.1 sp.lt.2 (RG.turns (wideG t wd)) (wideG t wd) S0 (RG.turns_ok S0 (by omega))
  refine ⟨.ref g, rfl, .int b, rfl, g, rs, _, t.length, wd, b, _, rfl, G5, S1, hb, hb2, x.wide.2, fun v6 H6 s6 r6 => h4 v6 H6 ?_ r6⟩
  exact ((s01.trans (rmG_mono s24)).trans s5).trans s6
theorem ok_fair_where {f : Addr} {fd : FuncData} (F : Fun K "fair_where" "fair_where" s_fair_where f fd) (hb : Binds K fd ["table", "base", "kind", "at", "upward"] []) (hm : mg "fair_where" = some (.ref f)) (m_abs : mg "abs" = none) (d_must_rise : Df P w K mg base 1 "must_rise" ["base", "kind", "upward"] F_must_rise) (d_settle_place : DfS P w K mg base 4 "settle_place" ["grid", "base", "place", "rises"] (spL K)) (d_settled : DfS P w K mg base 5 "settled" ["grid", "base"] (spD K)) (d_widened : DfS P w K mg base 3 "widened" ["table"] (spW K)) (d_widened_place : Df P w K mg base 1 "widened_place" ["grid", "kind", "at"] F_widened_place) : Df P w K mg base 6 "fair_where" ["table", "base", "kind", "at", "upward"] F_fair_where :=
  ⟨f, fd, fn_fair_where F m_abs d_must_rise d_settle_place d_settled d_widened d_widened_place, hb, F.kp, hm⟩
abbrev s_Lcell_at : Stmt := top 24
theorem sc_Lcell_at : FnScope ["_law_script", "_law_k"] ["_law_script", "_law_k"] (defScope s_Lcell_at) := ⟨rfl, rfl, rfl, by decide +kernel, rfl, by decide +kernel, by decide +kernel⟩
theorem fn_Lcell_at {f : Addr} {fd : FuncData} (F : Fun K "_law_cell_at" "_law_cell_at" s_Lcell_at f fd) (m_len : mg "len" = none) : FnOk P w K mg base CX0 1 f fd ["_law_script", "_law_k"] (spP K 2 F_Lcell_at) := by
  refine fn_plain (k := 0) F sc_Lcell_at (fun cdv A outer s H E hr => ?_)
  exact (puss_cons (pus_if (put_cmp cd_lt (pu_var 1) (pu_callB cd_len rfl m_len bb_len (pua_cons (pu_var 0) pua_nil)) (nomark _)) (puss_one (pus_ret (pu_ix (pu_var 0) (pu_var 1)))) puss_nil)
    (puss_one (pus_ret pu_int)))
theorem ok_Lcell_at {f : Addr} {fd : FuncData} (F : Fun K "_law_cell_at" "_law_cell_at" s_Lcell_at f fd) (hb : Binds K fd ["_law_script", "_law_k"] []) (hm : mg "_law_cell_at" = some (.ref f)) (m_len : mg "len" = none) : Df P w K mg base 1 "_law_cell_at" ["_law_script", "_law_k"] F_Lcell_at :=
  ⟨f, fd, fn_Lcell_at F m_len, hb, F.kp, hm⟩
abbrev s_Lmixed : Stmt := top 25
theorem sc_Lmixed : FnScope ["_law_script", "_law_k", "_law_drawn_here"] ["_law_script", "_law_k"] (defScope s_Lmixed) := ⟨rfl, rfl, rfl, by decide +kernel, rfl, by decide +kernel, by decide +kernel⟩
theorem fn_Lmixed {f : Addr} {fd : FuncData} (F : Fun K "_law_mixed" "_law_mixed" s_Lmixed f fd) (d_Lcell_at : Df P w K mg base 1 "_law_cell_at" ["_law_script", "_law_k"] F_Lcell_at) : FnOk P w K mg base CX0 2 f fd ["_law_script", "_law_k"] (spP K 2 F_Lmixed) := by
  refine fn_plain (k := 1) F sc_Lmixed (fun cdv A outer s H E hr => ?_)
  exact (puss_cons (pus_set (i := 2) sc_Lmixed.nd (pu_mod (pu_mul (pu_add (pu_add (pu_callD d_Lcell_at (hr.mono (by decide)) rfl (pua_cons (pu_var 0) (pua_cons (pu_var 1) pua_nil)) (fun _ _ h => aLen (es := [(eVar 0), (eVar 1)]) h)) (pu_mul pu_int (pu_var 1))) pu_int) pu_int) pu_int))
    (puss_one (pus_ret (pu_mod (pu_add (pu_add (pu_mul (pu_var 2) (pu_var 2)) (pu_mul pu_int (pu_var 2))) (pu_var 1)) pu_int))))
theorem ok_Lmixed {f : Addr} {fd : FuncData} (F : Fun K "_law_mixed" "_law_mixed" s_Lmixed f fd) (hb : Binds K fd ["_law_script", "_law_k"] []) (hm : mg "_law_mixed" = some (.ref f)) (d_Lcell_at : Df P w K mg base 1 "_law_cell_at" ["_law_script", "_law_k"] F_Lcell_at) : Df P w K mg base 2 "_law_mixed" ["_law_script", "_law_k"] F_Lmixed :=
  ⟨f, fd, fn_Lmixed F d_Lcell_at, hb, F.kp, hm⟩
abbrev s_Ldrawn : Stmt := top 26
theorem sc_Ldrawn : FnScope ["_law_number", "_law_k", "_law_drawn_here"] ["_law_number", "_law_k"] (defScope s_Ldrawn) := ⟨rfl, rfl, rfl, by decide +kernel, rfl, by decide +kernel, by decide +kernel⟩
theorem fn_Ldrawn {f : Addr} {fd : FuncData} (F : Fun K "_law_drawn" "_law_drawn" s_Ldrawn f fd)  : FnOk P w K mg base CX0 1 f fd ["_law_number", "_law_k"] (spP K 2 F_Ldrawn) := by
  refine fn_plain (k := 0) F sc_Ldrawn (fun cdv A outer s H E hr => ?_)
  exact (puss_cons (pus_set (i := 2) sc_Ldrawn.nd (pu_mod (pu_mul (pu_add (pu_add (pu_var 0) (pu_mul pu_int (pu_var 1))) pu_int) pu_int) pu_int))
    (puss_one (pus_ret (pu_mod (pu_add (pu_add (pu_mul (pu_var 2) (pu_var 2)) (pu_mul pu_int (pu_var 2))) (pu_var 1)) pu_int))))
theorem ok_Ldrawn {f : Addr} {fd : FuncData} (F : Fun K "_law_drawn" "_law_drawn" s_Ldrawn f fd) (hb : Binds K fd ["_law_number", "_law_k"] []) (hm : mg "_law_drawn" = some (.ref f))  : Df P w K mg base 1 "_law_drawn" ["_law_number", "_law_k"] F_Ldrawn :=
  ⟨f, fd, fn_Ldrawn F , hb, F.kp, hm⟩
abbrev s_Ltable : Stmt := top 27
theorem sc_Ltable : FnScope ["_law_number", "_law_wide", "_law_tall", "_law_high", "_law_rows", "_law_at", "_law_drawn_here"] ["_law_number"] (defScope s_Ltable) := ⟨rfl, rfl, rfl, by decide +kernel, rfl, by decide +kernel, by decide +kernel⟩
theorem fn_Ltable {f : Addr} {fd : FuncData} (F : Fun K "_law_table" "_law_table" s_Ltable f fd) (m_range : mg "range" = none) (m_tuple : mg "tuple" = none) (d_Ldrawn : Df P w K mg base 1 "_law_drawn" ["_law_number", "_law_k"] F_Ldrawn) : FnOk P w K mg base CX0 2 f fd ["_law_number"] (spP K 1 F_Ltable) := by
  refine fn_plain (k := 1) F sc_Ltable (fun cdv A outer s H E hr => ?_)
  exact (puss_cons (pus_set (i := 1) sc_Ltable.nd (pu_add pu_int (pu_mod (pu_var 0) pu_int)))
    (puss_cons (pus_set (i := 2) sc_Ltable.nd (pu_add pu_int (pu_mod (pu_div (pu_var 0) pu_int) pu_int)))
    (puss_cons (pus_set (i := 3) sc_Ltable.nd (pu_ix (pu_tup (pua_cons pu_int (pua_cons pu_int (pua_cons pu_int (pua_cons pu_int pua_nil))))) (pu_mod (pu_div (pu_var 0) pu_int) pu_int)))
    (puss_openC (o := 4) sc_Ltable.nd pua_nil (oss_cons (os_for PassesOwn.never rfl (pui_rng1 rfl m_range (pua_cons (pu_var 2) pua_nil)) (td_name 5) (by decide) (pg_name (i := 5) sc_Ltable.nd rfl (by first | exact Or.inl rfl | exact Or.inr rfl)) (oss_cons (os_lift (pus_set (i := 6) sc_Ltable.nd (pu_callD d_Ldrawn (hr.mono (by decide)) rfl (pua_cons (pu_var 0) (pua_cons (pu_var 5) pua_nil)) (fun _ _ h => aLen (es := [(eVar 0), (eVar 5)]) h))) (leaves_set (by decide)))
    (oss_one (os_app (o := 4) (pu_callTy cd_tuple rfl m_tuple bb_tuple (pua_cons (pu_lc (N := ["_law_place", "_law_drawn_here", "_law_high"]) (sel := [none, some 6, some 3]) (XS := ((defScope s_Ltable).names)) ⟨rfl, by decide +kernel, by decide +kernel, by decide +kernel, by decide +kernel, rfl, by dsimp only [lcCx, cxOf, Cx.nox]; decide +kernel⟩ rfl rfl (pui_rng1 rfl m_range (pua_cons (pu_var 1) pua_nil)) (td_name 0) (by decide) (fun _ _ _ _ => (pg_name (i := 0) (by dsimp only [lcCx, cxOf, Cx.nox]; decide +kernel) rfl (by first | exact Or.inl rfl | exact Or.inr rfl))) (fun _ _ _ _ => puif_nil) (fun _ _ _ _ => (pu_mod (pu_div (pu_callD d_Ldrawn (hr.mono (by decide)) rfl (pua_cons (pu_var 1) (pua_cons (pu_var 0) pua_nil)) (fun _ _ h => aLen (es := [(eVar 1), (eVar 0)]) h)) pu_int) (pu_var 2)))) pua_nil))))) (gN_leaves (by decide)))
    (oss_close (puss_one (pus_ret (pu_callTy cd_tuple rfl m_tuple bb_tuple (pua_cons (pu_var 4) pua_nil))))))))))
theorem ok_Ltable {f : Addr} {fd : FuncData} (F : Fun K "_law_table" "_law_table" s_Ltable f fd) (hb : Binds K fd ["_law_number"] []) (hm : mg "_law_table" = some (.ref f)) (m_range : mg "range" = none) (m_tuple : mg "tuple" = none) (d_Ldrawn : Df P w K mg base 1 "_law_drawn" ["_law_number", "_law_k"] F_Ldrawn) : Df P w K mg base 2 "_law_table" ["_law_number"] F_Ltable :=
  ⟨f, fd, fn_Ltable F m_range m_tuple d_Ldrawn, hb, F.kp, hm⟩
abbrev s_Lbase : Stmt := top 28
theorem sc_Lbase : FnScope ["_law_number"] ["_law_number"] (defScope s_Lbase) := ⟨rfl, rfl, rfl, by decide +kernel, rfl, by decide +kernel, by decide +kernel⟩
theorem fn_Lbase {f : Addr} {fd : FuncData} (F : Fun K "_law_base" "_law_base" s_Lbase f fd)  : FnOk P w K mg base CX0 1 f fd ["_law_number"] (spP K 1 F_Lbase) := by
  refine fn_plain (k := 0) F sc_Lbase (fun cdv A outer s H E hr => ?_)
  exact (puss_one (pus_ret (pu_ix (pu_tup (pua_cons pu_int (pua_cons pu_int (pua_cons pu_int (pua_cons pu_int (pua_cons pu_int (pua_cons (pu_add pu_int (pu_mod (pu_div (pu_var 0) pu_int) pu_int)) pua_nil))))))) (pu_mod (pu_var 0) pu_int))))
theorem ok_Lbase {f : Addr} {fd : FuncData} (F : Fun K "_law_base" "_law_base" s_Lbase f fd) (hb : Binds K fd ["_law_number"] []) (hm : mg "_law_base" = some (.ref f))  : Df P w K mg base 1 "_law_base" ["_law_number"] F_Lbase :=
  ⟨f, fd, fn_Lbase F , hb, F.kp, hm⟩
abbrev s_Lsums : Stmt := top 29
theorem sc_Lsums : FnScope ["_law_table_here", "_law_rows", "_law_pillars"] ["_law_table_here"] (defScope s_Lsums) := ⟨rfl, rfl, rfl, by decide +kernel, rfl, by decide +kernel, by decide +kernel⟩
theorem fn_Lsums {f : Addr} {fd : FuncData} (F : Fun K "_law_sums" "_law_sums" s_Lsums f fd) (m_len : mg "len" = none) (m_range : mg "range" = none) (m_sum : mg "sum" = none) (m_tuple : mg "tuple" = none) : FnOk P w K mg base CX0 1 f fd ["_law_table_here"] (spP K 1 F_Lsums) := by
  refine fn_plain (k := 0) F sc_Lsums (fun cdv A outer s H E hr => ?_)
  exact (puss_cons (pus_setLc (i := 1) (N := ["_law_row"]) (sel := [none]) (XS := ((defScope s_Lsums).names)) ⟨rfl, by decide +kernel, by decide +kernel, by decide +kernel, by decide +kernel, rfl, by dsimp only [lcCx, cxOf, Cx.nox]; decide +kernel⟩ rfl rfl sc_Lsums.nd (pui_seq (pu_var 0)) (td_name 0) (by decide) (fun _ _ _ _ => (pg_name (i := 0) (by dsimp only [lcCx, cxOf, Cx.nox]; decide +kernel) rfl (by first | exact Or.inl rfl | exact Or.inr rfl))) (fun _ _ _ _ => puif_nil) (fun _ _ _ _ => (pu_callB (cd_sum rfl) rfl m_sum bb_sum (pua_cons (pu_var 0) pua_nil))))
    (puss_cons (pus_setLc (i := 2) (N := ["_law_at", "_law_table_here"]) (sel := [none, some 0]) (XS := ((defScope s_Lsums).names)) ⟨rfl, by decide +kernel, by decide +kernel, by decide +kernel, by decide +kernel, rfl, by dsimp only [lcCx, cxOf, Cx.nox]; decide +kernel⟩ rfl rfl sc_Lsums.nd (pui_rng1 rfl m_range (pua_cons (pu_callB cd_len rfl m_len bb_len (pua_cons (pu_ix (pu_var 0) pu_int) pua_nil)) pua_nil)) (td_name 0) (by decide) (fun _ _ _ _ => (pg_name (i := 0) (by dsimp only [lcCx, cxOf, Cx.nox]; decide +kernel) rfl (by first | exact Or.inl rfl | exact Or.inr rfl))) (fun _ _ _ _ => puif_nil) (fun _ _ _ _ => (pu_callB (cd_sum rfl) rfl m_sum bb_sum (pua_cons (pu_lc (N := ["_law_row", "_law_at"]) (sel := [none, some 0]) (XS := ({ kind := .function, names := (relN (defScope s_Lsums) _), isGenerator := false, isCoroutine := false : Scope }).names) ⟨rfl, by decide +kernel, by decide +kernel, by decide +kernel, by decide +kernel, rfl, by dsimp only [lcCx, cxOf, Cx.nox]; decide +kernel⟩ rfl rfl (pui_seq (pu_var 1)) (td_name 0) (by decide) (fun _ _ _ _ => (pg_name (i := 0) (by dsimp only [lcCx, cxOf, Cx.nox]; decide +kernel) rfl (by first | exact Or.inl rfl | exact Or.inr rfl))) (fun _ _ _ _ => puif_nil) (fun _ _ _ _ => (pu_ix (pu_var 0) (pu_var 1)))) pua_nil))))
    (puss_one (pus_ret (pu_tup (pua_cons (pu_callTy cd_tuple rfl m_tuple bb_tuple (pua_cons (pu_var 1) pua_nil)) (pua_cons (pu_callTy cd_tuple rfl m_tuple bb_tuple (pua_cons (pu_var 2) pua_nil)) (pua_cons (pu_callB (cd_sum rfl) rfl m_sum bb_sum (pua_cons (pu_var 1) pua_nil)) pua_nil))))))))
theorem ok_Lsums {f : Addr} {fd : FuncData} (F : Fun K "_law_sums" "_law_sums" s_Lsums f fd) (hb : Binds K fd ["_law_table_here"] []) (hm : mg "_law_sums" = some (.ref f)) (m_len : mg "len" = none) (m_range : mg "range" = none) (m_sum : mg "sum" = none) (m_tuple : mg "tuple" = none) : Df P w K mg base 1 "_law_sums" ["_law_table_here"] F_Lsums :=
  ⟨f, fd, fn_Lsums F m_len m_range m_sum m_tuple, hb, F.kp, hm⟩
abbrev s_Lrounded : Stmt := top 30
theorem sc_Lrounded : FnScope ["_law_count", "_law_base_here", "_law_number"] ["_law_count", "_law_base_here", "_law_number"] (defScope s_Lrounded) := ⟨rfl, rfl, rfl, by decide +kernel, rfl, by decide +kernel, by decide +kernel⟩
theorem fn_Lrounded {f : Addr} {fd : FuncData} (F : Fun K "_law_rounded" "_law_rounded" s_Lrounded f fd) (m_abs : mg "abs" = none) (m_bool : mg "bool" = none) (m_int : mg "int" = none) (m_isinstance : mg "isinstance" = none) (kt_bool : KitT K "bool") (kt_int : KitT K "int") : FnOk P w K mg base CX0 1 f fd ["_law_count", "_law_base_here", "_law_number"] (spP K 3 F_Lrounded) := by
  refine fn_plain (k := 0) F sc_Lrounded (fun cdv A outer s H E hr => ?_)
  exact (puss_one (pus_ret (pu_and (pu_isinst (T := "int") kt_int (pu_var 2) rfl m_isinstance bb_isinstance rfl m_int bb_int) (pu_and (pu_not (pu_isinst (T := "bool") kt_bool (pu_var 2) rfl m_isinstance bb_isinstance rfl m_bool bb_bool)) (pu_one (pu_cmp cd_lt (pu_callB cd_abs rfl m_abs bb_abs (pua_cons (pu_sub (pu_mul (pu_var 2) (pu_var 1)) (pu_var 0)) pua_nil)) (pu_var 1) (nomark _)))))))
theorem ok_Lrounded {f : Addr} {fd : FuncData} (F : Fun K "_law_rounded" "_law_rounded" s_Lrounded f fd) (hb : Binds K fd ["_law_count", "_law_base_here", "_law_number"] []) (hm : mg "_law_rounded" = some (.ref f)) (m_abs : mg "abs" = none) (m_bool : mg "bool" = none) (m_int : mg "int" = none) (m_isinstance : mg "isinstance" = none) (kt_bool : KitT K "bool") (kt_int : KitT K "int") : Df P w K mg base 1 "_law_rounded" ["_law_count", "_law_base_here", "_law_number"] F_Lrounded :=
  ⟨f, fd, fn_Lrounded F m_abs m_bool m_int m_isinstance kt_bool kt_int, hb, F.kp, hm⟩
abbrev s_Lis_fair : Stmt := top 31
theorem sc_Lis_fair : FnScope ["_law_table_here", "_law_base_here", "_law_thing", "_law_counts", "_law_row", "_law_due", "_law_here"] ["_law_table_here", "_law_base_here", "_law_thing"] (defScope s_Lis_fair) := ⟨rfl, rfl, rfl, by decide +kernel, rfl, by decide +kernel, by decide +kernel⟩
theorem fn_Lis_fair {f : Addr} {fd : FuncData} (F : Fun K "_law_is_fair" "_law_is_fair" s_Lis_fair f fd) (m_isinstance : mg "isinstance" = none) (m_len : mg "len" = none) (m_range : mg "range" = none) (m_tuple : mg "tuple" = none) (m_zip : mg "zip" = none) (d_Lrounded : Df P w K mg base 1 "_law_rounded" ["_law_count", "_law_base_here", "_law_number"] F_Lrounded) (d_Lsums : Df P w K mg base 1 "_law_sums" ["_law_table_here"] F_Lsums) (kt_tuple : KitT K "tuple") : FnOk P w K mg base CX0 2 f fd ["_law_table_here", "_law_base_here", "_law_thing"] (spP K 3 F_Lis_fair) := by
  refine fn_plain (k := 1) F sc_Lis_fair (fun cdv A outer s H E hr => ?_)
  exact (puss_cons (pus_if (put_w (puw_or (put_not (put_val (pu_isinst (T := "tuple") kt_tuple (pu_var 2) rfl m_isinstance bb_isinstance rfl m_tuple bb_tuple))) (puw_or1 (put_cmp (cd_ne hr.units) (pu_callB cd_len rfl m_len bb_len (pua_cons (pu_var 2) pua_nil)) (pu_callB cd_len rfl m_len bb_len (pua_cons (pu_var 0) pua_nil)) (nomark _))))) (puss_one (pus_ret pu_bl)) puss_nil)
    (puss_cons (pus_for PassesOwn.never rfl (pui_zip rfl m_zip rfl (pu_var 0) (pu_var 2)) (td_pair 3 4) (pg_tup rfl (pgs_cons (pg_name (i := 3) sc_Lis_fair.nd rfl (by first | exact Or.inl rfl | exact Or.inr rfl)) (pgs_cons (pg_name (i := 4) sc_Lis_fair.nd rfl (by first | exact Or.inl rfl | exact Or.inr rfl)) pgs_nil))) (puss_cons (pus_if (put_w (puw_or (put_not (put_val (pu_isinst (T := "tuple") kt_tuple (pu_var 4) rfl m_isinstance bb_isinstance rfl m_tuple bb_tuple))) (puw_or1 (put_cmp (cd_ne hr.units) (pu_callB cd_len rfl m_len bb_len (pua_cons (pu_var 4) pua_nil)) (pu_callB cd_len rfl m_len bb_len (pua_cons (pu_var 3) pua_nil)) (nomark _))))) (puss_one (pus_ret pu_bl)) puss_nil)
    (puss_one (pus_if (put_cmp (cd_ne hr.units) (pu_lc (N := ["_law_at", "_law_counts", "_law_base_here", "_law_row"]) (sel := [none, some 3, some 1, some 4]) (XS := ((defScope s_Lis_fair).names)) ⟨rfl, by decide +kernel, by decide +kernel, by decide +kernel, by decide +kernel, rfl, by dsimp only [lcCx, cxOf, Cx.nox]; decide +kernel⟩ rfl rfl (pui_rng1 rfl m_range (pua_cons (pu_callB cd_len rfl m_len bb_len (pua_cons (pu_var 4) pua_nil)) pua_nil)) (td_name 0) (by decide) (fun _ _ _ _ => (pg_name (i := 0) (by dsimp only [lcCx, cxOf, Cx.nox]; decide +kernel) rfl (by first | exact Or.inl rfl | exact Or.inr rfl))) (fun _ _ _ _ => (puif_one (put_not (put_val (pu_callD d_Lrounded (hr.mono (by decide)) rfl (pua_cons (pu_ix (pu_var 1) (pu_var 0)) (pua_cons (pu_var 2) (pua_cons (pu_ix (pu_var 3) (pu_var 0)) pua_nil))) (fun _ _ h => aLen (es := [(eOp oIx (eVar 1) (eVar 0)), (eVar 2), (eOp oIx (eVar 3) (eVar 0))]) h)))))) (fun _ _ _ _ => (pu_var 0))) (pu_lst pua_nil) (nomark _)) (puss_one (pus_ret pu_bl)) puss_nil))))
    (puss_cons (pus_set (i := 5) sc_Lis_fair.nd (pu_callD d_Lsums (hr.mono (by decide)) rfl (pua_cons (pu_var 0) pua_nil) (fun _ _ h => aLen (es := [(eVar 0)]) h)))
    (puss_cons (pus_set (i := 6) sc_Lis_fair.nd (pu_callD d_Lsums (hr.mono (by decide)) rfl (pua_cons (pu_var 2) pua_nil) (fun _ _ h => aLen (es := [(eVar 2)]) h)))
    (puss_cons (pus_for PassesOwn.never rfl (pui_seq (pu_tup (pua_cons (pu_tup (pua_cons (pu_ix (pu_var 5) pu_int) (pua_cons (pu_ix (pu_var 6) pu_int) pua_nil))) (pua_cons (pu_tup (pua_cons (pu_ix (pu_var 5) pu_int) (pua_cons (pu_ix (pu_var 6) pu_int) pua_nil))) (pua_cons (pu_tup (pua_cons (pu_tup (pua_cons (pu_ix (pu_var 5) pu_int) pua_nil)) (pua_cons (pu_tup (pua_cons (pu_ix (pu_var 6) pu_int) pua_nil)) pua_nil))) pua_nil))))) (td_pair 3 4) (pg_tup rfl (pgs_cons (pg_name (i := 3) sc_Lis_fair.nd rfl (by first | exact Or.inl rfl | exact Or.inr rfl)) (pgs_cons (pg_name (i := 4) sc_Lis_fair.nd rfl (by first | exact Or.inl rfl | exact Or.inr rfl)) pgs_nil))) (puss_one (pus_if (put_cmp (cd_ne hr.units) (pu_lc (N := ["_law_at", "_law_counts", "_law_base_here", "_law_row"]) (sel := [none, some 3, some 1, some 4]) (XS := ((defScope s_Lis_fair).names)) ⟨rfl, by decide +kernel, by decide +kernel, by decide +kernel, by decide +kernel, rfl, by dsimp only [lcCx, cxOf, Cx.nox]; decide +kernel⟩ rfl rfl (pui_rng1 rfl m_range (pua_cons (pu_callB cd_len rfl m_len bb_len (pua_cons (pu_var 4) pua_nil)) pua_nil)) (td_name 0) (by decide) (fun _ _ _ _ => (pg_name (i := 0) (by dsimp only [lcCx, cxOf, Cx.nox]; decide +kernel) rfl (by first | exact Or.inl rfl | exact Or.inr rfl))) (fun _ _ _ _ => (puif_one (put_not (put_val (pu_callD d_Lrounded (hr.mono (by decide)) rfl (pua_cons (pu_ix (pu_var 1) (pu_var 0)) (pua_cons (pu_var 2) (pua_cons (pu_ix (pu_var 3) (pu_var 0)) pua_nil))) (fun _ _ h => aLen (es := [(eOp oIx (eVar 1) (eVar 0)), (eVar 2), (eOp oIx (eVar 3) (eVar 0))]) h)))))) (fun _ _ _ _ => (pu_var 0))) (pu_lst pua_nil) (nomark _)) (puss_one (pus_ret pu_bl)) puss_nil)))
    (puss_one (pus_ret pu_bl)))))))
theorem ok_Lis_fair {f : Addr} {fd : FuncData} (F : Fun K "_law_is_fair" "_law_is_fair" s_Lis_fair f fd) (hb : Binds K fd ["_law_table_here", "_law_base_here", "_law_thing"] []) (hm : mg "_law_is_fair" = some (.ref f)) (m_isinstance : mg "isinstance" = none) (m_len : mg "len" = none) (m_range : mg "range" = none) (m_tuple : mg "tuple" = none) (m_zip : mg "zip" = none) (d_Lrounded : Df P w K mg base 1 "_law_rounded" ["_law_count", "_law_base_here", "_law_number"] F_Lrounded) (d_Lsums : Df P w K mg base 1 "_law_sums" ["_law_table_here"] F_Lsums) (kt_tuple : KitT K "tuple") : Df P w K mg base 2 "_law_is_fair" ["_law_table_here", "_law_base_here", "_law_thing"] F_Lis_fair :=
  ⟨f, fd, fn_Lis_fair F m_isinstance m_len m_range m_tuple m_zip d_Lrounded d_Lsums kt_tuple, hb, F.kp, hm⟩
abbrev s_Lpart : Stmt := top 32
theorem sc_Lpart : FnScope ["_law_table_here", "_law_kind", "_law_at", "_law_rows", "_law_pillars", "_law_whole"] ["_law_table_here", "_law_kind", "_law_at"] (defScope s_Lpart) := ⟨rfl, rfl, rfl, by decide +kernel, rfl, by decide +kernel, by decide +kernel⟩
theorem fn_Lpart {f : Addr} {fd : FuncData} (F : Fun K "_law_part" "_law_part" s_Lpart f fd) (m_int : mg "int" = none) (d_Lsums : Df P w K mg base 1 "_law_sums" ["_law_table_here"] F_Lsums) : FnOk P w K mg base CX0 2 f fd ["_law_table_here", "_law_kind", "_law_at"] (spP K 3 F_Lpart) := by
  refine fn_plain (k := 1) F sc_Lpart (fun cdv A outer s H E hr => ?_)
  exact (puss_cons (pus_asg (pu_callD d_Lsums (hr.mono (by decide)) rfl (pua_cons (pu_var 0) pua_nil) (fun _ _ h => aLen (es := [(eVar 0)]) h)) (td_trip 3 4 5) (pg_tup rfl (pgs_cons (pg_name (i := 3) sc_Lpart.nd rfl (by first | exact Or.inl rfl | exact Or.inr rfl)) (pgs_cons (pg_name (i := 4) sc_Lpart.nd rfl (by first | exact Or.inl rfl | exact Or.inr rfl)) (pgs_cons (pg_name (i := 5) sc_Lpart.nd rfl (by first | exact Or.inl rfl | exact Or.inr rfl)) pgs_nil)))))
    (puss_cons (pus_if (put_cmp (cd_eq hr.units) (pu_var 1) pu_str (nomark _)) (puss_one (pus_ret (pu_ix (pu_ix (pu_var 0) (pu_ix (pu_var 2) pu_int)) (pu_ix (pu_var 2) pu_int)))) puss_nil)
    (puss_one (pus_ret (pu_ix (pu_dsel (hu_of hr) (pud_cons pu_str (pu_var 3) (pud_cons pu_str (pu_var 4) (pud_cons pu_str (pu_tup (pua_cons (pu_var 5) pua_nil)) pud_nil))) (pu_var 1) (by decide) (by decide)) (pu_ix (pu_lst (pua_cons (pu_var 2) (pua_cons pu_int pua_nil))) (pu_callTy cd_int rfl m_int bb_int (pua_cons (pu_isN (pu_var 2)) pua_nil))))))))
theorem ok_Lpart {f : Addr} {fd : FuncData} (F : Fun K "_law_part" "_law_part" s_Lpart f fd) (hb : Binds K fd ["_law_table_here", "_law_kind", "_law_at"] []) (hm : mg "_law_part" = some (.ref f)) (m_int : mg "int" = none) (d_Lsums : Df P w K mg base 1 "_law_sums" ["_law_table_here"] F_Lsums) : Df P w K mg base 2 "_law_part" ["_law_table_here", "_law_kind", "_law_at"] F_Lpart :=
  ⟨f, fd, fn_Lpart F m_int d_Lsums, hb, F.kp, hm⟩
abbrev s_law : Stmt := top 33
theorem sc_law : FnScope ["_law_script", "_law_table_here", "_law_base_here", "_law_row", "_law_pillar", "_law_kind", "_law_at", "_law_count", "_law_upward", "_law_found", "_law_due"] ["_law_script"] (defScope s_law) := ⟨rfl, rfl, rfl, by decide +kernel, rfl, by decide +kernel, by decide +kernel⟩
theorem fn_law {f : Addr} {fd : FuncData} (F : Fun K "law" "law" s_law f fd) (m_len : mg "len" = none) (d_Lbase : Df P w K mg base 1 "_law_base" ["_law_number"] F_Lbase) (d_Lis_fair : Df P w K mg base 2 "_law_is_fair" ["_law_table_here", "_law_base_here", "_law_thing"] F_Lis_fair) (d_Lmixed : Df P w K mg base 2 "_law_mixed" ["_law_script", "_law_k"] F_Lmixed) (d_Lpart : Df P w K mg base 2 "_law_part" ["_law_table_here", "_law_kind", "_law_at"] F_Lpart) (d_Ltable : Df P w K mg base 2 "_law_table" ["_law_number"] F_Ltable) (d_fair_where : Df P w K mg base 6 "fair_where" ["table", "base", "kind", "at", "upward"] F_fair_where) : FnOk P w K mg base CX0 7 f fd ["_law_script"] (spP K 1 F_law) := by
  refine fn_plain (k := 6) F sc_law (fun cdv A outer s H E hr => ?_)
  exact (puss_cons (pus_set (i := 1) sc_law.nd (pu_callD d_Ltable (hr.mono (by decide)) rfl (pua_cons (pu_callD d_Lmixed (hr.mono (by decide)) rfl (pua_cons (pu_var 0) (pua_cons pu_int pua_nil)) (fun _ _ h => aLen (es := [(eVar 0), (eC (.int 0))]) h)) pua_nil) (fun _ _ h => aLen (es := [(eCall F_Lmixed (aCons (eVar 0) (aCons (eC (.int 0)) aNil)))]) h)))
    (puss_cons (pus_set (i := 2) sc_law.nd (pu_callD d_Lbase (hr.mono (by decide)) rfl (pua_cons (pu_callD d_Lmixed (hr.mono (by decide)) rfl (pua_cons (pu_var 0) (pua_cons pu_int pua_nil)) (fun _ _ h => aLen (es := [(eVar 0), (eC (.int 1))]) h)) pua_nil) (fun _ _ h => aLen (es := [(eCall F_Lmixed (aCons (eVar 0) (aCons (eC (.int 1)) aNil)))]) h)))
    (puss_cons (pus_set (i := 3) sc_law.nd (pu_mod (pu_callD d_Lmixed (hr.mono (by decide)) rfl (pua_cons (pu_var 0) (pua_cons pu_int pua_nil)) (fun _ _ h => aLen (es := [(eVar 0), (eC (.int 2))]) h)) (pu_callB cd_len rfl m_len bb_len (pua_cons (pu_var 1) pua_nil))))
    (puss_cons (pus_set (i := 4) sc_law.nd (pu_mod (pu_callD d_Lmixed (hr.mono (by decide)) rfl (pua_cons (pu_var 0) (pua_cons pu_int pua_nil)) (fun _ _ h => aLen (es := [(eVar 0), (eC (.int 3))]) h)) (pu_callB cd_len rfl m_len bb_len (pua_cons (pu_ix (pu_var 1) pu_int) pua_nil))))
    (puss_cons (pus_set (i := 5) sc_law.nd (pu_ix (pu_tup (pua_cons pu_str (pua_cons pu_str (pua_cons pu_str (pua_cons pu_str pua_nil))))) (pu_mod (pu_callD d_Lmixed (hr.mono (by decide)) rfl (pua_cons (pu_var 0) (pua_cons pu_int pua_nil)) (fun _ _ h => aLen (es := [(eVar 0), (eC (.int 4))]) h)) pu_int)))
    (puss_cons (pus_set (i := 6) sc_law.nd (pu_dsel (hu_of hr) (pud_cons pu_str (pu_tup (pua_cons (pu_var 3) (pua_cons (pu_var 4) pua_nil))) (pud_cons pu_str (pu_var 3) (pud_cons pu_str (pu_var 4) (pud_cons pu_str pu_non pud_nil)))) (pu_var 5) (by decide) (by decide)))
    (puss_cons (pus_set (i := 7) sc_law.nd (pu_callD d_Lpart (hr.mono (by decide)) rfl (pua_cons (pu_var 1) (pua_cons (pu_var 5) (pua_cons (pu_var 6) pua_nil))) (fun _ _ h => aLen (es := [(eVar 1), (eVar 5), (eVar 6)]) h)))
    (puss_cons (pus_for PassesOwn.never rfl (pui_seq (pu_tup (pua_cons pu_bl (pua_cons pu_bl pua_nil)))) (td_name 8) (pg_name (i := 8) sc_law.nd rfl (by first | exact Or.inl rfl | exact Or.inr rfl)) (puss_cons (pus_set (i := 9) sc_law.nd (pu_callD d_fair_where (hr.mono (by decide)) rfl (pua_cons (pu_var 1) (pua_cons (pu_var 2) (pua_cons (pu_var 5) (pua_cons (pu_var 6) (pua_cons (pu_var 8) pua_nil))))) (fun _ _ h => aLen (es := [(eVar 1), (eVar 2), (eVar 5), (eVar 6), (eVar 8)]) h)))
    (puss_cons (pus_if (put_not (put_val (pu_callD d_Lis_fair (hr.mono (by decide)) rfl (pua_cons (pu_var 1) (pua_cons (pu_var 2) (pua_cons (pu_var 9) pua_nil))) (fun _ _ h => aLen (es := [(eVar 1), (eVar 2), (eVar 9)]) h)))) (puss_one (pus_ret pu_bl)) puss_nil)
    (puss_cons (pus_set (i := 10) sc_law.nd (pu_div (pu_var 7) (pu_var 2)))
    (puss_cons (pus_if (put_val (pu_var 8)) (puss_one (pus_set (i := 10) sc_law.nd (pu_neg (pu_div (pu_neg (pu_var 7)) (pu_var 2))))) puss_nil)
    (puss_one (pus_if (put_cmp (cd_ne hr.units) (pu_callD d_Lpart (hr.mono (by decide)) rfl (pua_cons (pu_var 9) (pua_cons (pu_var 5) (pua_cons (pu_var 6) pua_nil))) (fun _ _ h => aLen (es := [(eVar 9), (eVar 5), (eVar 6)]) h)) (pu_var 10) (nomark _)) (puss_one (pus_ret pu_bl)) puss_nil)))))))
    (puss_one (pus_ret pu_bl))))))))))
theorem all_mk {l : PySem.W.OpenLaw} {w : World} {K : PySem.W.Frag} {h : Heap} {mg : Str → Option Value} {fa : Addr} (X : K.In h) (G : h.Ns mainGlobals mg) (hfa : mg "law" = some (.ref fa))
    {f0 : Addr} {od0 an0 : Option Addr} {sl0 : Array (Option Value)} {oc0 kV0 dc0 pm0 cd0 ct0 : Value}
    {f1 : Addr} {od1 an1 : Option Addr} {sl1 : Array (Option Value)} {oc1 kV1 dc1 pm1 cd1 ct1 : Value}
    {f2 : Addr} {od2 an2 : Option Addr} {sl2 : Array (Option Value)} {oc2 kV2 dc2 pm2 cd2 ct2 : Value}
    {f3 : Addr} {od3 an3 : Option Addr} {sl3 : Array (Option Value)} {oc3 kV3 dc3 pm3 cd3 ct3 : Value}
    {f4 : Addr} {od4 an4 : Option Addr} {sl4 : Array (Option Value)} {oc4 kV4 dc4 pm4 cd4 ct4 : Value}
    {f5 : Addr} {od5 an5 : Option Addr} {sl5 : Array (Option Value)} {oc5 kV5 dc5 pm5 cd5 ct5 : Value}
    {f6 : Addr} {od6 an6 : Option Addr} {sl6 : Array (Option Value)} {oc6 kV6 dc6 pm6 cd6 ct6 : Value}
    {f7 : Addr} {od7 an7 : Option Addr} {sl7 : Array (Option Value)} {oc7 kV7 dc7 pm7 cd7 ct7 : Value}
    {f8 : Addr} {od8 an8 : Option Addr} {sl8 : Array (Option Value)} {oc8 kV8 dc8 pm8 cd8 ct8 : Value}
    {f9 : Addr} {od9 an9 : Option Addr} {sl9 : Array (Option Value)} {oc9 kV9 dc9 pm9 cd9 ct9 : Value}
    {f10 : Addr} {od10 an10 : Option Addr} {sl10 : Array (Option Value)} {oc10 kV10 dc10 pm10 cd10 ct10 : Value}
    {f11 : Addr} {od11 an11 : Option Addr} {sl11 : Array (Option Value)} {oc11 kV11 dc11 pm11 cd11 ct11 : Value}
    {f12 : Addr} {od12 an12 : Option Addr} {sl12 : Array (Option Value)} {oc12 kV12 dc12 pm12 cd12 ct12 : Value}
    {f13 : Addr} {od13 an13 : Option Addr} {sl13 : Array (Option Value)} {oc13 kV13 dc13 pm13 cd13 ct13 : Value}
    {f14 : Addr} {od14 an14 : Option Addr} {sl14 : Array (Option Value)} {oc14 kV14 dc14 pm14 cd14 ct14 : Value}
    {f15 : Addr} {od15 an15 : Option Addr} {sl15 : Array (Option Value)} {oc15 kV15 dc15 pm15 cd15 ct15 : Value}
    {f16 : Addr} {od16 an16 : Option Addr} {sl16 : Array (Option Value)} {oc16 kV16 dc16 pm16 cd16 ct16 : Value}
    {f17 : Addr} {od17 an17 : Option Addr} {sl17 : Array (Option Value)} {oc17 kV17 dc17 pm17 cd17 ct17 : Value}
    {f18 : Addr} {od18 an18 : Option Addr} {sl18 : Array (Option Value)} {oc18 kV18 dc18 pm18 cd18 ct18 : Value}
    {f19 : Addr} {od19 an19 : Option Addr} {sl19 : Array (Option Value)} {oc19 kV19 dc19 pm19 cd19 ct19 : Value}
    {f20 : Addr} {od20 an20 : Option Addr} {sl20 : Array (Option Value)} {oc20 kV20 dc20 pm20 cd20 ct20 : Value}
    {f21 : Addr} {od21 an21 : Option Addr} {sl21 : Array (Option Value)} {oc21 kV21 dc21 pm21 cd21 ct21 : Value}
    {f22 : Addr} {od22 an22 : Option Addr} {sl22 : Array (Option Value)} {oc22 kV22 dc22 pm22 cd22 ct22 : Value}
    {f23 : Addr} {od23 an23 : Option Addr} {sl23 : Array (Option Value)} {oc23 kV23 dc23 pm23 cd23 ct23 : Value}
    {f24 : Addr} {od24 an24 : Option Addr} {sl24 : Array (Option Value)} {oc24 kV24 dc24 pm24 cd24 ct24 : Value}
    {f25 : Addr} {od25 an25 : Option Addr} {sl25 : Array (Option Value)} {oc25 kV25 dc25 pm25 cd25 ct25 : Value}
    {f26 : Addr} {od26 an26 : Option Addr} {sl26 : Array (Option Value)} {oc26 kV26 dc26 pm26 cd26 ct26 : Value}
    {f27 : Addr} {od27 an27 : Option Addr} {sl27 : Array (Option Value)} {oc27 kV27 dc27 pm27 cd27 ct27 : Value}
    {f28 : Addr} {od28 an28 : Option Addr} {sl28 : Array (Option Value)} {oc28 kV28 dc28 pm28 cd28 ct28 : Value}
    {f29 : Addr} {od29 an29 : Option Addr} {sl29 : Array (Option Value)} {oc29 kV29 dc29 pm29 cd29 ct29 : Value}
    (a0 : PySem.W.nsIn K mainGlobals "put_down" = some (some (.ref f0))) (l0 : K.lookup f0 = some ⟨oc0, od0, .func (PySem.W.fnOf "put_down" "put_down" (defArgs s_put_down) (defBody s_put_down) (defScope s_put_down) .none kV0 dc0 pm0 an0 cd0 ct0), sl0⟩) (c0 : PySem.W.codeIn K cd0 "put_down" = true) (k0 : PySem.W.keepIn K (.ref f0) = true)
    (a1 : PySem.W.nsIn K mainGlobals "row_down" = some (some (.ref f1))) (l1 : K.lookup f1 = some ⟨oc1, od1, .func (PySem.W.fnOf "row_down" "row_down" (defArgs s_row_down) (defBody s_row_down) (defScope s_row_down) .none kV1 dc1 pm1 an1 cd1 ct1), sl1⟩) (c1 : PySem.W.codeIn K cd1 "row_down" = true) (k1 : PySem.W.keepIn K (.ref f1) = true)
    (a2 : PySem.W.nsIn K mainGlobals "down" = some (some (.ref f2))) (l2 : K.lookup f2 = some ⟨oc2, od2, .func (PySem.W.fnOf "down" "down" (defArgs s_down) (defBody s_down) (defScope s_down) .none kV2 dc2 pm2 an2 cd2 ct2), sl2⟩) (c2 : PySem.W.codeIn K cd2 "down" = true) (k2 : PySem.W.keepIn K (.ref f2) = true)
    (a3 : PySem.W.nsIn K mainGlobals "pillar_sum" = some (some (.ref f3))) (l3 : K.lookup f3 = some ⟨oc3, od3, .func (PySem.W.fnOf "pillar_sum" "pillar_sum" (defArgs s_pillar_sum) (defBody s_pillar_sum) (defScope s_pillar_sum) .none kV3 dc3 pm3 an3 cd3 ct3), sl3⟩) (c3 : PySem.W.codeIn K cd3 "pillar_sum" = true) (k3 : PySem.W.keepIn K (.ref f3) = true)
    (a4 : PySem.W.nsIn K mainGlobals "sums" = some (some (.ref f4))) (l4 : K.lookup f4 = some ⟨oc4, od4, .func (PySem.W.fnOf "sums" "sums" (defArgs s_sums) (defBody s_sums) (defScope s_sums) .none kV4 dc4 pm4 an4 cd4 ct4), sl4⟩) (c4 : PySem.W.codeIn K cd4 "sums" = true) (k4 : PySem.W.keepIn K (.ref f4) = true)
    (a5 : PySem.W.nsIn K mainGlobals "widened" = some (some (.ref f5))) (l5 : K.lookup f5 = some ⟨oc5, od5, .func (PySem.W.fnOf "widened" "widened" (defArgs s_widened) (defBody s_widened) (defScope s_widened) .none kV5 dc5 pm5 an5 cd5 ct5), sl5⟩) (c5 : PySem.W.codeIn K cd5 "widened" = true) (k5 : PySem.W.keepIn K (.ref f5) = true)
    (a6 : PySem.W.nsIn K mainGlobals "crossing_lines" = some (some (.ref f6))) (l6 : K.lookup f6 = some ⟨oc6, od6, .func (PySem.W.fnOf "crossing_lines" "crossing_lines" (defArgs s_crossing_lines) (defBody s_crossing_lines) (defScope s_crossing_lines) .none kV6 dc6 pm6 an6 cd6 ct6), sl6⟩) (c6 : PySem.W.codeIn K cd6 "crossing_lines" = true) (k6 : PySem.W.keepIn K (.ref f6) = true)
    (a7 : PySem.W.nsIn K mainGlobals "ring_from" = some (some (.ref f7))) (l7 : K.lookup f7 = some ⟨oc7, od7, .func (PySem.W.fnOf "ring_from" "ring_from" (defArgs s_ring_from) (defBody s_ring_from) (defScope s_ring_from) .none kV7 dc7 pm7 an7 cd7 ct7), sl7⟩) (c7 : PySem.W.codeIn K cd7 "ring_from" = true) (k7 : PySem.W.keepIn K (.ref f7) = true)
    (a8 : PySem.W.nsIn K mainGlobals "crossing_place" = some (some (.ref f8))) (l8 : K.lookup f8 = some ⟨oc8, od8, .func (PySem.W.fnOf "crossing_place" "crossing_place" (defArgs s_crossing_place) (defBody s_crossing_place) (defScope s_crossing_place) .none kV8 dc8 pm8 an8 cd8 ct8), sl8⟩) (c8 : PySem.W.codeIn K cd8 "crossing_place" = true) (k8 : PySem.W.keepIn K (.ref f8) = true)
    (a9 : PySem.W.nsIn K mainGlobals "places_round" = some (some (.ref f9))) (l9 : K.lookup f9 = some ⟨oc9, od9, .func (PySem.W.fnOf "places_round" "places_round" (defArgs s_places_round) (defBody s_places_round) (defScope s_places_round) .none kV9 dc9 pm9 an9 cd9 ct9), sl9⟩) (c9 : PySem.W.codeIn K cd9 "places_round" = true) (k9 : PySem.W.keepIn K (.ref f9) = true)
    (a10 : PySem.W.nsIn K mainGlobals "greatest_shift" = some (some (.ref f10))) (l10 : K.lookup f10 = some ⟨oc10, od10, .func (PySem.W.fnOf "greatest_shift" "greatest_shift" (defArgs s_greatest_shift) (defBody s_greatest_shift) (defScope s_greatest_shift) .none kV10 dc10 pm10 an10 cd10 ct10), sl10⟩) (c10 : PySem.W.codeIn K cd10 "greatest_shift" = true) (k10 : PySem.W.keepIn K (.ref f10) = true)
    (a11 : PySem.W.nsIn K mainGlobals "add_at" = some (some (.ref f11))) (l11 : K.lookup f11 = some ⟨oc11, od11, .func (PySem.W.fnOf "add_at" "add_at" (defArgs s_add_at) (defBody s_add_at) (defScope s_add_at) .none kV11 dc11 pm11 an11 cd11 ct11), sl11⟩) (c11 : PySem.W.codeIn K cd11 "add_at" = true) (k11 : PySem.W.keepIn K (.ref f11) = true)
    (a12 : PySem.W.nsIn K mainGlobals "shift_round" = some (some (.ref f12))) (l12 : K.lookup f12 = some ⟨oc12, od12, .func (PySem.W.fnOf "shift_round" "shift_round" (defArgs s_shift_round) (defBody s_shift_round) (defScope s_shift_round) .none kV12 dc12 pm12 an12 cd12 ct12), sl12⟩) (c12 : PySem.W.codeIn K cd12 "shift_round" = true) (k12 : PySem.W.keepIn K (.ref f12) = true)
    (a13 : PySem.W.nsIn K mainGlobals "settle_row" = some (some (.ref f13))) (l13 : K.lookup f13 = some ⟨oc13, od13, .func (PySem.W.fnOf "settle_row" "settle_row" (defArgs s_settle_row) (defBody s_settle_row) (defScope s_settle_row) .none kV13 dc13 pm13 an13 cd13 ct13), sl13⟩) (c13 : PySem.W.codeIn K cd13 "settle_row" = true) (k13 : PySem.W.keepIn K (.ref f13) = true)
    (a14 : PySem.W.nsIn K mainGlobals "settled" = some (some (.ref f14))) (l14 : K.lookup f14 = some ⟨oc14, od14, .func (PySem.W.fnOf "settled" "settled" (defArgs s_settled) (defBody s_settled) (defScope s_settled) .none kV14 dc14 pm14 an14 cd14 ct14), sl14⟩) (c14 : PySem.W.codeIn K cd14 "settled" = true) (k14 : PySem.W.keepIn K (.ref f14) = true)
    (a15 : PySem.W.nsIn K mainGlobals "widened_place" = some (some (.ref f15))) (l15 : K.lookup f15 = some ⟨oc15, od15, .func (PySem.W.fnOf "widened_place" "widened_place" (defArgs s_widened_place) (defBody s_widened_place) (defScope s_widened_place) .none kV15 dc15 pm15 an15 cd15 ct15), sl15⟩) (c15 : PySem.W.codeIn K cd15 "widened_place" = true) (k15 : PySem.W.keepIn K (.ref f15) = true)
    (a16 : PySem.W.nsIn K mainGlobals "must_rise" = some (some (.ref f16))) (l16 : K.lookup f16 = some ⟨oc16, od16, .func (PySem.W.fnOf "must_rise" "must_rise" (defArgs s_must_rise) (defBody s_must_rise) (defScope s_must_rise) .none kV16 dc16 pm16 an16 cd16 ct16), sl16⟩) (c16 : PySem.W.codeIn K cd16 "must_rise" = true) (k16 : PySem.W.keepIn K (.ref f16) = true)
    (a17 : PySem.W.nsIn K mainGlobals "path_round" = some (some (.ref f17))) (l17 : K.lookup f17 = some ⟨oc17, od17, .func (PySem.W.fnOf "path_round" "path_round" (defArgs s_path_round) (defBody s_path_round) (defScope s_path_round) .none kV17 dc17 pm17 an17 cd17 ct17), sl17⟩) (c17 : PySem.W.codeIn K cd17 "path_round" = true) (k17 : PySem.W.keepIn K (.ref f17) = true)
    (a18 : PySem.W.nsIn K mainGlobals "settle_place" = some (some (.ref f18))) (l18 : K.lookup f18 = some ⟨oc18, od18, .func (PySem.W.fnOf "settle_place" "settle_place" (defArgs s_settle_place) (defBody s_settle_place) (defScope s_settle_place) .none kV18 dc18 pm18 an18 cd18 ct18), sl18⟩) (c18 : PySem.W.codeIn K cd18 "settle_place" = true) (k18 : PySem.W.keepIn K (.ref f18) = true)
    (a19 : PySem.W.nsIn K mainGlobals "fair_where" = some (some (.ref f19))) (l19 : K.lookup f19 = some ⟨oc19, od19, .func (PySem.W.fnOf "fair_where" "fair_where" (defArgs s_fair_where) (defBody s_fair_where) (defScope s_fair_where) .none kV19 dc19 pm19 an19 cd19 ct19), sl19⟩) (c19 : PySem.W.codeIn K cd19 "fair_where" = true) (k19 : PySem.W.keepIn K (.ref f19) = true)
    (a20 : PySem.W.nsIn K mainGlobals "_law_cell_at" = some (some (.ref f20))) (l20 : K.lookup f20 = some ⟨oc20, od20, .func (PySem.W.fnOf "_law_cell_at" "_law_cell_at" (defArgs s_Lcell_at) (defBody s_Lcell_at) (defScope s_Lcell_at) .none kV20 dc20 pm20 an20 cd20 ct20), sl20⟩) (c20 : PySem.W.codeIn K cd20 "_law_cell_at" = true) (k20 : PySem.W.keepIn K (.ref f20) = true)
    (a21 : PySem.W.nsIn K mainGlobals "_law_mixed" = some (some (.ref f21))) (l21 : K.lookup f21 = some ⟨oc21, od21, .func (PySem.W.fnOf "_law_mixed" "_law_mixed" (defArgs s_Lmixed) (defBody s_Lmixed) (defScope s_Lmixed) .none kV21 dc21 pm21 an21 cd21 ct21), sl21⟩) (c21 : PySem.W.codeIn K cd21 "_law_mixed" = true) (k21 : PySem.W.keepIn K (.ref f21) = true)
    (a22 : PySem.W.nsIn K mainGlobals "_law_drawn" = some (some (.ref f22))) (l22 : K.lookup f22 = some ⟨oc22, od22, .func (PySem.W.fnOf "_law_drawn" "_law_drawn" (defArgs s_Ldrawn) (defBody s_Ldrawn) (defScope s_Ldrawn) .none kV22 dc22 pm22 an22 cd22 ct22), sl22⟩) (c22 : PySem.W.codeIn K cd22 "_law_drawn" = true) (k22 : PySem.W.keepIn K (.ref f22) = true)
    (a23 : PySem.W.nsIn K mainGlobals "_law_table" = some (some (.ref f23))) (l23 : K.lookup f23 = some ⟨oc23, od23, .func (PySem.W.fnOf "_law_table" "_law_table" (defArgs s_Ltable) (defBody s_Ltable) (defScope s_Ltable) .none kV23 dc23 pm23 an23 cd23 ct23), sl23⟩) (c23 : PySem.W.codeIn K cd23 "_law_table" = true) (k23 : PySem.W.keepIn K (.ref f23) = true)
    (a24 : PySem.W.nsIn K mainGlobals "_law_base" = some (some (.ref f24))) (l24 : K.lookup f24 = some ⟨oc24, od24, .func (PySem.W.fnOf "_law_base" "_law_base" (defArgs s_Lbase) (defBody s_Lbase) (defScope s_Lbase) .none kV24 dc24 pm24 an24 cd24 ct24), sl24⟩) (c24 : PySem.W.codeIn K cd24 "_law_base" = true) (k24 : PySem.W.keepIn K (.ref f24) = true)
    (a25 : PySem.W.nsIn K mainGlobals "_law_sums" = some (some (.ref f25))) (l25 : K.lookup f25 = some ⟨oc25, od25, .func (PySem.W.fnOf "_law_sums" "_law_sums" (defArgs s_Lsums) (defBody s_Lsums) (defScope s_Lsums) .none kV25 dc25 pm25 an25 cd25 ct25), sl25⟩) (c25 : PySem.W.codeIn K cd25 "_law_sums" = true) (k25 : PySem.W.keepIn K (.ref f25) = true)
    (a26 : PySem.W.nsIn K mainGlobals "_law_rounded" = some (some (.ref f26))) (l26 : K.lookup f26 = some ⟨oc26, od26, .func (PySem.W.fnOf "_law_rounded" "_law_rounded" (defArgs s_Lrounded) (defBody s_Lrounded) (defScope s_Lrounded) .none kV26 dc26 pm26 an26 cd26 ct26), sl26⟩) (c26 : PySem.W.codeIn K cd26 "_law_rounded" = true) (k26 : PySem.W.keepIn K (.ref f26) = true)
    (a27 : PySem.W.nsIn K mainGlobals "_law_is_fair" = some (some (.ref f27))) (l27 : K.lookup f27 = some ⟨oc27, od27, .func (PySem.W.fnOf "_law_is_fair" "_law_is_fair" (defArgs s_Lis_fair) (defBody s_Lis_fair) (defScope s_Lis_fair) .none kV27 dc27 pm27 an27 cd27 ct27), sl27⟩) (c27 : PySem.W.codeIn K cd27 "_law_is_fair" = true) (k27 : PySem.W.keepIn K (.ref f27) = true)
    (a28 : PySem.W.nsIn K mainGlobals "_law_part" = some (some (.ref f28))) (l28 : K.lookup f28 = some ⟨oc28, od28, .func (PySem.W.fnOf "_law_part" "_law_part" (defArgs s_Lpart) (defBody s_Lpart) (defScope s_Lpart) .none kV28 dc28 pm28 an28 cd28 ct28), sl28⟩) (c28 : PySem.W.codeIn K cd28 "_law_part" = true) (k28 : PySem.W.keepIn K (.ref f28) = true)
    (a29 : PySem.W.nsIn K mainGlobals "law" = some (some (.ref f29))) (l29 : K.lookup f29 = some ⟨oc29, od29, .func (PySem.W.fnOf "law" "law" (defArgs s_law) (defBody s_law) (defScope s_law) .none kV29 dc29 pm29 an29 cd29 ct29), sl29⟩) (c29 : PySem.W.codeIn K cd29 "law" = true) (k29 : PySem.W.keepIn K (.ref f29) = true)
    (z_abs : PySem.W.nsIn K mainGlobals "abs" = some none)
    (z_bool : PySem.W.nsIn K mainGlobals "bool" = some none)
    (z_enumerate : PySem.W.nsIn K mainGlobals "enumerate" = some none)
    (z_int : PySem.W.nsIn K mainGlobals "int" = some none)
    (z_isinstance : PySem.W.nsIn K mainGlobals "isinstance" = some none)
    (z_len : PySem.W.nsIn K mainGlobals "len" = some none)
    (z_list : PySem.W.nsIn K mainGlobals "list" = some none)
    (z_max : PySem.W.nsIn K mainGlobals "max" = some none)
    (z_min : PySem.W.nsIn K mainGlobals "min" = some none)
    (z_range : PySem.W.nsIn K mainGlobals "range" = some none)
    (z_sum : PySem.W.nsIn K mainGlobals "sum" = some none)
    (z_tuple : PySem.W.nsIn K mainGlobals "tuple" = some none)
    (z_zip : PySem.W.nsIn K mainGlobals "zip" = some none) :
    ∃ fd : FuncData, (∀ (s : Shared) (v : Value), BindsTo s fd ⟨[v], []⟩ [("_law_script", v)]) ∧ ∀ base : Heap, K.In base → base.Ns mainGlobals mg → FnOk l.prog w K mg base CX0 7 fa fd ["_law_script"] (spP K 1 F_law) := by
  have e := hfa.symm.trans (PySem.W.mg_of X G a29)
  cases e
  have m_abs := PySem.W.mg_none_of X G z_abs
  have m_bool := PySem.W.mg_none_of X G z_bool
  have m_enumerate := PySem.W.mg_none_of X G z_enumerate
  have m_int := PySem.W.mg_none_of X G z_int
  have m_isinstance := PySem.W.mg_none_of X G z_isinstance
  have m_len := PySem.W.mg_none_of X G z_len
  have m_list := PySem.W.mg_none_of X G z_list
  have m_max := PySem.W.mg_none_of X G z_max
  have m_min := PySem.W.mg_none_of X G z_min
  have m_range := PySem.W.mg_none_of X G z_range
  have m_sum := PySem.W.mg_none_of X G z_sum
  have m_tuple := PySem.W.mg_none_of X G z_tuple
  have m_zip := PySem.W.mg_none_of X G z_zip
  have kt_bool := kit_bool K
  have kt_int := kit_int K
  have kt_tuple := kit_tuple K
  have F0 := fun_mk (st := s_put_down) l0 c0 k0
  have b0 := F0.binds (ps := ["count", "base"]) fun _ _ _ _ _ _ us hl => match us, hl with | [_, _], _ => rfl
  have F1 := fun_mk (st := s_row_down) l1 c1 k1
  have b1 := F1.binds (ps := ["row", "base"]) fun _ _ _ _ _ _ us hl => match us, hl with | [_, _], _ => rfl
  have F2 := fun_mk (st := s_down) l2 c2 k2
  have b2 := F2.binds (ps := ["table", "base"]) fun _ _ _ _ _ _ us hl => match us, hl with | [_, _], _ => rfl
  have F3 := fun_mk (st := s_pillar_sum) l3 c3 k3
  have b3 := F3.binds (ps := ["table", "place"]) fun _ _ _ _ _ _ us hl => match us, hl with | [_, _], _ => rfl
  have F4 := fun_mk (st := s_sums) l4 c4 k4
  have b4 := F4.binds (ps := ["table"]) fun _ _ _ _ _ _ us hl => match us, hl with | [_], _ => rfl
  have F5 := fun_mk (st := s_widened) l5 c5 k5
  have b5 := F5.binds (ps := ["table"]) fun _ _ _ _ _ _ us hl => match us, hl with | [_], _ => rfl
  have F6 := fun_mk (st := s_crossing_lines) l6 c6 k6
  have b6 := F6.binds (ps := ["grid", "base", "line"]) fun _ _ _ _ _ _ us hl => match us, hl with | [_, _, _], _ => rfl
  have F7 := fun_mk (st := s_ring_from) l7 c7 k7
  have b7 := F7.binds (ps := ["grid", "base", "start"]) fun _ _ _ _ _ _ us hl => match us, hl with | [_, _, _], _ => rfl
  have F8 := fun_mk (st := s_crossing_place) l8 c8 k8
  have b8 := F8.binds (ps := ["height", "line", "other"]) fun _ _ _ _ _ _ us hl => match us, hl with | [_, _, _], _ => rfl
  have F9 := fun_mk (st := s_places_round) l9 c9 k9
  have b9 := F9.binds (ps := ["ring", "height"]) fun _ _ _ _ _ _ us hl => match us, hl with | [_, _], _ => rfl
  have F10 := fun_mk (st := s_greatest_shift) l10 c10 k10
  have b10 := F10.binds (ps := ["grid", "base", "rising", "falling"]) fun _ _ _ _ _ _ us hl => match us, hl with | [_, _, _, _], _ => rfl
  have F11 := fun_mk (st := s_add_at) l11 c11 k11
  have b11 := F11.binds (ps := ["grid", "places", "amount"]) fun _ _ _ _ _ _ us hl => match us, hl with | [_, _, _], _ => rfl
  have F12 := fun_mk (st := s_shift_round) l12 c12 k12
  have b12 := F12.binds (ps := ["grid", "base", "ring"]) fun _ _ _ _ _ _ us hl => match us, hl with | [_, _, _], _ => rfl
  have F13 := fun_mk (st := s_settle_row) l13 c13 k13
  have b13 := F13.binds (ps := ["grid", "base", "row"]) fun _ _ _ _ _ _ us hl => match us, hl with | [_, _, _], _ => rfl
  have F14 := fun_mk (st := s_settled) l14 c14 k14
  have b14 := F14.binds (ps := ["grid", "base"]) fun _ _ _ _ _ _ us hl => match us, hl with | [_, _], _ => rfl
  have F15 := fun_mk (st := s_widened_place) l15 c15 k15
  have b15 := F15.binds (ps := ["grid", "kind", "at"]) fun _ _ _ _ _ _ us hl => match us, hl with | [_, _, _], _ => rfl
  have F16 := fun_mk (st := s_must_rise) l16 c16 k16
  have b16 := F16.binds (ps := ["base", "kind", "upward"]) fun _ _ _ _ _ _ us hl => match us, hl with | [_, _, _], _ => rfl
  have F17 := fun_mk (st := s_path_round) l17 c17 k17
  have b17 := F17.binds (ps := ["grid", "base", "place"]) fun _ _ _ _ _ _ us hl => match us, hl with | [_, _, _], _ => rfl
  have F18 := fun_mk (st := s_settle_place) l18 c18 k18
  have b18 := F18.binds (ps := ["grid", "base", "place", "rises"]) fun _ _ _ _ _ _ us hl => match us, hl with | [_, _, _, _], _ => rfl
  have F19 := fun_mk (st := s_fair_where) l19 c19 k19
  have b19 := F19.binds (ps := ["table", "base", "kind", "at", "upward"]) fun _ _ _ _ _ _ us hl => match us, hl with | [_, _, _, _, _], _ => rfl
  have F20 := fun_mk (st := s_Lcell_at) l20 c20 k20
  have b20 := F20.binds (ps := ["_law_script", "_law_k"]) fun _ _ _ _ _ _ us hl => match us, hl with | [_, _], _ => rfl
  have F21 := fun_mk (st := s_Lmixed) l21 c21 k21
  have b21 := F21.binds (ps := ["_law_script", "_law_k"]) fun _ _ _ _ _ _ us hl => match us, hl with | [_, _], _ => rfl
  have F22 := fun_mk (st := s_Ldrawn) l22 c22 k22
  have b22 := F22.binds (ps := ["_law_number", "_law_k"]) fun _ _ _ _ _ _ us hl => match us, hl with | [_, _], _ => rfl
  have F23 := fun_mk (st := s_Ltable) l23 c23 k23
  have b23 := F23.binds (ps := ["_law_number"]) fun _ _ _ _ _ _ us hl => match us, hl with | [_], _ => rfl
  have F24 := fun_mk (st := s_Lbase) l24 c24 k24
  have b24 := F24.binds (ps := ["_law_number"]) fun _ _ _ _ _ _ us hl => match us, hl with | [_], _ => rfl
  have F25 := fun_mk (st := s_Lsums) l25 c25 k25
  have b25 := F25.binds (ps := ["_law_table_here"]) fun _ _ _ _ _ _ us hl => match us, hl with | [_], _ => rfl
  have F26 := fun_mk (st := s_Lrounded) l26 c26 k26
  have b26 := F26.binds (ps := ["_law_count", "_law_base_here", "_law_number"]) fun _ _ _ _ _ _ us hl => match us, hl with | [_, _, _], _ => rfl
  have F27 := fun_mk (st := s_Lis_fair) l27 c27 k27
  have b27 := F27.binds (ps := ["_law_table_here", "_law_base_here", "_law_thing"]) fun _ _ _ _ _ _ us hl => match us, hl with | [_, _, _], _ => rfl
  have F28 := fun_mk (st := s_Lpart) l28 c28 k28
  have b28 := F28.binds (ps := ["_law_table_here", "_law_kind", "_law_at"]) fun _ _ _ _ _ _ us hl => match us, hl with | [_, _, _], _ => rfl
  have F29 := fun_mk (st := s_law) l29 c29 k29
  refine ⟨PySem.W.fnOf "law" "law" (defArgs s_law) (defBody s_law) (defScope s_law) .none kV29 dc29 pm29 an29 cd29 ct29, fun s v => .of_eq rfl, fun base _ _ => ?_⟩
  have d_put_down := ok_put_down (P := l.prog) (w := w) (mg := mg) (base := base) F0 b0 (PySem.W.mg_of X G a0) 
  have d_row_down := ok_row_down (P := l.prog) (w := w) (mg := mg) (base := base) F1 b1 (PySem.W.mg_of X G a1) m_tuple d_put_down
  have d_down := ok_down (P := l.prog) (w := w) (mg := mg) (base := base) F2 b2 (PySem.W.mg_of X G a2) m_tuple d_row_down
  have d_pillar_sum := ok_pillar_sum (P := l.prog) (w := w) (mg := mg) (base := base) F3 b3 (PySem.W.mg_of X G a3) m_sum
  have d_sums := ok_sums (P := l.prog) (w := w) (mg := mg) (base := base) F4 b4 (PySem.W.mg_of X G a4) m_len m_range m_sum m_tuple d_pillar_sum
  have d_widened := ok_widened (P := l.prog) (w := w) (mg := mg) (base := base) F5 b5 (PySem.W.mg_of X G a5) m_list m_zip d_sums
  have d_crossing_lines := ok_crossing_lines (P := l.prog) (w := w) (mg := mg) (base := base) F6 b6 (PySem.W.mg_of X G a6) m_enumerate m_len
  have d_ring_from := ok_ring_from (P := l.prog) (w := w) (mg := mg) (base := base) F7 b7 (PySem.W.mg_of X G a7) d_crossing_lines
  have d_crossing_place := ok_crossing_place (P := l.prog) (w := w) (mg := mg) (base := base) F8 b8 (PySem.W.mg_of X G a8) m_max m_min
  have d_places_round := ok_places_round (P := l.prog) (w := w) (mg := mg) (base := base) F9 b9 (PySem.W.mg_of X G a9) m_zip d_crossing_place
  have d_greatest_shift := ok_greatest_shift (P := l.prog) (w := w) (mg := mg) (base := base) F10 b10 (PySem.W.mg_of X G a10) m_min
  have d_add_at := ok_add_at (P := l.prog) (w := w) (mg := mg) (base := base) F11 b11 (PySem.W.mg_of X G a11) 
  have d_shift_round := ok_shift_round (P := l.prog) (w := w) (mg := mg) (base := base) F12 b12 (PySem.W.mg_of X G a12) m_len d_add_at d_greatest_shift d_places_round
  have d_settle_row := ok_settle_row (P := l.prog) (w := w) (mg := mg) (base := base) F13 b13 (PySem.W.mg_of X G a13) d_crossing_lines d_ring_from d_shift_round
  have d_settled := ok_settled (P := l.prog) (w := w) (mg := mg) (base := base) F14 b14 (PySem.W.mg_of X G a14) m_abs m_len m_range m_tuple d_down d_settle_row
  have d_widened_place := ok_widened_place (P := l.prog) (w := w) (mg := mg) (base := base) F15 b15 (PySem.W.mg_of X G a15) m_len
  have d_must_rise := ok_must_rise (P := l.prog) (w := w) (mg := mg) (base := base) F16 b16 (PySem.W.mg_of X G a16) 
  have d_path_round := ok_path_round (P := l.prog) (w := w) (mg := mg) (base := base) F17 b17 (PySem.W.mg_of X G a17) m_len d_crossing_lines
  have d_settle_place := ok_settle_place (P := l.prog) (w := w) (mg := mg) (base := base) F18 b18 (PySem.W.mg_of X G a18) d_path_round d_shift_round
  have d_fair_where := ok_fair_where (P := l.prog) (w := w) (mg := mg) (base := base) F19 b19 (PySem.W.mg_of X G a19) m_abs d_must_rise d_settle_place d_settled d_widened d_widened_place
  have d_Lcell_at := ok_Lcell_at (P := l.prog) (w := w) (mg := mg) (base := base) F20 b20 (PySem.W.mg_of X G a20) m_len
  have d_Lmixed := ok_Lmixed (P := l.prog) (w := w) (mg := mg) (base := base) F21 b21 (PySem.W.mg_of X G a21) d_Lcell_at
  have d_Ldrawn := ok_Ldrawn (P := l.prog) (w := w) (mg := mg) (base := base) F22 b22 (PySem.W.mg_of X G a22) 
  have d_Ltable := ok_Ltable (P := l.prog) (w := w) (mg := mg) (base := base) F23 b23 (PySem.W.mg_of X G a23) m_range m_tuple d_Ldrawn
  have d_Lbase := ok_Lbase (P := l.prog) (w := w) (mg := mg) (base := base) F24 b24 (PySem.W.mg_of X G a24) 
  have d_Lsums := ok_Lsums (P := l.prog) (w := w) (mg := mg) (base := base) F25 b25 (PySem.W.mg_of X G a25) m_len m_range m_sum m_tuple
  have d_Lrounded := ok_Lrounded (P := l.prog) (w := w) (mg := mg) (base := base) F26 b26 (PySem.W.mg_of X G a26) m_abs m_bool m_int m_isinstance kt_bool kt_int
  have d_Lis_fair := ok_Lis_fair (P := l.prog) (w := w) (mg := mg) (base := base) F27 b27 (PySem.W.mg_of X G a27) m_isinstance m_len m_range m_tuple m_zip d_Lrounded d_Lsums kt_tuple
  have d_Lpart := ok_Lpart (P := l.prog) (w := w) (mg := mg) (base := base) F28 b28 (PySem.W.mg_of X G a28) m_int d_Lsums
  exact fn_law F29 m_len d_Lbase d_Lis_fair d_Lmixed d_Lpart d_Ltable d_fair_where
theorem walk {l : PySem.W.OpenLaw} {q : Program} {loose : List Str} {XP : (Str → Option Value) → Heap → Prop} {YP : World → Heap → Prop} {d : DefRec} {K : Params → PySem.W.Frag} (hn : l.most = some 63) (hdf : d.params.defaults = [])
    (hY : ∀ (w : World) (h : Heap), YP w h → (K w.params).In h)
    (F : ∀ (w : World) (mg : Str → Option Value) (fa : Addr) (h : Heap), (K w.params).In h → h.Ns mainGlobals mg → mg d.name = some (.ref fa) →
      ∃ fd : FuncData, (∀ (s : Shared) (u : Value), BindsTo s fd ⟨[u], []⟩ [("_law_script", u)]) ∧ ∀ base : Heap, (K w.params).In base → base.Ns mainGlobals mg → FnOk l.prog w (K w.params) mg base CX0 7 fa fd ["_law_script"] (spP (K w.params) 1 F_law)) :
    PySem.W.WalkO q loose XP YP l.row.toRowW d [] (fun f vs => PySem.call f vs) :=
  L2.walk_of (n := 63) (k := 7) (x := "_law_script") (CX := fun _ => CX0) (sp := fun w => spP (K w.params) 1 F_law) hn (by decide) hdf ⟨rfl, by decide, by decide⟩ hY F
    (fun _ _ a ns _ _ hS => ⟨[.list (ns.map PyData.int)], .bool true, rfl, Reps.cons (Rep.ofLst hS (reps_of_ints ns)) Reps.nil, law_k21 ns, fun _ _ _ h => rep_bool h⟩) fun _ _ _ _ _ z => z
end PU
open PySem PySem.W PyProof.Rows
set_option maxRecDepth 100000 in
set_option maxHeartbeats 0 in
theorem PySem.Challenge.cw_fairround_k21_whole_either_way_holds : PySem.Challenge.rw_fairround_k21_whole_either_way.Holds := by
  w_on; o_law; k_head; (case hw => w_witness2)
  k_fill
  refine PU.walk (l := PySem.Challenge.rw_fairround_k21_whole_either_way) rfl rfl (fun w h Y => PySem.W.kIn_of Y) ?F
  case F =>
    intro w mg fa h KX G hmg
    refine' PU.all_mk KX G hmg ?a0 ?l0 ?c0 ?k0 ?a1 ?l1 ?c1 ?k1 ?a2 ?l2 ?c2 ?k2 ?a3 ?l3 ?c3 ?k3 ?a4 ?l4 ?c4 ?k4 ?a5 ?l5 ?c5 ?k5 ?a6 ?l6 ?c6 ?k6 ?a7 ?l7 ?c7 ?k7 ?a8 ?l8 ?c8 ?k8 ?a9 ?l9 ?c9 ?k9 ?a10 ?l10 ?c10 ?k10 ?a11 ?l11 ?c11 ?k11 ?a12 ?l12 ?c12 ?k12 ?a13 ?l13 ?c13 ?k13 ?a14 ?l14 ?c14 ?k14 ?a15 ?l15 ?c15 ?k15 ?a16 ?l16 ?c16 ?k16 ?a17 ?l17 ?c17 ?k17 ?a18 ?l18 ?c18 ?k18 ?a19 ?l19 ?c19 ?k19 ?a20 ?l20 ?c20 ?k20 ?a21 ?l21 ?c21 ?k21 ?a22 ?l22 ?c22 ?k22 ?a23 ?l23 ?c23 ?k23 ?a24 ?l24 ?c24 ?k24 ?a25 ?l25 ?c25 ?k25 ?a26 ?l26 ?c26 ?k26 ?a27 ?l27 ?c27 ?k27 ?a28 ?l28 ?c28 ?k28 ?a29 ?l29 ?c29 ?k29 ?z_abs ?z_bool ?z_enumerate ?z_int ?z_isinstance ?z_len ?z_list ?z_max ?z_min ?z_range ?z_sum ?z_tuple ?z_zip
    (case a0 => k_is)
    (case l0 => k_is)
    (case c0 => k_is)
    (case k0 => k_is)
    (case a1 => k_is)
    (case l1 => k_is)
    (case c1 => k_is)
    (case k1 => k_is)
    (case a2 => k_is)
    (case l2 => k_is)
    (case c2 => k_is)
    (case k2 => k_is)
    (case a3 => k_is)
    (case l3 => k_is)
    (case c3 => k_is)
    (case k3 => k_is)
    (case a4 => k_is)
    (case l4 => k_is)
    (case c4 => k_is)
    (case k4 => k_is)
    (case a5 => k_is)
    (case l5 => k_is)
    (case c5 => k_is)
    (case k5 => k_is)
    (case a6 => k_is)
    (case l6 => k_is)
    (case c6 => k_is)
    (case k6 => k_is)
    (case a7 => k_is)
    (case l7 => k_is)
    (case c7 => k_is)
    (case k7 => k_is)
    (case a8 => k_is)
    (case l8 => k_is)
    (case c8 => k_is)
    (case k8 => k_is)
    (case a9 => k_is)
    (case l9 => k_is)
    (case c9 => k_is)
    (case k9 => k_is)
    (case a10 => k_is)
    (case l10 => k_is)
    (case c10 => k_is)
    (case k10 => k_is)
    (case a11 => k_is)
    (case l11 => k_is)
    (case c11 => k_is)
    (case k11 => k_is)
    (case a12 => k_is)
    (case l12 => k_is)
    (case c12 => k_is)
    (case k12 => k_is)
    (case a13 => k_is)
    (case l13 => k_is)
    (case c13 => k_is)
    (case k13 => k_is)
    (case a14 => k_is)
    (case l14 => k_is)
    (case c14 => k_is)
    (case k14 => k_is)
    (case a15 => k_is)
    (case l15 => k_is)
    (case c15 => k_is)
    (case k15 => k_is)
    (case a16 => k_is)
    (case l16 => k_is)
    (case c16 => k_is)
    (case k16 => k_is)
    (case a17 => k_is)
    (case l17 => k_is)
    (case c17 => k_is)
    (case k17 => k_is)
    (case a18 => k_is)
    (case l18 => k_is)
    (case c18 => k_is)
    (case k18 => k_is)
    (case a19 => k_is)
    (case l19 => k_is)
    (case c19 => k_is)
    (case k19 => k_is)
    (case a20 => k_is)
    (case l20 => k_is)
    (case c20 => k_is)
    (case k20 => k_is)
    (case a21 => k_is)
    (case l21 => k_is)
    (case c21 => k_is)
    (case k21 => k_is)
    (case a22 => k_is)
    (case l22 => k_is)
    (case c22 => k_is)
    (case k22 => k_is)
    (case a23 => k_is)
    (case l23 => k_is)
    (case c23 => k_is)
    (case k23 => k_is)
    (case a24 => k_is)
    (case l24 => k_is)
    (case c24 => k_is)
    (case k24 => k_is)
    (case a25 => k_is)
    (case l25 => k_is)
    (case c25 => k_is)
    (case k25 => k_is)
    (case a26 => k_is)
    (case l26 => k_is)
    (case c26 => k_is)
    (case k26 => k_is)
    (case a27 => k_is)
    (case l27 => k_is)
    (case c27 => k_is)
    (case k27 => k_is)
    (case a28 => k_is)
    (case l28 => k_is)
    (case c28 => k_is)
    (case k28 => k_is)
    (case a29 => k_is)
    (case l29 => k_is)
    (case c29 => k_is)
    (case k29 => k_is)
    (case z_abs => k_is)
    (case z_bool => k_is)
    (case z_enumerate => k_is)
    (case z_int => k_is)
    (case z_isinstance => k_is)
    (case z_len => k_is)
    (case z_list => k_is)
    (case z_max => k_is)
    (case z_min => k_is)
    (case z_range => k_is)
    (case z_sum => k_is)
    (case z_tuple => k_is)
    (case z_zip => k_is)
