import PyProof.Rows.All
import Wide.All
import OpenK.AllK
import Wide.FinOn
import Lean
import PyProof.EqAt
import PyProof.EqKinds
import PyProof.TupleCall
import OpenK.KOwn
import PySem.Str
import KE.LcSums
import PySem.Challenge.RW_rowmill_k53_guesses_learn
set_option Elab.async false
set_option linter.all false
set_option maxRecDepth 100000
/-! THE HAND LAYER, for ints, bools, texts, own classes, LISTS and tuples (index, slices, in, append, pop ..), calls, loops. Paste it whole ahead of your own text; what your proof does not reach may be deleted. -/
namespace L2
open PySem PySem.Spec PyProof.Rows

abbrev Key := Sum Int Str
def keyIs : Key → Value → Bool
  | .inl k, v => Value.isInt k v
  | .inr x, v => Value.isStrOf x v
def keyH (w : World) : Key → Int
  | .inl k => hashInt k
  | .inr x => hashStr w x
theorem keyIs_shape : ∀ {k : Key} {v : Value}, keyIs k v = true → (∃ i t, k = Sum.inl i ∧ v = Value.int i t) ∨ (∃ x t, k = Sum.inr x ∧ v = Value.str x t)
  | .inl i, v, h => by
    obtain ⟨t, e⟩ := Value.isInt_shape (k := i) (v := v) h
    exact .inl ⟨i, t, rfl, e⟩
  | .inr x, v, h => by
    obtain ⟨t, e⟩ := Value.isStrOf_shape (x := x) (v := v) h
    exact .inr ⟨x, t, rfl, e⟩
theorem key_ll (a b : Int) : decide ((Sum.inl a : Key) = Sum.inl b) = (a == b) := by
  by_cases e : a = b
  · subst e; simp
  · have h : ¬ (Sum.inl a : Key) = Sum.inl b := fun q => e (Sum.inl.inj q)
    rw [decide_eq_false h]
    exact (beq_eq_false_iff_ne.mpr e).symm
theorem key_rr (a b : Str) : decide ((Sum.inr a : Key) = Sum.inr b) = decide (a = b) := by
  by_cases e : a = b
  · subst e; simp
  · have h : ¬ (Sum.inr a : Key) = Sum.inr b := fun q => e (Sum.inr.inj q)
    rw [decide_eq_false h, decide_eq_false e]
theorem key_lr (a : Int) (b : Str) : decide ((Sum.inl a : Key) = Sum.inr b) = false := decide_eq_false (fun q => nomatch q)
theorem key_rl (a : Str) (b : Int) : decide ((Sum.inr a : Key) = Sum.inl b) = false := decide_eq_false (fun q => nomatch q)

def mixKind (prog : Program) (w : World) : PySem.KeyKind prog w Key where
  is := keyIs
  hash := keyH w
  inj := fun v a b ha hb => by
    rcases keyIs_shape ha with ⟨i, t, rfl, rfl⟩ | ⟨x, t, rfl, rfl⟩
    · rcases keyIs_shape hb with ⟨j, u, rfl, e⟩ | ⟨y, u, rfl, e⟩
      · injection e with e1 _; rw [e1]
      · exact nomatch e
    · rcases keyIs_shape hb with ⟨j, u, rfl, e⟩ | ⟨y, u, rfl, e⟩
      · exact nomatch e
      · injection e with e1 _; rw [e1]
  byValue := fun k v h => by
    rcases keyIs_shape h with ⟨i, t, rfl, rfl⟩ | ⟨x, t, rfl, rfl⟩ <;> rfl
  pyHash := fun hv h => by
    rcases keyIs_shape hv with ⟨i, t, rfl, rfl⟩ | ⟨x, t, rfl, rfl⟩
    · exact wpAny_pyHash_int h
    · exact wpAny_pyHash_str h
  eqBool := fun hu hv h => by
    rcases keyIs_shape hu with ⟨i, t, rfl, rfl⟩ | ⟨x, t, rfl, rfl⟩
    · rcases keyIs_shape hv with ⟨j, u, rfl, rfl⟩ | ⟨y, u, rfl, rfl⟩
      · rw [key_ll] at h; exact wpAny_eqBool_int h
      · rw [key_lr] at h; exact SeqAt.EqAt.int_str i t y u _ _ _ _ h
    · rcases keyIs_shape hv with ⟨j, u, rfl, rfl⟩ | ⟨y, u, rfl, rfl⟩
      · rw [key_rl] at h; exact SeqAt.EqAt.str_int x t j u _ _ _ _ h
      · rw [key_rr] at h; exact wpAny_eqBool_str h
  «strs» := fun k x t v h => by
    rcases keyIs_shape h with ⟨i, u, rfl, e⟩ | ⟨y, u, rfl, e⟩
    · exact nomatch e
    · injection e with e1 _
      subst e1
      cases v <;> rfl

end L2

namespace L2
open PySem PySem.Spec PyProof.Rows

inductive V where
  | non | bl (b : Bool) | int (i : Int) | str (x : Str) | byt (b : Array UInt8) | flt (b : UInt64) | ref (a : Addr) | ty (n : String)
  deriving DecidableEq

def RelV : V → Value → Prop
  | .non, u => u = Value.none
  | .bl b, u => u = Value.bool b
  | .int i, u => ∃ t, u = Value.int i t
  | .str x, u => ∃ t, u = Value.str x t
  | .byt b, u => ∃ t, u = Value.bytes b t
  | .flt b, u => ∃ t, u = Value.float b t
  | .ref a, u => u = Value.ref a
  | .ty n, u => u = Value.type n

abbrev Vals : List V → List Value → Prop := Paired RelV
theorem Vals.length {xs : List V} {us : List Value} (r : Vals xs us) : xs.length = us.length := Paired.length r
theorem Vals.get : ∀ {xs : List V} {us : List Value} {i : Nat} {x : V}, Vals xs us → xs[i]? = some x → ∃ u, us[i]? = some u ∧ RelV x u
  | _, _, _, _, .nil, e => by simp at e
  | _, _, 0, _, .cons r _, e => by simp at e; subst e; exact ⟨_, rfl, r⟩
  | _, _, i + 1, x, .cons _ t, e => by
    obtain ⟨u, h1, h2⟩ := Vals.get (i := i) (x := x) t (by simpa using e)
    exact ⟨u, by simpa using h1, h2⟩
theorem Vals.set {x : V} {u : Value} (r : RelV x u) : ∀ {xs : List V} {us : List Value} (i : Nat), Vals xs us → Vals (xs.set i x) (us.set i u)
  | _, _, _, .nil => .nil
  | _, _, 0, .cons _ t => .cons r t
  | _, _, i + 1, .cons q t => .cons q (Vals.set r i t)
theorem Vals.append : ∀ {xs ys : List V} {us ws : List Value}, Vals xs us → Vals ys ws → Vals (xs ++ ys) (us ++ ws)
  | _, _, _, _, .nil, s => s
  | _, _, _, _, .cons r t, s => .cons r (Vals.append t s)
theorem Vals.take : ∀ {xs : List V} {us : List Value} (n : Nat), Vals xs us → Vals (xs.take n) (us.take n)
  | _, _, 0, _ => .nil
  | _, _, _ + 1, .nil => .nil
  | _, _, n + 1, .cons r t => .cons r (Vals.take n t)
theorem Vals.drop : ∀ {xs : List V} {us : List Value} (n : Nat), Vals xs us → Vals (xs.drop n) (us.drop n)
  | _, _, 0, r => r
  | _, _, _ + 1, .nil => .nil
  | _, _, n + 1, .cons _ t => Vals.drop n t
theorem Vals.none_of : ∀ {xs : List V} {us : List Value} {i : Nat}, Vals xs us → xs[i]? = none → us[i]? = none := fun {xs us i} r e => by
  have h1 := r.length
  have h2 : xs.length ≤ i := List.getElem?_eq_none_iff.mp e
  exact List.getElem?_eq_none_iff.mpr (by omega)

def RelO : Option V → Option Value → Prop
  | some v, some u => RelV v u
  | none, none => True
  | _, _ => False
def KV {κ : Type} : List (κ × V) → List (κ × Value) → Prop := Paired fun (p : κ × V) (q : κ × Value) => p.1 = q.1 ∧ RelV p.2 q.2

def kV : Key → V
  | .inl i => .int i
  | .inr x => .str x

inductive HO where
  | lst (xs : List V)
  | tup (xs : List V)
  | dK (kvs : List (Key × V)) | dT (kvs : List (List Key × V))
  | set (S : Int → Bool) (n : Nat)
  | ins (C dx : Addr) (fs : List (Str × V))
  | own (x : Addr)
  | xd (fs : List (Str × V))
  | met (f x : Addr)
  | rng (lo hi : Int)
  | frz (o : Obj) (u : HO)
  | tbl (ps : Array Value)
  | exc (C : Addr) (dx : Option Addr) (fs : List (Str × V))
  | ext (φ : Heap → Prop)

abbrev Hp := Addr → Option HO
def upd (H : Hp) (a : Addr) (o : HO) : Hp := fun b => if b = a then some o else H b
theorem upd_same {H : Hp} {a : Addr} {o : HO} : upd H a o a = some o := by unfold upd; rw [if_pos rfl]
theorem upd_ne {H : Hp} {a b : Addr} {o : HO} (h : b ≠ a) : upd H a o b = H b := by unfold upd; rw [if_neg h]
theorem ne_of {H : Hp} {a b : Addr} {o u : HO} (h : H a = some o) (h' : H b = some u) (d : o ≠ u) : a ≠ b := by
  intro e; subst e; rw [h] at h'; exact d (Option.some.inj h')
theorem ne_of_none {H : Hp} {a b : Addr} {o : HO} (h : H a = some o) (h' : H b = none) : a ≠ b := by
  intro e; subst e; rw [h] at h'; cases h'

def NsO (h : Heap) (dx : Option Addr) (mA : Str → Option Value) : Prop := match dx with
  | some d => h.Ns1 d mA
  | none => ∀ n, mA n = none
section
variable (P : Program) (w : World)
def ObjOk (H : Hp) (h : Heap) (a : Addr) : HO → Prop
  | .lst xs => xs.length ≤ sizeLine ∧ ∃ (its : List Value) (n : Nat), Vals xs its ∧ h.get? a = some { cls := .type "list", data := .seq its.toArray n }
  | .tup xs => xs.length ≤ sizeLine ∧ ∃ its : List Value, Vals xs its ∧ IsTup h a its.toArray
  | .dK kvs => kvs.length ≤ sizeLine ∧ (a == sysModules) = false ∧ ∃ vs, KV kvs vs ∧ h.DictOf (mixKind P w) a vs
  | .dT kvs => kvs.length ≤ sizeLine ∧ (a == sysModules) = false ∧ ∃ xs : List (List Key × Addr × Value),
      Paired (fun (p : List Key × V) (q : List Key × Addr × Value) => p.1 = q.1 ∧ H q.2.1 = some (.tup (p.1.map kV)) ∧ RelV p.2 q.2.2) kvs xs ∧
      ∃ o es ep, h.get? a = some o ∧ o.ExactDict ∧ o.data = .dict es ep ∧ es.toList = xs.map (entryOfKey (tupleKind (mixKind P w))) ∧ (xs.map (·.1)).Nodup
  | .set S n => h.SetOf (intKind P w) a S n
  | .ins C dx fs => H dx = some (.own a) ∧ fs.length ≤ 1000 ∧ dx ≠ a ∧ h.get? a = some (PySem.W.instObj C dx) ∧
      ∃ mA, h.Ns1 dx mA ∧ (∀ f, RelO (fs.lookup f) (mA f)) ∧ PySem.Within mA (fs.map (·.1))
  | .own _ => ∃ o, h.get? a = some o
  | .xd fs => ∃ mA, h.Ns1 a mA ∧ ∀ f, RelO (fs.lookup f) (mA f)
  | .rng lo hi => ∃ t u v, h.get? a = some { cls := .type "range", data := .fields #[.int lo t, .int hi u, .int 1 v] }
  | .frz o u => h.get? a = some o ∧ ObjOk H h a u
  | .tbl ps => h.get? a = some { cls := .none, data := .fields ps }
  | .met f x => h.get? a = some (PySem.W.methodObj (.ref f) (.ref x))
  | .exc C dx fs => ∃ o vs, h.get? a = some o ∧ o.cls = .ref C ∧ o.dict = dx ∧ o.data = .fields vs ∧ fs.length ≤ 1000 ∧ (∀ d, dx = some d → H d = some (.own a) ∧ d ≠ a) ∧
      ∃ mA, NsO h dx mA ∧ (∀ f, RelO (fs.lookup f) (mA f)) ∧ PySem.Within mA (fs.map (·.1))
  | .ext φ => φ h ∧ (∃ o, h.get? a = some o) ∧ ∀ h1 h2 : Heap, φ h1 → (∀ o, h1.get? a = some o → h2.get? a = some o) → φ h2
def HOk (H : Hp) (h : Heap) : Prop := ∀ a o, H a = some o → ObjOk P w H h a o
end

section
variable {P : Program} {w : World} {H H' : Hp} {h h' : Heap} {a : Addr} {o : HO}
theorem ObjOk.lt (x : ObjOk P w H h a o) : a < h.objs.size := by
  cases o with
  | lst xs => obtain ⟨_, _, _, _, e⟩ := x; exact Heap.lt_size e
  | tup xs => obtain ⟨_, _, _, p⟩ := x; exact p.lt
  | dK kvs => obtain ⟨_, _, _, _, o, _, _, e, _⟩ := x; exact Heap.lt_size e
  | dT kvs => obtain ⟨_, _, _, _, o, _, _, e, _⟩ := x; exact Heap.lt_size e
  | set S n => obtain ⟨o, _, _, _, e, _⟩ := x; exact Heap.lt_size e
  | ins C dx fs => obtain ⟨_, _, _, e, _⟩ := x; exact Heap.lt_size e
  | own y => obtain ⟨_, e⟩ := x; exact Heap.lt_size e
  | xd fs => obtain ⟨_, ⟨_, _, _, e, _⟩, _⟩ := x; exact Heap.lt_size e
  | rng lo hi => obtain ⟨_, _, _, e⟩ := x; exact Heap.lt_size e
  | frz ob u => obtain ⟨e, _⟩ := x; exact Heap.lt_size e
  | tbl ps => exact Heap.lt_size (show h.get? a = some _ from x)
  | met f y => exact Heap.lt_size (show h.get? a = some _ from x)
  | exc C dx fs => obtain ⟨_, _, e, _⟩ := x; exact Heap.lt_size e
  | ext φ => obtain ⟨_, ⟨_, e⟩, _⟩ := x; exact Heap.lt_size e
theorem Paired.mapP {α β : Type} {F G : α → β → Prop} : ∀ {l₁ : List α} {l₂ : List β}, Paired F l₁ l₂ → (∀ a b, F a b → G a b) → Paired G l₁ l₂
  | _, _, .nil, _ => .nil
  | _, _, .cons r t, f => .cons (f _ _ r) (Paired.mapP t f)
theorem ObjOk.stay (x : ObjOk P w H h a o) (k : ∀ b u, (b = a ∨ H b = some (.own a)) → h.get? b = some u → h'.get? b = some u)
    (ho : ∀ b, H b = some (.own a) → H' b = some (.own a)) (ht : ∀ b xs, H b = some (.tup xs) → H' b = some (.tup xs)) : ObjOk P w H' h' a o := by
  induction o with
  | lst xs => obtain ⟨z, its, n, r, e⟩ := x; exact ⟨z, its, n, r, k _ _ (.inl rfl) e⟩
  | tup xs => obtain ⟨z, its, r, ob, e, c⟩ := x; exact ⟨z, its, r, ob, k _ _ (.inl rfl) e, c⟩
  | dK kvs => obtain ⟨z, y, vs, r, ob, es, ep, e, c⟩ := x; exact ⟨z, y, vs, r, ob, es, ep, k _ _ (.inl rfl) e, c⟩
  | dT kvs =>
    obtain ⟨z, y, xs, r, ob, es, ep, e, c⟩ := x
    exact ⟨z, y, xs, Paired.mapP r fun p q z => ⟨z.1, ht _ _ z.2.1, z.2.2⟩, ob, es, ep, k _ _ (.inl rfl) e, c⟩
  | set S n => obtain ⟨ob, es, ep, t, e, c⟩ := x; exact ⟨ob, es, ep, t, k _ _ (.inl rfl) e, c⟩
  | ins C dx fs =>
    obtain ⟨d, z, ne, e, mA, ⟨od, es, ep, e2, c⟩, r⟩ := x
    exact ⟨ho _ d, z, ne, k _ _ (.inl rfl) e, mA, ⟨od, es, ep, k _ _ (.inr d) e2, c⟩, r⟩
  | own y => obtain ⟨ob, e⟩ := x; exact ⟨ob, k _ _ (.inl rfl) e⟩
  | xd fs => obtain ⟨mA, ⟨od, es, ep, e, c⟩, r⟩ := x; exact ⟨mA, ⟨od, es, ep, k _ _ (.inl rfl) e, c⟩, r⟩
  | rng lo hi => obtain ⟨t, u, v, e⟩ := x; exact ⟨t, u, v, k _ _ (.inl rfl) e⟩
  | frz ob u ih => obtain ⟨e, q⟩ := x; exact ⟨k _ _ (.inl rfl) e, ih q⟩
  | tbl ps =>
    have e : h.get? a = some { cls := .none, data := .fields ps } := x
    show h'.get? a = some { cls := .none, data := .fields ps }
    exact k a _ (.inl rfl) e
  | met f y =>
    have e : h.get? a = some (PySem.W.methodObj (.ref f) (.ref y)) := x
    show h'.get? a = some (PySem.W.methodObj (.ref f) (.ref y))
    exact k a _ (.inl rfl) e
  | exc C dx fs =>
    obtain ⟨ob, vs, e, hc, hd, hv, hl, hw, mA, hm, r⟩ := x
    refine ⟨ob, vs, k _ _ (.inl rfl) e, hc, hd, hv, hl, fun d q => ⟨ho _ (hw d q).1, (hw d q).2⟩, mA, ?_, r⟩
    cases dx with
    | none => exact hm
    | some d =>
      obtain ⟨od, es, ep, e2, c⟩ := hm
      exact ⟨od, es, ep, k _ _ (.inr (hw d rfl).1) e2, c⟩
  | ext φ => obtain ⟨p, ⟨o, e⟩, st⟩ := x; exact ⟨st _ _ p fun o q => k _ _ (.inl rfl) q, ⟨o, k _ _ (.inl rfl) e⟩, st⟩
theorem HOk.lt (x : HOk P w H h) (e : H a = some o) : a < h.objs.size := (x a o e).lt
theorem HOk.fresh (x : HOk P w H h) (e : h.objs.size ≤ a) : H a = none := by
  cases q : H a with
  | none => rfl
  | some u => exact absurd (Nat.lt_of_lt_of_le (x.lt q) e) (Nat.lt_irrefl _)
theorem HOk.kept (x : HOk P w H h) (k : ∀ b u, h.get? b = some u → h'.get? b = some u) : HOk P w H h' := fun a o e =>
  (x a o e).stay (fun b u _ q => k b u q) (fun _ q => q) fun _ _ q => q
theorem HOk.laid (x : HOk P w H h) (k : ∀ b u, h.get? b = some u → h'.get? b = some u) (hp : h.objs.size ≤ a) (new : ObjOk P w (upd H a o) h' a o) : HOk P w (upd H a o) h' := fun b u e => by
  have hn := x.fresh hp
  by_cases hb : b = a
  · subst hb; rw [upd_same] at e; cases e; exact new
  · rw [upd_ne hb] at e
    exact (x b u e).stay (fun c v _ q => k c v q) (fun c q => by rw [upd_ne (ne_of_none q hn)]; exact q) fun c xs q => by rw [upd_ne (ne_of_none q hn)]; exact q
end

def Rd (H : Hp) (a : Addr) (u : HO) : Prop := H a = some u ∨ ∃ o, H a = some (.frz o u)
theorem Rd.of {H : Hp} {a : Addr} {u : HO} (h : H a = some u) : Rd H a u := .inl h
theorem Rd.ok {P : Program} {w : World} {H : Hp} {h : Heap} {a : Addr} {u : HO} (r : Rd H a u) (x : HOk P w H h) : ObjOk P w H h a u := by
  rcases r with r | ⟨o, r⟩
  · exact x a u r
  · obtain ⟨_, q⟩ := x a _ r
    exact q
def Mut : Option HO → Prop
  | some (.lst _) => True
  | some (.dK _) => True
  | some (.dT _) => True
  | some (.set _ _) => True
  | some (.ins _ _ _) => True
  | some (.exc _ _ _) => True
  | some (.ext _) => True
  | _ => False
section
variable {P : Program} {w : World} {H : Hp} {h h' : Heap} {x e : Addr} {o' : HO}
theorem HOk.write (ok : HOk P w H h) (mu : Mut (H x)) (he : e = x ∨ H e = some (.own x)) (k : ∀ b u, b ≠ e → h.get? b = some u → h'.get? b = some u) (heo : ∃ u, h'.get? e = some u)
    (new : ObjOk P w (upd H x o') h' x o') : HOk P w (upd H x o') h' := fun b u q => by
  have nown : ∀ c y, H c = some (.own y) → c ≠ x := fun c y r z => by subst z; rw [r] at mu; exact mu
  have ntup : ∀ c xs, H c = some (.tup xs) → c ≠ x := fun c xs r z => by subst z; rw [r] at mu; exact mu
  by_cases hb : b = x
  · subst hb; rw [upd_same] at q; cases q; exact new
  · rw [upd_ne hb] at q
    by_cases hbe : b = e
    · have q' : H b = some (.own x) := by
        rcases he with z | z
        · exact absurd (hbe.trans z) hb
        · rw [hbe]; exact z
      rw [q] at q'; cases q'
      obtain ⟨v, hv⟩ := heo
      exact ⟨v, by rw [hbe]; exact hv⟩
    · refine (ok b u q).stay (fun c v hc r => k c v ?_ r) (fun c r => by rw [upd_ne (nown c b r)]; exact r) fun c xs r => by rw [upd_ne (ntup c xs r)]; exact r
      rcases hc with rfl | hc
      · exact hbe
      · rintro rfl
        rcases he with z | z
        · exact nown c b hc z
        · rw [hc] at z; cases z; exact hb rfl
end

/-! ### kept unless tracked; of the frames at fs (the callers') the slots may change (an exception that passes writes there); of the records at ex (iterators) nothing is said -/
structure Un (fs ex : List Addr) (H H' : Hp) (h h' : Heap) : Prop where
  keep : ∀ b o, h.get? b = some o → H b = none → b ∉ fs → b ∉ ex → h'.get? b = some o
  slot : ∀ b o, h.get? b = some o → H b = none → b ∈ fs → b ∉ ex → ∃ sl, h'.get? b = some { o with slots := sl }
  free : ∀ b o, h.get? b = some o → H b = none → b ∉ ex → H' b = none
  there : ∀ b o, h.get? b = some o → b ∉ ex → ∃ o', h'.get? b = some o'
  tups : ∀ b xs, H b = some (.tup xs) → H' b = some (.tup xs)
  frzs : ∀ b o u, H b = some (.frz o u) → H' b = some (.frz o u)
  tbls : ∀ b ps, H b = some (.tbl ps) → ∃ more, H' b = some (.tbl (ps ++ more))
section
variable {fs fs' ex ex' : List Addr} {H H1 H2 : Hp} {h h1 h2 h' : Heap} {a x e : Addr} {o : HO}
theorem Un.any (u : Un fs ex H H1 h h1) {b : Addr} {ob : Obj} (q : h.get? b = some ob) (n : H b = none) (hx : b ∉ ex) : ∃ sl, h1.get? b = some { ob with slots := sl } := by
  by_cases hb : b ∈ fs
  · exact u.slot b ob q n hb hx
  · exact ⟨ob.slots, u.keep b ob q n hb hx⟩
theorem Un.trans (a : Un fs ex H H1 h h1) (b : Un fs ex H1 H2 h1 h2) : Un fs ex H H2 h h2 where
  keep := fun c ob q n hc hx => b.keep c ob (a.keep c ob q n hc hx) (a.free c ob q n hx) hc hx
  slot := fun c ob q n hc hx => by
    obtain ⟨sl, e1⟩ := a.slot c ob q n hc hx
    obtain ⟨sl', e2⟩ := b.slot c _ e1 (a.free c ob q n hx) hc hx
    exact ⟨sl', e2⟩
  free := fun c ob q n hx => by
    obtain ⟨o', e1⟩ := a.there c ob q hx
    exact b.free c o' e1 (a.free c ob q n hx) hx
  there := fun c ob q hx => by
    obtain ⟨o', e1⟩ := a.there c ob q hx
    exact b.there c o' e1 hx
  tups := fun c xs q => b.tups c xs (a.tups c xs q)
  frzs := fun c ob xs q => b.frzs c ob xs (a.frzs c ob xs q)
  tbls := fun c ps q => by
    obtain ⟨m1, e1⟩ := a.tbls c ps q
    obtain ⟨m2, e2⟩ := b.tbls c _ e1
    exact ⟨m1 ++ m2, by rw [e2, Array.append_assoc]⟩
theorem Un.kept (k : ∀ b u, h.get? b = some u → h'.get? b = some u) : Un fs ex H H h h' :=
  ⟨fun b ob q _ _ _ => k b ob q, fun b ob q _ _ _ => ⟨ob.slots, k b ob q⟩, fun _ _ _ n _ => n, fun b ob q _ => ⟨ob, k b ob q⟩, fun _ _ q => q, fun _ _ _ q => q, fun _ ps q => ⟨#[], by rw [q]; simp⟩⟩
theorem Un.refl : Un fs ex H H h h := Un.kept fun _ _ q => q
theorem Un.laid (k : ∀ b u, h.get? b = some u → h'.get? b = some u) (hp : h.objs.size ≤ a) (hn : H a = none) : Un fs ex H (upd H a o) h h' where
  keep := fun b u q _ _ _ => k b u q
  slot := fun b u q _ _ _ => ⟨u.slots, k b u q⟩
  free := fun b u q n _ => by rw [upd_ne (Nat.ne_of_lt (Nat.lt_of_lt_of_le (Heap.lt_size q) hp))]; exact n
  there := fun b u q _ => ⟨u, k b u q⟩
  tups := fun b xs q => by rw [upd_ne (ne_of_none q hn)]; exact q
  frzs := fun b u xs q => by rw [upd_ne (ne_of_none q hn)]; exact q
  tbls := fun b ps q => ⟨#[], by rw [upd_ne (ne_of_none q hn), q]; simp⟩
theorem Un.write (mu : Mut (H x)) (he : e = x ∨ H e = some (.own x)) (k : ∀ b u, b ≠ e → h.get? b = some u → h'.get? b = some u) (heo : ∃ u, h'.get? e = some u) : Un fs ex H (upd H x o) h h' := by
  have hx : ∀ b, H b = none → b ≠ x := fun b n z => by subst z; rw [n] at mu; exact mu
  have hb : ∀ b, H b = none → b ≠ e := fun b n z => by
    subst z
    rcases he with r | r
    · exact hx b n r
    · rw [n] at r; cases r
  have hm : ∀ b u, H b = some u → ¬ Mut (some u) → b ≠ x := fun b u q nm z => by subst z; rw [q] at mu; exact nm mu
  refine ⟨fun b u q n _ _ => k b u (hb b n) q, fun b u q n _ _ => ⟨u.slots, k b u (hb b n) q⟩, fun b u q n _ => by rw [upd_ne (hx b n)]; exact n, fun b u q _ => ?_,
    fun b xs q => by rw [upd_ne (hm b _ q fun z => z)]; exact q, fun b u xs q => by rw [upd_ne (hm b _ q fun z => z)]; exact q, fun b ps q => ⟨#[], by rw [upd_ne (hm b _ q fun z => z), q]; simp⟩⟩
  by_cases hbe : b = e
  · subst hbe; exact heo
  · exact ⟨u, k b u hbe q⟩
theorem Un.mono (u : Un fs ex H H1 h h1) (hs : ∀ b ∈ fs, b ∈ fs') (hx : ∀ b ∈ ex, b ∈ ex') : Un fs' ex' H H1 h h1 :=
  ⟨fun b ob q n hb he => u.keep b ob q n (fun z => hb (hs b z)) fun z => he (hx b z), fun _ _ q n _ he => u.any q n fun z => he (hx _ z), fun b ob q n he => u.free b ob q n fun z => he (hx b z), fun b ob q he => u.there b ob q fun z => he (hx b z), u.tups, u.frzs, u.tbls⟩
end

/-! ### the heap without what is tracked -/
def trk (h : Heap) (H : Hp) : List Addr := (List.range h.objs.size).filter fun a => (H a).isSome
def hidT (h : Heap) (H : Hp) : Heap := PySem.W.hideAll h (trk h H)
theorem hidT_size (h : Heap) (H : Hp) : (hidT h H).objs.size = h.objs.size := PySem.W.hideAll_size _ _
theorem hidT_get {h : Heap} {H : Hp} {b : Addr} {o : Obj} (e : h.get? b = some o) (n : H b = none) : (hidT h H).get? b = some o :=
  PySem.W.hideAll_get _ e fun hm => by
    have q : (H b).isSome = true := (List.mem_filter.mp hm).2
    rw [n] at q; simp at q
theorem of_hidT {h : Heap} {H : Hp} {b : Addr} {o : Obj} (e : (hidT h H).get? b = some o) : h.get? b = some o ∧ H b = none := by
  have e' : h.get? b = some o := PySem.W.of_hideAll (trk h H) e
  refine ⟨e', ?_⟩
  cases q : H b with
  | none => rfl
  | some x =>
    have hm : b ∈ trk h H := List.mem_filter.mpr ⟨List.mem_range.mpr (Heap.lt_size e'), by simp [q]⟩
    have z : (hidT h H).get? b = none := PySem.W.hideAll_none (trk h H) hm
    rw [z] at e; cases e

/-! ### OpenK's ledger, filled with every new object but one -/
def allNews (g h : Heap) (L : Addr) : List (Addr × Obj) := (List.range h.objs.size).filterMap fun a => if a = L ∨ (g.get? a).isSome = true then none else (h.get? a).map fun o => (a, o)
def rest (g h : Heap) (L d : Addr) : List (Addr × Obj) := (allNews g h L).filter fun p => decide (p.1 ≠ d)
end L2

namespace L2
open PySem PySem.Spec PyProof.Rows

structure Mod (K : PySem.W.Frag) (mg : Str → Option Value) (base : Heap) : Prop where
  kin : K.In base
  glob : base.Ns mainGlobals mg
  blt : ∃ mb, base.Ns builtinsNs mb ∧ ∀ x : Str, x ≠ "__name__" → mb x = bootBuiltins x
  nolimit : base.NoLimit

structure Cx where
  prog : Program
  w : World
  K : PySem.W.Frag
  mg : Str → Option Value
  base : Heap
  A : Around
  N : List Str
  s₀ : Shared
  H₀ : Hp
  env : Env
  outer : List Env
  stack : List Env
  ex : List Addr
  fn : Str → Bool
  calm : Bool
  pn : List (Addr × Obj)
  xe : Value → Shared → Prop
def frs (l : List Env) : List Addr := l.filterMap (·.frame)
abbrev Cx.fs (X : Cx) : List Addr := frs X.outer

def Vis (sc : Scope) (x : Str) : Prop := sc.names.lookup x = some .local ∨ sc.names.lookup x = some .cell ∨ sc.names.lookup x = some .free
def Loc (sc : Scope) (x : Str) : Prop := sc.names.lookup x = some .local ∨ sc.names.lookup x = some .cell
def Look (env : Env) (h : Heap) (m : Str → Option Value) (x : Str) (u : Value) : Prop :=
  (env.kindOf x = some .local ∧ m x = some u) ∨ ((env.kindOf x = some .cell ∨ env.kindOf x = some .free) ∧ ∃ c, env.cells.lookup x = some c ∧ h.IsCell c (some u))

structure Cx.Ok (X : Cx) : Prop where
  mod : Mod X.K X.mg X.base
  kind : X.env.scope.kind = .function
  glob : X.env.globals = mainGlobals
  blt : X.env.builtins = builtinsNs
  above : X.s₀.heap.objs.size ≤ X.env.locals
  inj : ∀ x y c, X.env.cells.lookup x = some c → X.env.cells.lookup y = some c → x = y
  has : ∀ x, (X.env.kindOf x = some .cell ∨ X.env.kindOf x = some .free) → ∃ c, X.env.cells.lookup x = some c
  cab : ∀ x c, X.fn x = true → X.env.cells.lookup x = some c → X.s₀.heap.objs.size ≤ c
  hd : X.calm = true → X.A.handled = none
  frames : X.A.frames = some X.stack
  stk : X.stack = X.outer ∨ (X.stack = X.env :: X.outer ∧ X.env.frame = some X.env.locals)
  exf : ∀ b ∈ X.ex, b ≠ X.env.locals ∧ ∀ x c, X.env.cells.lookup x = some c → c ≠ b
  bs : ∀ b o, X.base.get? b = some o → X.s₀.heap.get? b = some o ∧ X.H₀ b = none
  bsz : X.base.objs.size ≤ X.s₀.heap.objs.size
  noex : ∀ b o, X.base.get? b = some o → b ∉ X.ex
  exfs : ∀ b ∈ X.ex, b ∉ X.fs
  funs : X.s₀.heap.FunFrames X.base X.outer
  frf : ∀ b ∈ X.fs, X.H₀ b = none

structure Inv (X : Cx) (pins : List (Addr × Obj)) (σ : List (Option V)) (H : Hp) (s : Shared) : Prop where
  ok : X.Ok
  os : s.os = X.s₀.os
  bare : AllBare s.gens
  base : Un X.fs X.ex X.H₀ H X.s₀.heap s.heap
  loc : ∃ m, s.heap.Ns X.env.locals m ∧ ∀ (i : Nat) (x : Str) (v : V), X.N[i]? = some x → σ[i]? = some (some v) → Vis X.env.scope x → ∃ u, RelV v u ∧ Look X.env s.heap m x u
  cell : ∀ x c, X.env.cells.lookup x = some c → ∃ v, s.heap.IsCell c v
  free : H X.env.locals = none
  freeC : ∀ x c, X.env.cells.lookup x = some c → H c = none
  pin : ∀ p ∈ X.pn ++ pins, s.heap.get? p.1 = some p.2 ∧ H p.1 = none ∧ p.1 ≠ X.env.locals ∧ p.1 ∉ X.fs ∧ ∀ v, p.2.data ≠ .cell v
  hok : HOk X.prog X.w H s.heap
  len : σ.length = X.N.length

section
variable {X : Cx} {pins : List (Addr × Obj)} {σ : List (Option V)} {H H' : Hp} {s : Shared} {h' : Heap}

theorem Cx.Ok.nofr (ok : X.Ok) {b : Addr} {o : Obj} (e : X.base.get? b = some o) : b ∉ X.fs := fun hb => by
  have := (ok.funs.mem hb).1
  rw [e] at this; cases this
theorem Inv.bs (I : Inv X pins σ H s) : ∀ b o, X.base.get? b = some o → s.heap.get? b = some o ∧ H b = none := fun b o e =>
  ⟨I.base.keep b o (I.ok.bs b o e).1 (I.ok.bs b o e).2 (I.ok.nofr e) (I.ok.noex b o e), I.base.free b o (I.ok.bs b o e).1 (I.ok.bs b o e).2 (I.ok.noex b o e)⟩
theorem Inv.bk (I : Inv X pins σ H s) : ∀ b o, X.base.get? b = some o → s.heap.get? b = some o := fun b o e => (I.bs b o e).1
theorem Inv.mod (I : Inv X pins σ H s) : Mod X.K X.mg X.base := I.ok.mod
theorem Inv.kIn (I : Inv X pins σ H s) : X.K.In s.heap := I.ok.mod.kin.keeps I.bk
theorem Inv.nolimit (I : Inv X pins σ H s) : s.heap.NoLimit := I.ok.mod.nolimit.keeps I.bk
theorem Inv.fr (I : Inv X pins σ H s) : ∃ m, Fr X.base X.env.locals s.heap m :=
  let ⟨m, hn, _⟩ := I.loc
  ⟨m, hn, I.bk, Nat.le_trans I.ok.bsz I.ok.above⟩
theorem Inv.lt (I : Inv X pins σ H s) : X.env.locals < s.heap.objs.size := let ⟨_, hn, _⟩ := I.loc; hn.lt
theorem Inv.sz (I : Inv X pins σ H s) : X.s₀.heap.objs.size ≤ s.heap.objs.size := Nat.le_trans I.ok.above (Nat.le_of_lt I.lt)
theorem Inv.nofs (I : Inv X pins σ H s) {a : Addr} (h : s.heap.objs.size ≤ a) : a ∉ X.fs := fun hb => by
  obtain ⟨_, o, ho, _⟩ := I.ok.funs.mem hb
  exact absurd (Nat.lt_of_lt_of_le (Heap.lt_size ho) (Nat.le_trans I.sz h)) (Nat.lt_irrefl _)
theorem Inv.cne (I : Inv X pins σ H s) : ∀ x c, X.env.cells.lookup x = some c → c ≠ X.env.locals := fun x c e z => by
  obtain ⟨v, o, ho, hd⟩ := I.cell x c e
  obtain ⟨m, ⟨o', es, ep, ho', hd', _⟩, _⟩ := I.loc
  rw [z, ho'] at ho; cases ho; rw [hd'] at hd; cases hd
theorem Inv.funs (I : Inv X pins σ H s) : s.heap.FunFrames X.base X.outer := by
  have all : ∀ (l : List Env), (∀ b ∈ frs l, b ∈ X.fs) → X.s₀.heap.FunFrames X.base l → s.heap.FunFrames X.base l := by
    intro l
    induction l with
    | nil => intro _ _; trivial
    | cons env r ih =>
      intro hs hl
      obtain ⟨hk, ⟨L, o, hf, hn, ho, hd⟩, hr⟩ := hl
      have hL : L ∈ X.fs := hs L (by unfold frs; rw [List.filterMap_cons, hf]; exact List.mem_cons_self)
      obtain ⟨sl, e⟩ := I.base.slot L o ho (I.ok.frf L hL) hL fun z => I.ok.exfs L z hL
      exact ⟨hk, ⟨L, _, hf, hn, e, hd⟩, ih (fun b hb => hs b (by unfold frs; rw [List.filterMap_cons, hf]; exact List.mem_cons_of_mem _ hb)) hr⟩
  exact all X.outer (fun _ hb => hb) I.ok.funs

theorem Inv.stack (I : Inv X pins σ H s) : s.heap.FunFrames X.base X.stack := by
  rcases I.ok.stk with e | ⟨e, hf⟩
  · rw [e]; exact I.funs
  · rw [e]
    obtain ⟨m, hn, _⟩ := I.loc
    refine .cons (by rw [I.ok.kind]; decide) hf hn ?_ I.funs
    exact Heap.get?_none_of_le (Nat.le_trans I.ok.bsz I.ok.above)
theorem Inv.stkSub (I : Inv X pins σ H s) : ∀ b ∈ frs X.stack, b ∈ X.env.locals :: X.fs := fun b hb => by
  rcases I.ok.stk with e | ⟨e, hf⟩
  · rw [e] at hb; exact List.mem_cons_of_mem _ hb
  · rw [e] at hb
    unfold frs at hb
    rw [List.filterMap_cons, hf] at hb
    exact hb
theorem Inv.stkFree (I : Inv X pins σ H s) : ∀ b ∈ frs X.stack, H b = none := fun b hb => by
  rcases List.mem_cons.mp (I.stkSub b hb) with e | hb
  · rw [e]; exact I.free
  · obtain ⟨_, o, ho, _⟩ := I.ok.funs.mem hb
    exact I.base.free b o ho (I.ok.frf b hb) fun z => I.ok.exfs b z hb

theorem Inv.step {g' : Array GenState} {t' : Nat} {d' : Drawn} {ch : List Addr} (I : Inv X pins σ H s)
    (hch : ∀ b ∈ ch, (b ∈ X.ex ∨ X.s₀.heap.objs.size ≤ b) ∧ b ≠ X.env.locals ∧ (∀ x c, X.env.cells.lookup x = some c → c ≠ b) ∧ ∀ p ∈ X.pn ++ pins, p.1 ≠ b)
    (keep : ∀ b o, b ≠ X.env.locals → b ∉ X.fs → b ∉ ch → s.heap.get? b = some o → H b = none → h'.get? b = some o)
    (slot : ∀ b o, b ≠ X.env.locals → b ∈ X.fs → b ∉ ch → s.heap.get? b = some o → H b = none → ∃ sl, h'.get? b = some { o with slots := sl }) (free : ∀ b o, b ∉ ch → s.heap.get? b = some o → H b = none → H' b = none)
    (there : ∀ b o, b ∉ ch → s.heap.get? b = some o → ∃ o', h'.get? b = some o')
    (tups : ∀ b xs, H b = some (.tup xs) → H' b = some (.tup xs)) (frzs : ∀ b o u, H b = some (.frz o u) → H' b = some (.frz o u)) (tbls : ∀ b ps, H b = some (.tbl ps) → ∃ more, H' b = some (.tbl (ps ++ more)))
    (ns : ∀ m, s.heap.Ns X.env.locals m → h'.Ns X.env.locals m) (hok : HOk X.prog X.w H' h') (hg : AllBare g') :
    Inv X pins σ H' { s with heap := h', gens := g', drawn := d', toks := t' } := by
  have neL : ∀ b o, X.s₀.heap.get? b = some o → b ≠ X.env.locals := fun b o e => Nat.ne_of_lt (Nat.lt_of_lt_of_le (Heap.lt_size e) I.ok.above)
  have neC : ∀ b o, X.s₀.heap.get? b = some o → b ∉ X.ex → b ∉ ch := fun b o e hx hb => by
    rcases (hch b hb).1 with z | z
    · exact hx z
    · exact absurd (Nat.lt_of_lt_of_le (Heap.lt_size e) z) (Nat.lt_irrefl _)
  have cellK : ∀ x c, X.env.cells.lookup x = some c → ∀ v, s.heap.IsCell c v → h'.IsCell c v := fun x c e v ⟨o, ho, hd⟩ => by
    have nch : c ∉ ch := fun z => (hch c z).2.2.1 x c e rfl
    by_cases hc : c ∈ X.fs
    · obtain ⟨sl, q⟩ := slot c o (I.cne x c e) hc nch ho (I.freeC x c e)
      exact ⟨_, q, hd⟩
    · exact ⟨o, keep c o (I.cne x c e) hc nch ho (I.freeC x c e), hd⟩
  refine ⟨I.ok, I.os, hg, ⟨fun b o e n hb hx => ?_, fun b o e n hb hx => ?_, fun b o e n hx => ?_, fun b o e hx => ?_, fun b xs e => tups b xs (I.base.tups b xs e), fun b o xs e => frzs b o xs (I.base.frzs b o xs e), fun b ps e => ?_⟩, ?_, fun x c e => ?_, ?_, fun x c e => ?_, fun p hp => ?_, hok, I.len⟩
  · exact keep b o (neL b o e) hb (neC b o e hx) (I.base.keep b o e n hb hx) (I.base.free b o e n hx)
  · obtain ⟨sl, e1⟩ := I.base.slot b o e n hb hx
    obtain ⟨sl', e2⟩ := slot b _ (neL b o e) hb (neC b o e hx) e1 (I.base.free b o e n hx)
    exact ⟨sl', e2⟩
  · obtain ⟨o', e1⟩ := I.base.there b o e hx
    exact free b o' (neC b o e hx) e1 (I.base.free b o e n hx)
  · obtain ⟨o', e1⟩ := I.base.there b o e hx
    exact there b o' (neC b o e hx) e1
  · obtain ⟨m1, e1⟩ := I.base.tbls b ps e
    obtain ⟨m2, e2⟩ := tbls b _ e1
    exact ⟨m1 ++ m2, by rw [e2, Array.append_assoc]⟩
  · obtain ⟨m, hn, hl⟩ := I.loc
    refine ⟨m, ns m hn, fun i x v e1 e2 e3 => ?_⟩
    obtain ⟨u, r, l⟩ := hl i x v e1 e2 e3
    refine ⟨u, r, ?_⟩
    rcases l with l | ⟨k, c, e, z⟩
    · exact .inl l
    · exact .inr ⟨k, c, e, cellK x c e _ z⟩
  · obtain ⟨v, z⟩ := I.cell x c e
    exact ⟨v, cellK x c e v z⟩
  · obtain ⟨m, ⟨o, _, _, ho, _⟩, _⟩ := I.loc
    exact free _ o (fun z => (hch _ z).2.1 rfl) ho I.free
  · obtain ⟨v, o, ho, hd⟩ := I.cell x c e
    exact free c o (fun z => (hch c z).2.2.1 x c e rfl) ho (I.freeC x c e)
  · obtain ⟨e, n, ne, nf, d⟩ := I.pin p hp
    have nch : p.1 ∉ ch := fun z => (hch p.1 z).2.2.2 p hp rfl
    exact ⟨keep p.1 p.2 ne nf nch e n, free p.1 p.2 nch e n, ne, nf, d⟩
theorem Inv.un {t' : Nat} (I : Inv X pins σ H s) (u : Un X.fs [] H H' s.heap h') (hok : HOk X.prog X.w H' h') : Inv X pins σ H' { s with heap := h', toks := t' } := by
  obtain ⟨m, ⟨o, es, ep, ho, r⟩, _⟩ := id I.loc
  obtain ⟨sl, hL⟩ := u.any ho I.free (by simp)
  exact I.step (g' := s.gens) (d' := s.drawn) (ch := []) (fun _ z => nomatch z) (fun b o _ hb _ e n => u.keep b o e n hb (by simp)) (fun b o _ hb _ e n => u.slot b o e n hb (by simp)) (fun b o _ e n => u.free b o e n (by simp)) (fun b o _ e => u.there b o e (by simp)) u.tups u.frzs u.tbls (fun m' hm => by
    obtain ⟨o', es', ep', ho', r'⟩ := hm
    rw [ho] at ho'; cases ho'
    exact ⟨_, es', ep', hL, r'⟩) hok I.bare
theorem Inv.call {g' : Array GenState} {t' : Nat} {d' : Drawn} {ch : List Addr} (I : Inv X pins σ H s) (u : Un (frs X.stack) ch H H' s.heap h') (hok : HOk X.prog X.w H' h') (hg : AllBare g')
    (hch : ∀ b ∈ ch, (b ∈ X.ex ∨ X.s₀.heap.objs.size ≤ b) ∧ b ≠ X.env.locals ∧ (∀ x c, X.env.cells.lookup x = some c → c ≠ b) ∧ ∀ p ∈ X.pn ++ pins, p.1 ≠ b) :
    Inv X pins σ H' { s with heap := h', gens := g', drawn := d', toks := t' } := by
  obtain ⟨m, ⟨o, es, ep, ho, r⟩, _⟩ := id I.loc
  obtain ⟨sl, hL⟩ := u.any ho I.free fun z => (hch _ z).2.1 rfl
  exact I.step (ch := ch) hch (fun b o hL hb hc e n => u.keep b o e n (fun z => (List.mem_cons.mp (I.stkSub b z)).elim hL hb) hc) (fun b o _ _ hc e n => u.any e n hc) (fun b o hc e n => u.free b o e n hc) (fun b o hc e => u.there b o e hc) u.tups u.frzs u.tbls (fun m' hm => by
    obtain ⟨o', es', ep', ho', r'⟩ := hm
    rw [ho] at ho'; cases ho'
    exact ⟨_, es', ep', hL, r'⟩) hok hg
theorem Inv.turned {t' : Nat} {it : Addr} (I : Inv X pins σ H s) (k : ∀ b o, b ≠ it → s.heap.get? b = some o → h'.get? b = some o) (hn : H it = none) (hL : it ≠ X.env.locals)
    (h1 : it ∈ X.ex ∨ X.s₀.heap.objs.size ≤ it) (h2 : ∀ x c, X.env.cells.lookup x = some c → c ≠ it) (h3 : ∀ p ∈ X.pn ++ pins, p.1 ≠ it) : Inv X pins σ H { s with heap := h', toks := t' } := by
  have nit : ∀ b u, H b = some u → b ≠ it := fun b u e z => by rw [z, hn] at e; cases e
  refine I.step (g' := s.gens) (d' := s.drawn) (ch := [it]) (fun b hb => ?_) (fun b o _ _ hc e _ => k b o (fun z => hc (by simp [z])) e) (fun b o _ _ hc e _ => ⟨o.slots, k b o (fun z => hc (by simp [z])) e⟩) (fun _ _ _ _ n => n)
    (fun b o hc e => ⟨o, k b o (fun z => hc (by simp [z])) e⟩) (fun _ _ e => e) (fun _ _ _ e => e) (fun b ps e => ⟨#[], by rw [e]; simp⟩) (fun m hm => ?_) (fun b u e => ?_) I.bare
  · have e : b = it := by simpa using hb
    subst e
    exact ⟨h1, hL, h2, h3⟩
  · obtain ⟨o, es, ep, ho, r⟩ := hm
    exact ⟨o, es, ep, k _ o (Ne.symm hL) ho, r⟩
  · refine (I.hok b u e).stay (fun c v hc q => k c v ?_ q) (fun _ q => q) fun _ _ q => q
    rcases hc with z | z
    · rw [z]; exact nit b u e
    · exact nit c _ z
theorem Inv.tok (I : Inv X pins σ H s) (t : Nat) : Inv X pins σ H { s with toks := t } := I.un (h' := s.heap) (t' := t) Un.refl I.hok
theorem Inv.kept {t' : Nat} (I : Inv X pins σ H s) (k : ∀ b u, s.heap.get? b = some u → h'.get? b = some u) : Inv X pins σ H { s with heap := h', toks := t' } := I.un (Un.kept k) (I.hok.kept k)
theorem Inv.laid {a : Addr} {o : HO} {t' : Nat} (I : Inv X pins σ H s) (k : ∀ b u, s.heap.get? b = some u → h'.get? b = some u) (hp : s.heap.objs.size ≤ a) (new : ObjOk X.prog X.w (upd H a o) h' a o) :
    Inv X pins σ (upd H a o) { s with heap := h', toks := t' } := I.un (Un.laid k hp (I.hok.fresh hp)) (I.hok.laid k hp new)
theorem Inv.write {x e : Addr} {o : HO} {t' : Nat} (I : Inv X pins σ H s) (mu : Mut (H x)) (he : e = x ∨ H e = some (.own x)) (k : ∀ b u, b ≠ e → s.heap.get? b = some u → h'.get? b = some u) (heo : ∃ u, h'.get? e = some u)
    (new : ObjOk X.prog X.w (upd H x o) h' x o) : Inv X pins σ (upd H x o) { s with heap := h', toks := t' } := I.un (Un.write mu he k heo) (I.hok.write mu he k heo new)
theorem Inv.weak {σ' : List (Option V)} (I : Inv X pins σ H s) (hl : σ'.length = σ.length) (w : ∀ (i : Nat) v, σ'[i]? = some (some v) → σ[i]? = some (some v)) : Inv X pins σ' H s :=
  ⟨I.ok, I.os, I.bare, I.base, let ⟨m, hn, hl'⟩ := I.loc; ⟨m, hn, fun i x v e1 e2 e3 => hl' i x v e1 (w i v e2) e3⟩, I.cell, I.free, I.freeC, I.pin, I.hok, hl.trans I.len⟩
theorem Inv.pins_of {pins' : List (Addr × Obj)} (I : Inv X pins σ H s) (h : ∀ p ∈ pins', s.heap.get? p.1 = some p.2 ∧ H p.1 = none ∧ p.1 ≠ X.env.locals ∧ p.1 ∉ X.fs ∧ ∀ v, p.2.data ≠ .cell v) : Inv X pins' σ H s :=
  ⟨I.ok, I.os, I.bare, I.base, I.loc, I.cell, I.free, I.freeC, fun p hp => (List.mem_append.mp hp).elim (fun z => I.pin p (List.mem_append_left _ z)) (h p), I.hok, I.len⟩

theorem nodup_ix {N : List Str} (hN : N.Nodup) {i j : Nat} {x : Str} (a : N[i]? = some x) (b : N[j]? = some x) : i = j := by
  obtain ⟨h1, e1⟩ := List.getElem?_eq_some_iff.mp a
  obtain ⟨h2, e2⟩ := List.getElem?_eq_some_iff.mp b
  exact (List.getElem_inj hN).mp (e1.trans e2.symm)

theorem store_ok2 {M : Model} {A : Around} {E : Value → Shared → Prop} {i : Nat} {x : Str} {v : V} {u : Value} {Q : Unit → Shared → Prop} (I : Inv X pins σ H s) (hN : X.N.Nodup) (hi : X.N[i]? = some x) (hx : Loc X.env.scope x) (r : RelV v u)
    (h : ∀ s', Inv X pins (σ.set i (some v)) H s' → (∃ a, Heap.SameBut a s.heap s'.heap ∧ (a = X.env.locals ∨ X.env.cells.lookup x = some a)) → Q () s') (hf : X.fn x = true ∨ X.env.scope.names.lookup x = some .local := by first | exact .inl rfl | exact .inr rfl | assumption) : wpAny M A (storeName X.env x u) Q E s := by
  obtain ⟨m, hn, hl⟩ := id I.loc
  have hcls : (X.env.scope.kind == .class || (X.env.scope.kind == .module && X.env.locals != X.env.globals)) = false := by rw [I.ok.kind]; rfl
  have hiσ : i < σ.length := by rw [I.len]; exact (List.getElem?_eq_some_iff.mp hi).1
  have cne := I.cne
  have tracked : ∀ {a : Addr} {h' : Heap}, (∃ o, s.heap.get? a = some o ∧ H a = none) → Heap.SameBut a s.heap h' → HOk X.prog X.w H h' := fun {a h'} ha hs b ob e => by
    obtain ⟨_, _, hfree⟩ := ha
    refine (I.hok b ob e).stay (fun c w' hc q => (hs.2 c ?_).trans q) (fun _ q => q) fun _ _ q => q
    rintro rfl
    rcases hc with rfl | hc
    · rw [hfree] at e; cases e
    · rw [hfree] at hc; cases hc
  rcases hx with hk | hk
  · refine wpAny_storeName_local hk hn (fun h' hn' hs => ?_) hcls
    obtain ⟨oL, _, _, hoL, _⟩ := id hn
    refine h _ ⟨I.ok, I.os, I.bare, ⟨fun b o e n hb hx => ?_, fun b o e n hb hx => ?_, I.base.free, fun b o e hx => ?_, I.base.tups, I.base.frzs, I.base.tbls⟩, ⟨_, hn', fun j y v' e1 e2 e3 => ?_⟩, fun y c e => ?_, I.free, I.freeC, fun p hp => ?_, tracked ⟨oL, hoL, I.free⟩ hs, by simpa using I.len⟩ ⟨_, hs, .inl rfl⟩
    · exact (hs.2 b (Nat.ne_of_lt (Nat.lt_of_lt_of_le (Heap.lt_size e) I.ok.above))).trans (I.base.keep b o e n hb hx)
    · obtain ⟨sl, e1⟩ := I.base.slot b o e n hb hx
      exact ⟨sl, (hs.2 b (Nat.ne_of_lt (Nat.lt_of_lt_of_le (Heap.lt_size e) I.ok.above))).trans e1⟩
    · obtain ⟨o', e1⟩ := I.base.there b o e hx
      exact ⟨o', (hs.2 b (Nat.ne_of_lt (Nat.lt_of_lt_of_le (Heap.lt_size e) I.ok.above))).trans e1⟩
    · by_cases hj : j = i
      · subst hj
        rw [hi] at e1; cases e1
        rw [List.getElem?_set_self hiσ] at e2
        cases e2
        exact ⟨u, r, .inl ⟨hk, by simp⟩⟩
      · rw [List.getElem?_set_ne (Ne.symm hj)] at e2
        obtain ⟨u', r', q⟩ := hl j y v' e1 e2 e3
        refine ⟨u', r', ?_⟩
        rcases q with ⟨k, e⟩ | ⟨k, c, e, z⟩
        · refine .inl ⟨k, ?_⟩
          have : y ≠ x := fun e => hj (nodup_ix hN e1 (e ▸ hi))
          simp [this, e]
        · exact .inr ⟨k, c, e, z.sameBut hs (cne y c e)⟩
    · obtain ⟨w', z⟩ := I.cell y c e
      exact ⟨w', z.sameBut hs (cne y c e)⟩
    · obtain ⟨e, n, ne, nf, d⟩ := I.pin p hp
      exact ⟨(hs.2 p.1 ne).trans e, n, ne, nf, d⟩
  · have hfn : X.fn x = true := by
      rcases hf with z | z
      · exact z
      · rw [z] at hk; cases hk
    obtain ⟨c, hc⟩ := I.ok.has x (.inl hk)
    obtain ⟨w', z⟩ := I.cell x c hc
    refine wpAny_storeName_cell I.ok.kind hk hc z (fun h' hc' hs => ?_)
    obtain ⟨oc, hoc, hocd⟩ := id z
    refine h { s with heap := h' } ⟨I.ok, I.os, I.bare, ⟨fun b o e n hb hx => ?_, fun b o e n hb hx => ?_, I.base.free, fun b o e hx => ?_, I.base.tups, I.base.frzs, I.base.tbls⟩, ⟨m, hn.sameBut hs (Ne.symm (cne x c hc)), fun j y v' e1 e2 e3 => ?_⟩, fun y c' e => ?_, I.free, I.freeC, fun p hp => ?_, tracked ⟨oc, hoc, I.freeC x c hc⟩ hs, by simpa using I.len⟩ ⟨c, hs, .inr hc⟩
    · exact (hs.2 b (Nat.ne_of_lt (Nat.lt_of_lt_of_le (Heap.lt_size e) (I.ok.cab x c hfn hc)))).trans (I.base.keep b o e n hb hx)
    · obtain ⟨sl, e1⟩ := I.base.slot b o e n hb hx
      exact ⟨sl, (hs.2 b (Nat.ne_of_lt (Nat.lt_of_lt_of_le (Heap.lt_size e) (I.ok.cab x c hfn hc)))).trans e1⟩
    · obtain ⟨o', e1⟩ := I.base.there b o e hx
      exact ⟨o', (hs.2 b (Nat.ne_of_lt (Nat.lt_of_lt_of_le (Heap.lt_size e) (I.ok.cab x c hfn hc)))).trans e1⟩
    · by_cases hj : j = i
      · subst hj
        rw [hi] at e1; cases e1
        rw [List.getElem?_set_self hiσ] at e2
        cases e2
        exact ⟨u, r, .inr ⟨.inl hk, c, hc, hc'⟩⟩
      · rw [List.getElem?_set_ne (Ne.symm hj)] at e2
        obtain ⟨u', r', q⟩ := hl j y v' e1 e2 e3
        refine ⟨u', r', ?_⟩
        rcases q with q | ⟨k, c', e, z'⟩
        · exact .inl q
        · refine .inr ⟨k, c', e, z'.sameBut hs ?_⟩
          rintro rfl
          exact hj (nodup_ix hN e1 (I.ok.inj _ _ _ e hc ▸ hi))
    · by_cases hcc : c' = c
      · subst hcc; exact ⟨_, hc'⟩
      · obtain ⟨w2, z2⟩ := I.cell y c' e
        exact ⟨w2, z2.sameBut hs hcc⟩
    · obtain ⟨e, n, ne, nf, d⟩ := I.pin p hp
      refine ⟨(hs.2 p.1 ?_).trans e, n, ne, nf, d⟩
      intro q
      rw [q, hoc] at e
      have q' : oc = p.2 := Option.some.inj e
      exact d w' (by rw [← q']; exact hocd)
theorem store_ok {M : Model} {A : Around} {E : Value → Shared → Prop} {i : Nat} {x : Str} {v : V} {u : Value} {Q : Unit → Shared → Prop} (I : Inv X pins σ H s) (hN : X.N.Nodup) (hi : X.N[i]? = some x) (hx : Loc X.env.scope x) (r : RelV v u)
    (h : ∀ s', Inv X pins (σ.set i (some v)) H s' → Q () s') (hf : X.fn x = true ∨ X.env.scope.names.lookup x = some .local := by first | exact .inl rfl | exact .inr rfl | assumption) : wpAny M A (storeName X.env x u) Q E s :=
  store_ok2 I hN hi hx r (fun s' I' _ => h s' I') hf
theorem Inv.call' {s' : Shared} {ch : List Addr} (I : Inv X pins σ H s) (ho : s'.os = s.os) (u : Un (frs X.stack) ch H H' s.heap s'.heap) (hok : HOk X.prog X.w H' s'.heap) (hg : AllBare s'.gens)
    (hch : ∀ b ∈ ch, (b ∈ X.ex ∨ X.s₀.heap.objs.size ≤ b) ∧ b ≠ X.env.locals ∧ (∀ x c, X.env.cells.lookup x = some c → c ≠ b) ∧ ∀ p ∈ X.pn ++ pins, p.1 ≠ b) : Inv X pins σ H' s' := by
  obtain ⟨h', g', d', t', o'⟩ := s'
  have e : o' = s.os := ho
  subst e
  exact I.call (g' := g') (t' := t') (d' := d') u hok hg hch
end

/-! ### the judgements -/
abbrev XK := Value → Option Addr → Hp → Prop
abbrev St := List (Option V)
abbrev VK := V → Hp → Prop
abbrev TE := St → Hp → VK → Prop
abbrev TT := St → Hp → (Bool → Hp → Prop) → Prop
abbrev TA := St → Hp → (List V → Hp → Prop) → Prop
structure Ends where
  nx : St → Hp → Prop
  rt : VK
  bk : St → Hp → Prop := fun _ _ => False
  ct : St → Hp → Prop := fun _ _ => False
abbrev TS := Ends → St → Hp → Prop

def EP (X : Cx) (pins : List (Addr × Obj)) (σ : St) (Q : VK) (u : Value) (s' : Shared) : Prop := ∃ v H', Inv X pins σ H' s' ∧ RelV v u ∧ Q v H'
def TP (X : Cx) (pins : List (Addr × Obj)) (σ : St) (Q : Bool → Hp → Prop) (b : Bool) (s' : Shared) : Prop := ∃ H', Inv X pins σ H' s' ∧ Q b H'
def AP (X : Cx) (pins : List (Addr × Obj)) (σ : St) (Q : List V → Hp → Prop) (us : List Value) (s' : Shared) : Prop := ∃ vs H', Inv X pins σ H' s' ∧ Vals vs us ∧ Q vs H'
def SP (X : Cx) (pins : List (Addr × Obj)) (D : Ends) (f : Flow) (s' : Shared) : Prop :=
  match f with
  | .next => ∃ σ' H', Inv X pins σ' H' s' ∧ D.nx σ' H'
  | .brk => ∃ σ' H', Inv X pins σ' H' s' ∧ D.bk σ' H'
  | .cont => ∃ σ' H', Inv X pins σ' H' s' ∧ D.ct σ' H'
  | .ret u => ∃ v σ' H', Inv X pins σ' H' s' ∧ RelV v u ∧ D.rt v H'

def PE (X : Cx) (e : Expr) (t : TE) : Prop :=
  ∀ (pins : List (Addr × Obj)) (s : Shared) (σ : St) (H : Hp) (Q : VK), Inv X pins σ H s → t σ H Q → wpAny (model X.prog X.w) X.A (eval e X.env) (EP X pins σ Q) X.xe s
def PT (X : Cx) (e : Expr) (t : TT) : Prop :=
  ∀ (pins : List (Addr × Obj)) (s : Shared) (σ : St) (H : Hp) (Q : Bool → Hp → Prop), Inv X pins σ H s → t σ H Q → wpAny (model X.prog X.w) X.A (isTrue e X.env (eval e X.env)) (TP X pins σ Q) X.xe s
def PW (X : Cx) (e : Expr) (t : TT) : Prop :=
  ∀ (whole : Sem Value) (pins : List (Addr × Obj)) (s : Shared) (σ : St) (H : Hp) (Q : Bool → Hp → Prop), Inv X pins σ H s → t σ H Q → wpAny (model X.prog X.w) X.A (isTrue e X.env whole) (TP X pins σ Q) X.xe s
theorem PW.pt {X : Cx} {e : Expr} {t : TT} (h : PW X e t) : PT X e t := h _
def PA (X : Cx) (es : List Expr) (t : TA) : Prop :=
  ∀ (pos : Pos) (pins : List (Addr × Obj)) (s : Shared) (σ : St) (H : Hp) (Q : List V → Hp → Prop), Inv X pins σ H s → t σ H Q → wpAny (model X.prog X.w) X.A (spliced (backTo pos (starEach es X.env))) (AP X pins σ Q) X.xe s
def PS (X : Cx) (st : Stmt) (t : TS) : Prop :=
  ∀ (pins : List (Addr × Obj)) (s : Shared) (σ : St) (H : Hp) (D : Ends), Inv X pins σ H s → t D σ H → wpAny (model X.prog X.w) X.A (exec st X.env) (SP X pins D) X.xe s
def PSs (X : Cx) (st : List Stmt) (t : TS) : Prop :=
  ∀ (pins : List (Addr × Obj)) (s : Shared) (σ : St) (H : Hp) (D : Ends), Inv X pins σ H s → t D σ H → wpAny (model X.prog X.w) X.A (execs st X.env) (SP X pins D) X.xe s
theorem thn {α : Type} {t : Sem α} {Q Q' : α → Shared → Prop} {M : Model} {A : Around} {E : Value → Shared → Prop} {s : Shared} (h : wpAny M A t Q E s) (hQ : ∀ a s, Q a s → Q' a s) : wpAny M A t Q' E s := wpAny_mono h hQ fun _ _ x => x
end L2

namespace L2
open PySem PySem.Spec PyProof.Rows
section
variable {X : Cx}

/-! ### names and constants -/
def tVar (i : Nat) : TE := fun σ H Q => ∃ v, σ[i]? = some (some v) ∧ Q v H
def tC (v : V) : TE := fun _ H Q => Q v H
theorem pe_var {i : Nat} {x : Str} {pos : Pos} (hN : X.N[i]? = some x) (hv : Vis X.env.scope x) (hd : (x == ("__debug__" : Str)) = false := by decide) (hcd : (x == ("__classdict__" : Str)) = false := by decide) : PE X (.Name x pos) (tVar i) := by
  intro pins s σ H Q I h
  obtain ⟨v, e, h⟩ := h
  obtain ⟨m, hn, hl⟩ := I.loc
  obtain ⟨u, r, l⟩ := hl i x v hN e hv
  have fin : EP X pins σ Q u s := ⟨v, H, I, r, h⟩
  rcases l with ⟨hk, hm⟩ | ⟨hk, c, hc, hcell⟩
  · exact wpAny_Name (wpAny_loadName_local I.ok.kind hk hn hm fin) hd
  · rcases hk with hk | hk
    · exact wpAny_Name (wpAny_loadName_cell I.ok.kind hk hc hcell fin) hd
    · exact wpAny_Name (wpAny_loadName_free I.ok.kind hk hc hcell fin hcd) hd
theorem pe_int {i j pos} : PE X (.Constant (.int i) j pos) (tC (.int i)) := fun _ _ _ H _ I h => wpAny_Constant_int ⟨.int i, H, I.tok _, ⟨_, rfl⟩, h⟩
theorem pe_bl {b j pos} : PE X (.Constant (.bool b) j pos) (tC (.bl b)) := fun _ _ _ H _ I h => Constant_bool ⟨.bl b, H, I, rfl, h⟩
theorem pe_non {j pos} : PE X (.Constant .none j pos) (tC .non) := fun _ _ _ H _ I h => Constant_none ⟨.non, H, I, rfl, h⟩
def Gl (X : Cx) (x : Str) : Prop := X.env.kindOf x = some .globalImplicit
theorem ld_glob {E : Value → Shared → Prop} {pins : List (Addr × Obj)} {s : Shared} {σ : St} {H : Hp} {x : Str} {u : Value} {pos : Pos} {Q : Value → Shared → Prop} (I : Inv X pins σ H s) (hg : Gl X x) (hm : X.mg x = some u) (h : Q u s)
    (hd : (x == ("__debug__" : Str)) = false := by decide) : wpAny (model X.prog X.w) X.A (eval (.Name x pos) X.env) Q E s :=
  Calls.Name_function_global I.ok.kind hg (Calls.loadGlobal_global (by rw [I.ok.glob]; exact I.mod.glob.keeps I.bk) hm h) hd
theorem ld_blt {E : Value → Shared → Prop} {pins : List (Addr × Obj)} {s : Shared} {σ : St} {H : Hp} {x : Str} {u : Value} {pos : Pos} {Q : Value → Shared → Prop} (I : Inv X pins σ H s) (hg : Gl X x) (hm : X.mg x = none) (hv : bootBuiltins x = some u) (h : Q u s)
    (hn : x ≠ "__name__" := by decide) (hd : (x == ("__debug__" : Str)) = false := by decide) : wpAny (model X.prog X.w) X.A (eval (.Name x pos) X.env) Q E s := by
  obtain ⟨mb, h1, h2⟩ := I.mod.blt
  exact Calls.Name_function_global I.ok.kind hg (Calls.loadGlobal_builtin (by rw [I.ok.glob]; exact I.mod.glob.keeps I.bk) hm (by rw [I.ok.blt]; exact h1.keeps I.bk) ((h2 x hn).trans hv) h) hd
theorem pe_glob {x : Str} {v : V} {u : Value} {pos : Pos} (hg : Gl X x) (hm : X.mg x = some u) (r : RelV v u) (hd : (x == ("__debug__" : Str)) = false := by decide) : PE X (.Name x pos) (tC v) :=
  fun _ _ _ H _ I h => ld_glob I hg hm ⟨v, H, I, r, h⟩ hd
theorem pe_bltn {x : Str} {v : V} {u : Value} {pos : Pos} (hg : Gl X x) (hm : X.mg x = none) (hv : bootBuiltins x = some u) (r : RelV v u) (hn : x ≠ "__name__" := by decide) (hd : (x == ("__debug__" : Str)) = false := by decide) : PE X (.Name x pos) (tC v) :=
  fun _ _ _ H _ I h => ld_blt I hg hm hv ⟨v, H, I, r, h⟩ hn hd

/-! ### arithmetic -/
def t2I (ta tb : TE) (k : Int → Int → Hp → Prop) : St → Hp → Prop := fun σ H => ta σ H fun x H1 => tb σ H1 fun y H2 => ∃ i j, x = .int i ∧ y = .int j ∧ k i j H2
variable {a b : Expr} {ta tb : TE} {pos : Pos}
/-! ### comparisons -/
def tCmp (p : Int → Int → Bool) (ta tb : TE) : TE := fun σ H Q => t2I ta tb (fun i j H2 => Q (.bl (p i j)) H2) σ H
abbrev tLt : TE → TE → TE := tCmp fun i j => decide (i < j)
abbrev tLe : TE → TE → TE := tCmp fun i j => decide (i ≤ j)
abbrev tGt : TE → TE → TE := tCmp fun i j => decide (j < i)
abbrev tGe : TE → TE → TE := tCmp fun i j => decide (j ≤ i)
abbrev tEqI : TE → TE → TE := tCmp fun i j => decide (i = j)
abbrev tNeI : TE → TE → TE := tCmp fun i j => !decide (i = j)
/-! ### and, or, not -/
variable {tA tB' : TT} {rest : List Expr}
def tAnd (t u : TT) : TT := fun σ H Q => t σ H fun c H1 => if c = true then u σ H1 Q else Q false H1
def tOr (t u : TT) : TT := fun σ H Q => t σ H fun c H1 => if c = true then Q true H1 else u σ H1 Q
def tNot (t : TT) : TT := fun σ H Q => t σ H fun c H1 => Q (!c) H1
theorem pw_and1 (ha : PT X a tA) : PW X (.BoolOp .And [a] pos) tA := by
  intro wh pins s σ H Q I h
  refine isTrue_and (thn (ha pins s σ H Q I h) fun c s1 e => ?_)
  cases c with
  | true => exact isTrue_and_nil e
  | false => exact e
theorem pw_or1 (ha : PT X a tA) : PW X (.BoolOp .Or [a] pos) tA := by
  intro wh pins s σ H Q I h
  refine isTrue_or (thn (ha pins s σ H Q I h) fun c s1 e => ?_)
  cases c with
  | false => exact isTrue_or_nil e
  | true => exact e
theorem pw_and (ha : PT X a tA) (hb : PW X (.BoolOp .And (b :: rest) pos) tB') : PW X (.BoolOp .And (a :: b :: rest) pos) (tAnd tA tB') := by
  intro wh pins s σ H Q I h
  refine isTrue_and (thn (ha pins s σ H _ I h) fun c s1 ⟨H1, I1, q1⟩ => ?_)
  cases c with
  | true => exact hb wh pins s1 σ H1 Q I1 q1
  | false => exact ⟨H1, I1, q1⟩
theorem pw_or (ha : PT X a tA) (hb : PW X (.BoolOp .Or (b :: rest) pos) tB') : PW X (.BoolOp .Or (a :: b :: rest) pos) (tOr tA tB') := by
  intro wh pins s σ H Q I h
  refine isTrue_or (thn (ha pins s σ H _ I h) fun c s1 ⟨H1, I1, q1⟩ => ?_)
  cases c with
  | true => exact ⟨H1, I1, q1⟩
  | false => exact hb wh pins s1 σ H1 Q I1 q1
theorem pt_not (ha : PT X a tA) : PT X (.UnaryOp .Not a pos) (tNot tA) := by
  intro pins s σ H Q I h
  exact isTrue_not (ha pins s σ H (fun c H1 => Q (!c) H1) I h)
def tAndV (ta tb : TE) : TE := fun σ H Q => ta σ H fun x H1 => ∃ c, x = .bl c ∧ if c = true then tb σ H1 Q else Q (.bl false) H1
def tNotV (ta : TE) : TE := fun σ H Q => ta σ H fun x H1 => ∃ c, x = .bl c ∧ Q (.bl (!c)) H1
theorem pe_one {op} {t : TE} (h : PE X a t) : PE X (.BoolOp op [a] pos) t := fun pins s σ H Q I hw => BoolOp_one (h pins s σ H Q I hw)
theorem pe_and (ha : PE X a ta) (hb : PE X (.BoolOp .And (b :: rest) pos) tb) : PE X (.BoolOp .And (a :: b :: rest) pos) (tAndV ta tb) := by
  intro pins s σ H Q I h
  refine BoolOp_and (thn (ha pins s σ H _ I h) fun v s1 ⟨x, H1, I1, r1, q1⟩ => ?_)
  obtain ⟨c, rfl, q1⟩ := q1
  cases r1
  refine wpAny_truthy_bool ?_
  cases c with
  | true => exact hb pins s1 σ H1 Q I1 q1
  | false => exact ⟨.bl false, H1, I1, rfl, q1⟩
theorem pe_not (ha : PE X a ta) : PE X (.UnaryOp .Not a pos) (tNotV ta) := by
  intro pins s σ H Q I h
  refine UnaryOp_ (thn (ha pins s σ H _ I h) fun v s1 ⟨x, H1, I1, r1, q1⟩ => ?_)
  obtain ⟨c, rfl, q1⟩ := q1
  cases r1
  exact not_of (wpAny_truthy_bool ⟨.bl (!c), H1, I1, rfl, q1⟩)
def tIf (t : TT) (ta tb : TE) : TE := fun σ H Q => t σ H fun c H1 => if c = true then ta σ H1 Q else tb σ H1 Q
theorem pe_ifExp {c : Expr} (hc : PT X c tA) (ha : PE X a ta) (hb : PE X b tb) : PE X (.IfExp c a b pos) (tIf tA ta tb) := by
  intro pins s σ H Q I h
  refine wpAny_IfExp (thn (hc pins s σ H _ I h) fun d s1 ⟨H1, I1, q1⟩ => ?_)
  cases d with
  | true => exact ha pins s1 σ H1 Q I1 q1
  | false => exact hb pins s1 σ H1 Q I1 q1
end
end L2

namespace L2
open PySem PySem.Spec PyProof.Rows

/-! ### a list, a tuple that is read: tracked, frozen, or an object of the module -/
def SqL (K : PySem.W.Frag) (H : Hp) (a : Addr) (xs : List V) : Prop :=
  Rd H a (.lst xs) ∨
    ∃ (o : Obj) (its : Array Value) (n : Nat), K.lookup a = some o ∧ o.cls = .type "list" ∧ o.dict = none ∧ o.data = .seq its n ∧ its.size ≤ sizeLine ∧ Vals xs its.toList
def SqT (K : PySem.W.Frag) (H : Hp) (a : Addr) (xs : List V) : Prop :=
  Rd H a (.tup xs) ∨
    ∃ (o : Obj) (its : Array Value) (n : Nat), K.lookup a = some o ∧ o.cls = .type "tuple" ∧ o.data = .seq its n ∧ its.size ≤ sizeLine ∧ Vals xs its.toList
def absV : Value → Option V
  | .none => some .non
  | .bool b => some (.bl b)
  | .int i _ => some (.int i)
  | .str x _ => some (.str x)
  | .bytes b _ => some (.byt b)
  | .float b _ => some (.flt b)
  | .ref a => some (.ref a)
  | .type n => some (.ty n)
  | _ => none
theorem RelV.abs {x : V} {u : Value} (r : RelV x u) : absV u = some x := by
  cases x with
  | non => cases r; rfl
  | bl _ => cases r; rfl
  | int _ => obtain ⟨t, rfl⟩ := r; rfl
  | str _ => obtain ⟨t, rfl⟩ := r; rfl
  | byt _ => obtain ⟨t, rfl⟩ := r; rfl
  | flt _ => obtain ⟨t, rfl⟩ := r; rfl
  | ref _ => cases r; rfl
  | ty _ => cases r; rfl
theorem RelV.inj {x y : V} {u : Value} (r : RelV x u) (q : RelV y u) : x = y := Option.some.inj (r.abs.symm.trans q.abs)
theorem Vals.inj : ∀ {xs ys : List V} {us : List Value}, Vals xs us → Vals ys us → xs = ys
  | _, _, _, .nil, .nil => rfl
  | _, _, _, .cons r t, .cons r' t' => by rw [r.inj r', Vals.inj t t']
section
variable {X : Cx} {pins : List (Addr × Obj)} {σ : St} {H : Hp} {s : Shared} {a : Addr} {xs ys : List V}
theorem SqL.of {K : PySem.W.Frag} (h : H a = some (.lst xs)) : SqL K H a xs := .inl (.inl h)
theorem SqT.of {K : PySem.W.Frag} (h : H a = some (.tup xs)) : SqT K H a xs := .inl (.inl h)
theorem Inv.list (I : Inv X pins σ H s) (h : SqL X.K H a xs) : ∃ its : List Value, Vals xs its ∧ PlainL s.heap a its.toArray ∧ xs.length ≤ sizeLine := by
  rcases h with h | ⟨o, its, n, hk, hc, hd, hs, hz, r⟩
  · obtain ⟨z, its, n, r, e⟩ := h.ok I.hok
    exact ⟨its, r, ⟨_, n, e, rfl, rfl, rfl⟩, z⟩
  · refine ⟨its.toList, r, ⟨o, n, I.kIn a o hk, hc, hd, by simpa using hs⟩, ?_⟩
    have e := r.length
    simp only [Array.length_toList] at e
    omega
theorem Inv.tuple (I : Inv X pins σ H s) (h : SqT X.K H a xs) : ∃ its : List Value, Vals xs its ∧ IsTup s.heap a its.toArray ∧ xs.length ≤ sizeLine := by
  rcases h with h | ⟨o, its, n, hk, hc, hs, hz, r⟩
  · obtain ⟨z, its, r, p⟩ := h.ok I.hok
    exact ⟨its, r, p, z⟩
  · refine ⟨its.toList, r, ⟨o, I.kIn a o hk, hc, n, by simpa using hs⟩, ?_⟩
    have e := r.length
    simp only [Array.length_toList] at e
    omega
theorem Inv.list_inj (I : Inv X pins σ H s) (h : SqL X.K H a xs) (h' : SqL X.K H a ys) : xs = ys := by
  obtain ⟨its, r, ⟨o, n, e, _, _, d⟩, _⟩ := I.list h
  obtain ⟨its', r', ⟨o', n', e', _, _, d'⟩, _⟩ := I.list h'
  rw [e] at e'; cases e'
  rw [d] at d'
  injection d' with d1 _
  have : its = its' := by simpa using congrArg Array.toList d1
  subst this
  exact r.inj r'
theorem Inv.tuple_inj (I : Inv X pins σ H s) (h : SqT X.K H a xs) (h' : SqT X.K H a ys) : xs = ys := by
  obtain ⟨its, r, ⟨o, e, _, n, d⟩, _⟩ := I.tuple h
  obtain ⟨its', r', ⟨o', e', _, n', d'⟩, _⟩ := I.tuple h'
  rw [e] at e'; cases e'
  rw [d] at d'
  injection d' with d1 _
  have : its = its' := by simpa using congrArg Array.toList d1
  subst this
  exact r.inj r'
end

/-! ### another wish about exceptions -/
abbrev Cx.wish (X : Cx) (E : Value → Shared → Prop) : Cx := { X with xe := E }
abbrev Cx.nox (X : Cx) : Cx := X.wish fun _ _ => False
theorem Cx.Ok.wish {X : Cx} (ok : X.Ok) (E : Value → Shared → Prop) : (X.wish E).Ok :=
  ⟨ok.mod, ok.kind, ok.glob, ok.blt, ok.above, ok.inj, ok.has, ok.cab, ok.hd, ok.frames, ok.stk, ok.exf, ok.bs, ok.bsz, ok.noex, ok.exfs, ok.funs, ok.frf⟩
theorem Cx.Ok.unwish {X : Cx} {E : Value → Shared → Prop} (ok : (X.wish E).Ok) : X.Ok :=
  ⟨ok.mod, ok.kind, ok.glob, ok.blt, ok.above, ok.inj, ok.has, ok.cab, ok.hd, ok.frames, ok.stk, ok.exf, ok.bs, ok.bsz, ok.noex, ok.exfs, ok.funs, ok.frf⟩
section
variable {X : Cx} {pins : List (Addr × Obj)} {σ : St} {H : Hp} {s : Shared} {E : Value → Shared → Prop}
theorem Inv.wish (I : Inv X pins σ H s) (E : Value → Shared → Prop) : Inv (X.wish E) pins σ H s := ⟨I.ok.wish E, I.os, I.bare, I.base, I.loc, I.cell, I.free, I.freeC, I.pin, I.hok, I.len⟩
theorem Inv.unwish (I : Inv (X.wish E) pins σ H s) : Inv X pins σ H s := ⟨I.ok.unwish, I.os, I.bare, I.base, I.loc, I.cell, I.free, I.freeC, I.pin, I.hok, I.len⟩
theorem SP.unwish {D : Ends} {f : Flow} {s' : Shared} (h : SP (X.wish E) pins D f s') : SP X pins D f s' := by
  cases f with
  | next => obtain ⟨σ', H', I, q⟩ := h; exact ⟨σ', H', I.unwish, q⟩
  | brk => obtain ⟨σ', H', I, q⟩ := h; exact ⟨σ', H', I.unwish, q⟩
  | cont => obtain ⟨σ', H', I, q⟩ := h; exact ⟨σ', H', I.unwish, q⟩
  | ret u => obtain ⟨v, σ', H', I, r, q⟩ := h; exact ⟨v, σ', H', I.unwish, r, q⟩
theorem PE.nox {e : Expr} {t : TE} (h : PE X.nox e t) : PE X e t := fun pins s σ H Q I hw =>
  wpAny_mono (h pins s σ H Q (I.wish _) hw) (fun _ _ ⟨v, H', I', r, q⟩ => ⟨v, H', I'.unwish, r, q⟩) fun _ _ z => False.elim z
theorem PT.nox {e : Expr} {t : TT} (h : PT X.nox e t) : PT X e t := fun pins s σ H Q I hw =>
  wpAny_mono (h pins s σ H Q (I.wish _) hw) (fun _ _ ⟨H', I', q⟩ => ⟨H', I'.unwish, q⟩) fun _ _ z => False.elim z
theorem PSs.nox {st : List Stmt} {t : TS} (h : PSs X.nox st t) : PSs X st t := fun pins s σ H D I hw =>
  wpAny_mono (h pins s σ H D (I.wish _) hw) (fun _ _ q => q.unwish) fun _ _ z => False.elim z
end

/-! ### blocks and small statements -/
section
variable {X : Cx} {st : Stmt} {rest : List Stmt} {t u : TS} {e : Expr} {te : TE} {pos : Pos}
def tNext : TS := fun D σ H => D.nx σ H
def tSeq (t u : TS) : TS := fun D σ H => t { D with nx := u D } σ H
theorem pss_nil : PSs X [] tNext := fun _ _ σ H _ I h => wpAny_execs_nil ⟨σ, H, I, h⟩
theorem pss_cons (h1 : PS X st t) (h2 : PSs X rest u) : PSs X (st :: rest) (tSeq t u) := by
  intro pins s σ H D I h
  refine wpAny_execs_cons (thn (h1 pins s σ H { D with nx := u D } I h) fun f s1 q => ?_)
  cases f with
  | next =>
    obtain ⟨σ', H', I', q⟩ := q
    exact h2 pins s1 σ' H' D I' q
  | ret v => exact q
  | brk => exact q
  | cont => exact q
theorem pss_one (h1 : PS X st t) : PSs X [st] t := by
  intro pins s σ H D I h
  refine wpAny_execs_cons (thn (h1 pins s σ H D I h) fun f s1 q => ?_)
  cases f with
  | next => exact wpAny_execs_nil q
  | ret v => exact q
  | brk => exact q
  | cont => exact q
theorem Inv.quiet {pins : List (Addr × Obj)} {σ : St} {H : Hp} {s : Shared} (I : Inv X pins σ H s) : interactive X.env = false := by simp [interactive, I.ok.kind]
def tDrop (te : TE) : TS := fun D σ H => te σ H fun _ H1 => D.nx σ H1
theorem ps_expr (he : PE X e te) (hs : swapsWith e none pos.line X.env = pure false := by rfl) : PS X (.Expr e pos) (tDrop te) := by
  intro pins s σ H D I h
  exact wpAny_Expr_any (thn (he pins s σ H _ I h) fun v s1 ⟨x, H1, I1, r1, q1⟩ => ⟨σ, H1, I1, q1⟩) I.quiet hs
def tRet (te : TE) : TS := fun D σ H => te σ H D.rt
theorem ps_ret (he : PE X e te) : PS X (.Return (some e) pos) (tRet te) := by
  intro pins s σ H D I h
  exact wpAny_Return_some (thn (he pins s σ H _ I h) fun v s1 ⟨x, H1, I1, r1, q1⟩ => ⟨x, σ, H1, I1, r1, q1⟩)
def tIfS (c : TT) (t u : TS) : TS := fun D σ H => c σ H fun b H1 => if b = true then t D σ H1 else u D σ H1
theorem ps_if {c : Expr} {a b : List Stmt} {tc : TT} (hc : PT X c tc) (ha : PSs X a t) (hb : PSs X b u) : PS X (.If c a b pos) (tIfS tc t u) := by
  intro pins s σ H D I h
  refine wpAny_If (thn (hc pins s σ H _ I h) fun d s1 ⟨H1, I1, q1⟩ => ?_)
  cases d with
  | true => exact ha pins s1 σ H1 D I1 q1
  | false => exact hb pins s1 σ H1 D I1 q1
def tNever : TS := fun _ _ _ => False
theorem ps_never : PS X st tNever := fun _ _ _ _ _ _ h => h.elim
end

/-! ### targets -/
abbrev TG := V → St → Hp → (St → Hp → Prop) → Prop
abbrev TGs := List V → St → Hp → (St → Hp → Prop) → Prop
def PG (X : Cx) (target : Expr) (t : TG) : Prop :=
  ∀ (pins : List (Addr × Obj)) (s : Shared) (σ : St) (H : Hp) (v : V) (u : Value) (Q : St → Hp → Prop), Inv X pins σ H s → RelV v u → t v σ H Q →
    wpAny (model X.prog X.w) X.A (assign target X.env u) (fun _ s' => ∃ σ' H', Inv X pins σ' H' s' ∧ Q σ' H') X.xe s
abbrev TSet := V → V → V → Hp → (Hp → Prop) → Prop
def PSet (X : Cx) (t : TSet) : Prop :=
  ∀ (pins : List (Addr × Obj)) (s : Shared) (σ : St) (H : Hp) (o i v : V) (ov iv u : Value) (Q : Hp → Prop), Inv X pins σ H s → RelV o ov → RelV i iv → RelV v u → t o i v H Q →
    wpAny (model X.prog X.w) X.A (setItem ov iv u) (fun _ s' => ∃ H', Inv X pins σ H' s' ∧ Q H') X.xe s
abbrev TIp := V → V → Hp → VK → Prop
section
variable {X : Cx} {pos : Pos}
def gName (i : Nat) : TG := fun v σ H Q => Q (σ.set i (some v)) H
theorem pg_name {i : Nat} {x : Str} (hN : X.N.Nodup) (hi : X.N[i]? = some x) (hx : Loc X.env.scope x) (hf : X.fn x = true ∨ X.env.scope.names.lookup x = some .local := by first | exact .inl rfl | exact .inr rfl | assumption) : PG X (.Name x pos) (gName i) := by
  intro pins s σ H v u Q I r h
  exact wpAny_assign_Name (store_ok I hN hi hx r (fun s' I' => ⟨_, H, I', h⟩) hf)
def gSub (to ti : TE) (t : TSet) : TG := fun v σ H Q => to σ H fun o H1 => ti σ H1 fun i H2 => t o i v H2 fun H3 => Q σ H3
theorem pg_sub {o i : Expr} {to ti : TE} {t : TSet} (ho : PE X o to) (hi : PE X i ti) (hs : PSet X t)
    (ha : ∀ v, assign (.Subscript o i pos) X.env v = (do
      let ov ← holding [v] (eval o X.env)
      let iv ← holding [v, ov] (eval i X.env)
      standAt pos
      holding [v, ov, iv] (setItem ov iv v)
      release [v, ov, iv] []) := by intro _; rfl) : PG X (.Subscript o i pos) (gSub to ti t) := by
  intro pins s σ H v u Q I r h
  rw [ha]
  refine wpAny_bind (wpAny_holding (thn (ho pins s σ H _ I h) fun ov s1 ⟨x, H1, I1, r1, q1⟩ => ?_))
  refine wpAny_bind (wpAny_holding (thn (hi pins s1 σ H1 _ I1 q1) fun iv s2 ⟨y, H2, I2, r2, q2⟩ => ?_))
  refine wpAny_bind (wpAny_standAt (wpAny_bind (wpAny_holding (thn (hs pins s2 σ H2 x y v ov iv u _ I2 r1 r2 r q2) fun _ s3 ⟨H3, I3, q3⟩ => ?_))))
  exact wpAny_release ⟨σ, H3, I3, q3⟩
def tAsg (te : TE) (g : TG) : TS := fun D σ H => te σ H fun x H1 => g x σ H1 D.nx
theorem ps_asg {tg e : Expr} {te : TE} {g : TG} (he : PE X e te) (hg : PG X tg g) (hs : swapsWithSole [tg] e pos.line X.env = pure false := by rfl) (hw : swappedStores [tg] e X.env = pure none := by rfl)
    (h1 : (assignEach [tg] X.env).map (·.2) = [assign tg X.env] := by rfl) : PS X (.Assign [tg] e pos) (tAsg te g) := by
  intro pins s σ H D I h
  refine wpAny_Assign_stores (thn (he pins s σ H _ I h) fun v s1 ⟨x, H1, I1, r1, q1⟩ => ?_) hs hw
  rw [h1]
  exact thn (hg pins s1 σ H1 x v _ I1 r1 q1) fun _ s2 q => q
theorem ps_set {i : Nat} {x : Str} {e : Expr} {te : TE} {pos' : Pos} (hN : X.N.Nodup) (hi : X.N[i]? = some x) (hx : Loc X.env.scope x) (he : PE X e te) (hs : swapsWith e (some (.Name x pos')) pos.line X.env = pure false := by rfl) (hf : X.fn x = true ∨ X.env.scope.names.lookup x = some .local := by first | exact .inl rfl | exact .inr rfl | assumption) :
    PS X (.Assign [.Name x pos'] e pos) (tAsg te (gName i)) := by
  intro pins s σ H D I h
  refine wpAny_Assign_Name (thn (he pins s σ H _ I h) fun v s1 ⟨y, H1, I1, r1, q1⟩ => ?_) hs
  exact store_ok I1 hN hi hx r1 (fun s2 I2 => ⟨_, H1, I2, q1⟩) hf
end

/-! ### while -/
section
variable {X : Cx} {pos : Pos}
end

/-! ### what a loop or a comprehension walks -/
structure It where
  go : Nat → Hp → Prop
  yld : Nat → Hp → V → Hp → Prop
  stop : Nat → Hp → Prop
def FpOk (X : Cx) (pins : List (Addr × Obj)) (H : Hp) (b : Addr) : Prop :=
  H b = none ∧ b ≠ X.env.locals ∧ b ∉ X.fs ∧ (b ∈ X.ex ∨ X.s₀.heap.objs.size ≤ b) ∧ (∀ x c, X.env.cells.lookup x = some c → c ≠ b) ∧ ∀ p ∈ X.pn ++ pins, p.1 ≠ b
theorem Inv.fpOk {X : Cx} {pins : List (Addr × Obj)} {σ : St} {H H' : Hp} {s : Shared} {b : Addr} (I : Inv X pins σ H s) (hb : s.heap.objs.size ≤ b) (hn : H' b = none) : FpOk X pins H' b := by
  refine ⟨hn, Nat.ne_of_gt (Nat.lt_of_lt_of_le I.lt hb), I.nofs hb, .inr (Nat.le_trans I.sz hb), fun x c e z => ?_, fun p hp z => ?_⟩
  · obtain ⟨v, q⟩ := I.cell x c e
    exact absurd (Nat.lt_of_lt_of_le q.lt (by rw [z]; exact hb)) (Nat.lt_irrefl _)
  · exact absurd (Nat.lt_of_lt_of_le (Heap.lt_size (I.pin p hp).1) (by rw [z]; exact hb)) (Nat.lt_irrefl _)
structure Turn (P : Program) (w : World) (K : PySem.W.Frag) (tg : Expr) (J : It) (fp : List Addr) (it : Addr) (tn : Nat → Heap → Prop) : Prop where
  mem : it ∈ fp
  obj : ∀ i h, tn i h → ∀ b ∈ fp, ∃ o, h.get? b = some o ∧ ∀ v, o.data ≠ .cell v
  keep : ∀ i h h', tn i h → (∀ b ∈ fp, ∀ o, h.get? b = some o → h'.get? b = some o) → tn i h'
  item : ∀ (X : Cx), X.prog = P → X.w = w → X.K = K → X.calm = true → ∀ (i : Nat) (pins : List (Addr × Obj)) (s : Shared) (σ : St) (H : Hp) (E : Value → Shared → Prop), Inv X pins σ H s → (∀ b ∈ fp, FpOk X pins H b) → tn i s.heap → J.go i H →
    wpAny (model P w) X.A (pyNext (.ref it)) (fun r s1 => ∃ u, r = some u ∧
      wpAny (model P w) X.A (letOwnedTupleGo tg (.ref it) u) (fun _ s2 => ∃ x H', Inv X pins σ H' s2 ∧ RelV x u ∧ J.yld i H x H' ∧ tn (i + 1) s2.heap ∧ ∀ b ∈ fp, H' b = none) E s1) E s
  done : ∀ (X : Cx), X.prog = P → X.w = w → X.K = K → X.calm = true → ∀ (i : Nat) (pins : List (Addr × Obj)) (s : Shared) (σ : St) (H : Hp) (E : Value → Shared → Prop), Inv X pins σ H s → (∀ b ∈ fp, FpOk X pins H b) → tn i s.heap → J.stop i H →
    wpAny (model P w) X.A (pyNext (.ref it)) (fun r s1 => r = none ∧ Inv X pins σ H s1) E s
  self : ∀ (A : Around) (i : Nat) (s : Shared) (Q : Value → Shared → Prop) (E : Value → Shared → Prop), tn i s.heap → Q (.ref it) s → wpAny (model P w) A (pyIter (.ref it)) Q E s
abbrev TI := St → Hp → (It → Hp → Prop) → Prop
def PIE (X : Cx) (pins : List (Addr × Obj)) (σ : St) (tg : Expr) (R : It → Hp → Prop) (itv : Value) (s2 : Shared) : Prop :=
  ∃ (it : Addr) (fp : List Addr) (tn : Nat → Heap → Prop) (J : It) (H' : Hp), itv = .ref it ∧ Inv X pins σ H' s2 ∧ Turn X.prog X.w X.K tg J fp it tn ∧ tn 0 s2.heap ∧ (∀ b ∈ fp, FpOk X pins H' b) ∧ R J H'
def PI (X : Cx) (tg iter : Expr) (wi : TI) : Prop :=
  ∀ (pins : List (Addr × Obj)) (s : Shared) (σ : St) (H : Hp) (R : It → Hp → Prop), Inv X pins σ H s → wi σ H R →
    wpAny (model X.prog X.w) X.A (eval iter X.env) (fun v s1 => wpAny (model X.prog X.w) X.A (pyIter v) (PIE X pins σ tg R) X.xe s1) X.xe s

theorem go_of {M : Model} {A : Around} {E : Value → Shared → Prop} {s : Shared} {tg : Expr} {it : Addr} {u : Value} {o : Obj} {n : String} {vs : Array Value} {Q : Unit → Shared → Prop} (ho : s.heap.get? it = some o) (hc : o.cls = .type n) (hd : o.data = .fields vs)
    (hn : ["enumerate", "zip", "dict_itemiterator", "dict_reverseitemiterator", "odict_iterator", "itertools.zip_longest", "itertools.pairwise"].contains n = false) (hQ : Q () s) : wpAny M A (letOwnedTupleGo tg (.ref it) u) Q E s := by
  unfold letOwnedTupleGo
  cases tg <;> first
    | exact wpAny_pure hQ
    | (cases u <;> first
        | exact wpAny_pure hQ
        | (refine wpAny_bind (wpAny_load ho ?_)
           rw [hc, hd]
           show wpAny M A (if (["enumerate", "zip", "dict_itemiterator", "dict_reverseitemiterator", "odict_iterator", "itertools.zip_longest", "itertools.pairwise"].contains n && vs[0]? == some (rawInt _)) = true then _ else _) Q E s
           rw [if_neg (by intro h; rw [hn, Bool.false_and] at h; cases h)]
           exact wpAny_pure hQ))

def Itl (K : PySem.W.Frag) (a : Addr) : It :=
  ⟨fun i H => ∃ xs x, SqL K H a xs ∧ xs[i]? = some x, fun i H x H' => H' = H ∧ ∀ xs, SqL K H a xs → xs[i]? = some x, fun i H => ∃ xs, SqL K H a xs ∧ xs.length ≤ i⟩
def Itt (K : PySem.W.Frag) (a : Addr) : It :=
  ⟨fun i H => ∃ xs x, SqT K H a xs ∧ xs[i]? = some x, fun i H x H' => H' = H ∧ ∀ xs, SqT K H a xs → xs[i]? = some x, fun i H => ∃ xs, SqT K H a xs ∧ xs.length ≤ i⟩
def Itr (lo : Int) (n : Nat) : It := ⟨fun i _ => i < n, fun i H x H' => H' = H ∧ x = .int (lo + i), fun i _ => n ≤ i⟩
theorem turn_list {P : Program} {w : World} {K : PySem.W.Frag} {tg : Expr} (a it : Addr) : Turn P w K tg (Itl K a) [it] it (fun i h => h.IsListIter it a i) where
  mem := by simp
  obj := fun i h st b hb => by
    have e : b = it := by simpa using hb
    subst e
    obtain ⟨o, e, c, d⟩ := st
    exact ⟨o, e, fun v z => by rw [d] at z; cases z⟩
  keep := fun i h h' st k => st.at fun o e => k it (by simp) o e
  item := by
    intro X hP hw hK hc i pins s σ H E I hf st hg
    subst hP hw hK
    obtain ⟨xs, x, hq, hx⟩ := hg
    obtain ⟨its, rv, p, hz⟩ := I.list hq
    obtain ⟨u, hu, ru⟩ := rv.get hx
    obtain ⟨f0, f1, f2, f3, f4, f5⟩ := hf it (by simp)
    refine wpAny_pyNext_list_item st p.isList (x := u) (by simpa using hu) fun h' st' sb => ?_
    have I1 : Inv X pins σ H { s with heap := h' } := I.turned (t' := s.toks) (fun b o hb e => (sb.2 b hb).trans e) f0 f1 f3 f4 f5
    obtain ⟨o, e, c, d⟩ := id st'
    exact ⟨u, rfl, go_of (s := { s with heap := h' }) e c d (by decide) ⟨x, H, I1, ru, ⟨rfl, fun ys hy => by rw [I.list_inj hy hq]; exact hx⟩, st', fun b hb => (hf b hb).1⟩⟩
  done := by
    intro X hP hw hK hc i pins s σ H E I hf st hg
    subst hP hw hK
    obtain ⟨xs, hq, hx⟩ := hg
    obtain ⟨its, rv, p, hz⟩ := I.list hq
    obtain ⟨f0, f1, f2, f3, f4, f5⟩ := hf it (by simp)
    have hl := rv.length
    exact wpAny_pyNext_list_end (I.ok.hd hc) st p.isList (by simp; omega) fun h' eb => ⟨rfl, I.turned (t' := s.toks) (fun b o hb e => eb b o hb e) f0 f1 f3 f4 f5⟩
  self := fun _ _ _ _ _ st h => wpAny_pyIter_listiter st h
theorem turn_tuple {P : Program} {w : World} {K : PySem.W.Frag} {tg : Expr} (a it : Addr) : Turn P w K tg (Itt K a) [it] it (fun i h => h.IsTupleIter it a i) where
  mem := by simp
  obj := fun i h st b hb => by
    have e : b = it := by simpa using hb
    subst e
    obtain ⟨o, e, c, d⟩ := st
    exact ⟨o, e, fun v z => by rw [d] at z; cases z⟩
  keep := fun i h h' st k => st.at fun o e => k it (by simp) o e
  item := by
    intro X hP hw hK hc i pins s σ H E I hf st hg
    subst hP hw hK
    obtain ⟨xs, x, hq, hx⟩ := hg
    obtain ⟨its, rv, p, hz⟩ := I.tuple hq
    obtain ⟨u, hu, ru⟩ := rv.get hx
    obtain ⟨f0, f1, f2, f3, f4, f5⟩ := hf it (by simp)
    refine wpAny_pyNext_tuple_item st (show s.heap.IsTuple a its.toArray from p) (x := u) (by simpa using hu) fun h' st' sb => ?_
    have I1 : Inv X pins σ H { s with heap := h' } := I.turned (t' := s.toks) (fun b o hb e => (sb.2 b hb).trans e) f0 f1 f3 f4 f5
    obtain ⟨o, e, c, d⟩ := id st'
    exact ⟨u, rfl, go_of (s := { s with heap := h' }) e c d (by decide) ⟨x, H, I1, ru, ⟨rfl, fun ys hy => by rw [I.tuple_inj hy hq]; exact hx⟩, st', fun b hb => (hf b hb).1⟩⟩
  done := by
    intro X hP hw hK hc i pins s σ H E I hf st hg
    subst hP hw hK
    obtain ⟨xs, hq, hx⟩ := hg
    obtain ⟨its, rv, p, hz⟩ := I.tuple hq
    obtain ⟨f0, f1, f2, f3, f4, f5⟩ := hf it (by simp)
    have hl := rv.length
    exact wpAny_pyNext_tuple_end (I.ok.hd hc) st (show s.heap.IsTuple a its.toArray from p) (by simp; omega) fun h' eb => ⟨rfl, I.turned (t' := s.toks) (fun b o hb e => eb b o hb e) f0 f1 f3 f4 f5⟩
  self := fun _ _ _ _ _ st h => wpAny_pyIter_tupleiter st h
theorem turn_range {P : Program} {w : World} {K : PySem.W.Frag} {tg : Expr} (it : Addr) (lo : Int) (n : Nat) : Turn P w K tg (Itr lo n) [it] it (fun i h => IsRangeIter h it (lo + (i : Nat) * 1) ((n : Int) - (i : Nat)) 1) where
  mem := by simp
  obj := fun i h st b hb => by
    have e : b = it := by simpa using hb
    subst e
    exact ⟨_, st, fun v z => by
      have z' : Data.fields _ = Data.cell v := z
      cases z'⟩
  keep := fun i h h' st k => k it (by simp) _ st
  item := by
    intro X hP hw hK hc i pins s σ H E I hf st hg
    subst hP hw hK
    obtain ⟨f0, f1, f2, f3, f4, f5⟩ := hf it (by simp)
    have W := Walks.range (prog := X.prog) (w := X.w) (I.ok.hd hc) it lo 1 n
    refine W.item i s _ _ hg st fun v h' tk hv st' kk => ?_
    obtain ⟨t, rfl⟩ := hv
    have I1 : Inv X pins σ H { s with heap := h', toks := tk } := I.turned (fun b o hb e => kk b o (by simpa using hb) e) f0 f1 f3 f4 f5
    refine ⟨_, rfl, go_of (s := { s with heap := h', toks := tk }) (n := "range_iterator") st' rfl rfl (by decide) ⟨.int (lo + i), H, I1, ⟨t, ?_⟩, ⟨rfl, rfl⟩, st', fun b hb => (hf b hb).1⟩⟩
    rw [Int.mul_one]
  done := by
    intro X hP hw hK hc i pins s σ H E I hf st hg
    subst hP hw hK
    obtain ⟨f0, f1, f2, f3, f4, f5⟩ := hf it (by simp)
    exact wpAny_pyNext_range_end (I.ok.hd hc) st (by have : n ≤ i := hg; omega) fun h' eb => ⟨rfl, I.turned (t' := s.toks) (fun b o hb e => eb b o hb e) f0 f1 f3 f4 f5⟩
  self := fun _ _ _ _ _ st h => wpAny_pyIter_rangeiter st h
end L2

namespace L2
open PySem PySem.Spec PyProof.Rows
section
variable {X : Cx} {tg : Expr}
theorem range_it {pins : List (Addr × Obj)} {σ : St} {H : Hp} {s : Shared} {R : It → Hp → Prop} {E : Value → Shared → Prop} {lo hi : Int} {t u v : Tok} {tk : Nat} (I : Inv X pins σ H s) (h1 : -(2 ^ 62) ≤ lo) (h2 : lo < 2 ^ 62) (h3 : -(2 ^ 62) ≤ hi) (h4 : hi < 2 ^ 62)
    (q : R (Itr lo (hi - lo).toNat) H) : wpAny (model X.prog X.w) X.A (pyIter (.ref s.heap.objs.size)) (PIE X pins σ tg R) E { s with heap := s.heap.push { cls := .type "range", data := .fields #[.int lo t, .int hi u, .int 1 v] }, toks := tk } := by
  refine wpAny_pyIter_range (IsRange.new ..) (small_one h1 h2 h3 h4) ?_
  have I1 : Inv X pins σ H { s with heap := s.heap.push { cls := .type "range", data := .fields #[.int lo t, .int hi u, .int 1 v] }, toks := tk } := I.kept fun b o e => Heap.get?_push_of_some _ e
  refine ⟨(s.heap.push { cls := .type "range", data := .fields #[.int lo t, .int hi u, .int 1 v] }).objs.size, [(s.heap.push { cls := .type "range", data := .fields #[.int lo t, .int hi u, .int 1 v] }).objs.size], _, _, H, rfl,
    I1.kept (t' := tk) fun b o e => Heap.get?_push_of_some _ e, turn_range _ lo (hi - lo).toNat, ?_, fun b hb => ?_, q⟩
  · have e1 : lo + ((0 : Nat) : Int) * 1 = lo := by simp
    have e2 : (((hi - lo).toNat : Nat) : Int) - ((0 : Nat) : Int) = Builtin.Range.rangeSize lo hi 1 := by rw [rangeSize_one]; split <;> omega
    show IsRangeIter _ _ (lo + ((0 : Nat) : Int) * 1) ((((hi - lo).toNat : Nat) : Int) - ((0 : Nat) : Int)) 1
    rw [e1, e2]
    exact Heap.get?_push_size _ rfl
  · have e : b = (s.heap.push { cls := .type "range", data := .fields #[.int lo t, .int hi u, .int 1 v] }).objs.size := by simpa using hb
    subst e
    exact I1.fpOk (Nat.le_refl _) (I1.hok.fresh (Nat.le_refl _))
def iRng1 (ta : TA) : TI := fun σ H R => ta σ H fun vs H1 => ∃ j : Int, vs = [.int j] ∧ -(2 ^ 62) ≤ j ∧ j < 2 ^ 62 ∧ R (Itr 0 j.toNat) H1
theorem pi_range1 {a : Expr} {ta : TA} {p pos : Pos} (hg : Gl X "range") (hm : X.mg "range" = none) (ha : PA X [a] ta) (hs : starEach [a] X.env = [(false, eval a X.env)] := by rfl) : PI X tg (.Call (.Name "range" p) [a] [] pos) (iRng1 ta) := by
  intro pins s σ H R I h
  refine Call_ (ld_blt I hg hm boot_range (PyProof.Rows.callWith_type1 (thn (ha pos pins s σ H _ I h) fun us s1 ⟨vs, H1, I1, r1, q1⟩ => ?_) hs rfl))
  obtain ⟨j, e, q1, q2, q⟩ := q1
  subst e
  cases r1 with
  | cons r rr =>
    cases rr
    obtain ⟨t, rfl⟩ := r
    exact call_range_1 (range_it I1 (by omega) (by omega) q1 q2 (by simpa using q))
/-! ### for -/
def tFor (wi : TI) (g : TG) (tb : TS) : TS := fun D σ H => wi σ H fun J H1 => ∃ W : Nat → Nat → St → Hp → Prop, (∃ m, W 0 m σ H1) ∧ ∀ i m σ H, W i m σ H →
  (J.stop i H ∧ D.nx σ H) ∨ (J.go i H ∧ ∃ N : St → Hp → Prop, (∀ σ' H', N σ' H' → ∃ m', m' < m ∧ W (i + 1) m' σ' H') ∧ ∀ x H', J.yld i H x H' → g x σ H' fun σ2 H2 => tb { D with nx := N, ct := N, bk := D.nx } σ2 H2)
def pinsAt (fp : List Addr) (h : Heap) : List (Addr × Obj) := fp.filterMap fun b => (h.get? b).map fun o => (b, o)
theorem mem_pinsAt {fp : List Addr} {h : Heap} {b : Addr} {o : Obj} (hb : b ∈ fp) (e : h.get? b = some o) : (b, o) ∈ pinsAt fp h := List.mem_filterMap.mpr ⟨b, hb, by rw [e]; rfl⟩
theorem of_pinsAt {fp : List Addr} {h : Heap} {p : Addr × Obj} (hp : p ∈ pinsAt fp h) : p.1 ∈ fp ∧ h.get? p.1 = some p.2 := by
  obtain ⟨b, hb, e⟩ := List.mem_filterMap.mp hp
  cases q : h.get? b with
  | none => rw [q] at e; cases e
  | some o =>
    rw [q] at e
    have e' : (b, o) = p := Option.some.inj e
    subst e'
    exact ⟨hb, q⟩
theorem Inv.pinned {pins : List (Addr × Obj)} {σ : St} {H : Hp} {s : Shared} {fp : List Addr} (I : Inv X pins σ H s) (hf : ∀ b ∈ fp, FpOk X pins H b) (ho : ∀ b ∈ fp, ∃ o, s.heap.get? b = some o ∧ ∀ v, o.data ≠ .cell v) : Inv X (pins ++ pinsAt fp s.heap) σ H s :=
  I.pins_of fun p hp => (List.mem_append.mp hp).elim (fun z => I.pin p (List.mem_append_right _ z)) fun z => by
    obtain ⟨hb, e⟩ := of_pinsAt z
    obtain ⟨f0, f1, f2, _⟩ := hf p.1 hb
    obtain ⟨o, e', d⟩ := ho p.1 hb
    rw [e] at e'; cases e'
    exact ⟨e, f0, f1, f2, d⟩
theorem Inv.unpinned {pins pl : List (Addr × Obj)} {σ : St} {H : Hp} {s : Shared} (I : Inv X (pins ++ pl) σ H s) : Inv X pins σ H s := I.pins_of fun p hp => I.pin p (List.mem_append_right _ (List.mem_append_left _ hp))
theorem ps_for {iter : Expr} {body : List Stmt} {wi : TI} {g : TG} {tb : TS} {pos : Pos} (hp : PassesOwn (model X.prog X.w) X.A X.env X.xe) (hc : X.calm = true) (hi : PI X tg iter wi) (hg : PG X tg g) (hb : PSs X body tb)
    (hs : ∀ x, foldedSetIterable iter X.env x = pure x := by intro _; rfl) : PS X (.For tg iter body [] pos) (tFor wi g tb) := by
  intro pins s σ H D I h
  refine wpAny_For (thn (hi pins s σ H _ I h) fun v s1 h1 => thn h1 fun itv s2 h2 => ?_) hs
  obtain ⟨it, fp, tn, J, H2, e, I2, T, st2, f2, W, ⟨m0, w0⟩, turn⟩ := h2
  subst e
  -- what stays true of the iterator's objects through the loop
  have stat : ∀ {H' : Hp}, (∀ b ∈ fp, H' b = none) → ∀ b ∈ fp, FpOk X pins H' b := fun hn b hb => ⟨hn b hb, (f2 b hb).2⟩
  refine codeAny_forLoop_any (fun n s' => ∃ i σ' H', Inv X pins σ' H' s' ∧ tn i s'.heap ∧ (∀ b ∈ fp, H' b = none) ∧ W i n σ' H') ?_ m0 ⟨0, σ, H2, I2, st2, fun b hb => (f2 b hb).1, w0⟩
  rintro n s3 ⟨i, σ3, H3, I3, st3, fr3, w3⟩
  rcases turn i n σ3 H3 w3 with ⟨stop, qn⟩ | ⟨go, N, hN, step⟩
  · refine wpAny_passesOwn hp (thn (T.done X rfl rfl rfl hc i pins s3 σ3 H3 X.xe I3 (stat fr3) st3 stop) fun r s4 ⟨hr, I4⟩ => ?_)
    subst hr
    exact wpAny_execs_nil ⟨σ3, H3, I4, qn⟩
  · refine wpAny_passesOwn hp (thn (T.item X rfl rfl rfl hc i pins s3 σ3 H3 X.xe I3 (stat fr3) st3 go) fun r s4 ⟨u, hr, h4⟩ => ?_)
    subst hr
    refine wpAny_passesOwn hp (thn h4 fun _ s5 ⟨x, H5, I5, r5, y5, st5, fr5⟩ => ?_)
    have I5' := I5.pinned (stat fr5) (T.obj _ _ st5)
    refine wpAny_passesOwn hp (thn (hg _ s5 σ3 H5 x u _ I5' r5 (step x H5 y5)) fun _ s6 ⟨σ6, H6, I6, q6⟩ => ?_)
    refine wpAny_passesOwn hp (thn (hb _ s6 σ6 H6 _ I6 q6) fun f s7 q7 => ?_)
    have again : ∀ {σ7 : St} {H7 : Hp}, Inv X (pins ++ pinsAt fp s5.heap) σ7 H7 s7 → N σ7 H7 → ∃ m, m < n ∧ ∃ i σ' H', Inv X pins σ' H' s7 ∧ tn i s7.heap ∧ (∀ b ∈ fp, H' b = none) ∧ W i m σ' H' := fun {σ7 H7} I7 n7 => by
      obtain ⟨m', hm, w7⟩ := hN σ7 H7 n7
      refine ⟨m', hm, i + 1, σ7, H7, I7.unpinned, T.keep _ _ _ st5 fun b hb o e => (I7.pin (b, o) (List.mem_append_right _ (List.mem_append_right _ (mem_pinsAt hb e)))).1, fun b hb => ?_, w7⟩
      obtain ⟨o, e, d⟩ := T.obj _ _ st5 b hb
      exact (I7.pin (b, o) (List.mem_append_right _ (List.mem_append_right _ (mem_pinsAt hb e)))).2.1
    cases f with
    | next => obtain ⟨σ7, H7, I7, n7⟩ := q7; exact again I7 n7
    | cont => obtain ⟨σ7, H7, I7, n7⟩ := q7; exact again I7 n7
    | brk => obtain ⟨σ7, H7, I7, q7⟩ := q7; exact ⟨σ7, H7, I7.unpinned, q7⟩
    | ret v => obtain ⟨x7, σ7, H7, I7, r7, q7⟩ := q7; exact ⟨x7, σ7, H7, I7.unpinned, r7, q7⟩
end

/-! ### the forms one uses -/
end L2

namespace L2
open PySem PySem.Spec PyProof.Rows

abbrev R2 := V → V → Hp → VK → Prop
def OpR (X : Cx) (f : Value → Value → Sem Value) (r : R2) : Prop :=
  ∀ (pins : List (Addr × Obj)) (s : Shared) (σ : St) (H : Hp) (x y : V) (v u : Value) (Q : VK), Inv X pins σ H s → RelV x v → RelV y u → r x y H Q →
    wpAny (model X.prog X.w) X.A (f v u) (EP X pins σ Q) X.xe s
def CallR (X : Cx) (f : Value) (r : List V → Hp → VK → Prop) : Prop :=
  ∀ (pins : List (Addr × Obj)) (s : Shared) (σ : St) (H : Hp) (xs : List V) (us : List Value) (Q : VK), Inv X pins σ H s → Vals xs us → r xs H Q →
    wpAny (model X.prog X.w) X.A (call f us) (EP X pins σ Q) X.xe s
def TruR (X : Cx) (r : V → Hp → (Bool → Hp → Prop) → Prop) : Prop :=
  ∀ (pins : List (Addr × Obj)) (s : Shared) (σ : St) (H : Hp) (x : V) (v : Value) (Q : Bool → Hp → Prop), Inv X pins σ H s → RelV x v → r x H Q →
    wpAny (model X.prog X.w) X.A (truthy v) (TP X pins σ Q) X.xe s

def tOp (r : R2) (ta tb : TE) : TE := fun σ H Q => ta σ H fun x H1 => tb σ H1 fun y H2 => r x y H2 Q
def rI (C : Int → Int → Prop) (g : Int → Int → V) : R2 := fun x y H Q => ∃ i j, x = .int i ∧ y = .int j ∧ C i j ∧ Q (g i j) H
def rI0 (g : Int → Int → V) : R2 := fun x y H Q => ∃ i j, x = .int i ∧ y = .int j ∧ Q (g i j) H
section
variable {X : Cx} {a b c : Expr} {ta tb tc : TE} {pos : Pos}

theorem binT (ha : PE X a ta) (hb : PE X b tb) {pins : List (Addr × Obj)} {s : Shared} {σ : St} {H : Hp} {R : V → V → Hp → Prop} (I : Inv X pins σ H s)
    (h : ta σ H fun x H1 => tb σ H1 fun y H2 => R x y H2) {Q : Value → Shared → Prop} {f : Value → Value → Sem Value}
    (hf : ∀ v u s2 x y H2, Inv X pins σ H2 s2 → RelV x v → RelV y u → R x y H2 → wpAny (model X.prog X.w) X.A (f v u) Q X.xe s2) :
    wpAny (model X.prog X.w) X.A (eval a X.env) (fun v s₁ => wpAny (model X.prog X.w) X.A (eval b X.env) (fun u s₂ => wpAny (model X.prog X.w) X.A (f v u) Q X.xe s₂) X.xe s₁) X.xe s := by
  refine thn (ha pins s σ H _ I h) fun v s1 ⟨x, H1, I1, r1, q1⟩ => ?_
  refine thn (hb pins s1 σ H1 _ I1 q1) fun u s2 ⟨y, H2, I2, r2, q2⟩ => ?_
  exact hf v u s2 x y H2 I2 r1 r2 q2

theorem pe_op {op : Operator} {r : R2} (ho : OpR X (binaryOp op) r) (ha : PE X a ta) (hb : PE X b tb) : PE X (.BinOp a op b pos) (tOp r ta tb) := by
  intro pins s σ H Q I h
  exact wpAny_BinOp (binT ha hb I h fun v u s2 x y H2 I2 rx ry q => ho pins s2 σ H2 x y v u Q I2 rx ry q)
/-! ### ints -/
theorem opI {f : Value → Value → Sem Value} {C : Int → Int → Prop} {g : Int → Int → Int}
    (rule : ∀ (i j : Int) (t u : Tok) (s : Shared) (Q : Value → Shared → Prop) (E : Value → Shared → Prop), C i j → Q (.int (g i j) s.toks) { s with toks := s.toks + 1 } → wpAny (model X.prog X.w) X.A (f (.int i t) (.int j u)) Q E s) :
    OpR X f (rI C fun i j => .int (g i j)) := by
  intro pins s σ H x y v u Q I rx ry h
  obtain ⟨i, j, rfl, rfl, hc, q⟩ := h
  obtain ⟨t, rfl⟩ := rx
  obtain ⟨t', rfl⟩ := ry
  exact rule i j t t' s _ _ hc ⟨.int (g i j), H, I.tok _, ⟨_, rfl⟩, q⟩
theorem opI0 {f : Value → Value → Sem Value} {g : Int → Int → Int}
    (rule : ∀ (i j : Int) (t u : Tok) (s : Shared) (Q : Value → Shared → Prop) (E : Value → Shared → Prop), Q (.int (g i j) s.toks) { s with toks := s.toks + 1 } → wpAny (model X.prog X.w) X.A (f (.int i t) (.int j u)) Q E s) :
    OpR X f (rI0 fun i j => .int (g i j)) := by
  intro pins s σ H x y v u Q I rx ry h
  obtain ⟨i, j, rfl, rfl, q⟩ := h
  obtain ⟨t, rfl⟩ := rx
  obtain ⟨t', rfl⟩ := ry
  exact rule i j t t' s _ _ ⟨.int (g i j), H, I.tok _, ⟨_, rfl⟩, q⟩
theorem opB0 {f : Value → Value → Sem Value} {g : Int → Int → Bool}
    (rule : ∀ (i j : Int) (t u : Tok) (s : Shared) (Q : Value → Shared → Prop) (E : Value → Shared → Prop), Q (.bool (g i j)) s → wpAny (model X.prog X.w) X.A (f (.int i t) (.int j u)) Q E s) :
    OpR X f (rI0 fun i j => .bl (g i j)) := by
  intro pins s σ H x y v u Q I rx ry h
  obtain ⟨i, j, rfl, rfl, q⟩ := h
  obtain ⟨t, rfl⟩ := rx
  obtain ⟨t', rfl⟩ := ry
  exact rule i j t t' s _ _ ⟨.bl (g i j), H, I, rfl, q⟩

def CDiv (i j : Int) : Prop := 0 < j ∧ j < 1073741824
def CMul (i j : Int) : Prop := (-(2 ^ 64) < i ∧ i < 2 ^ 64) ∨ (-(2 ^ 64) < j ∧ j < 2 ^ 64)
theorem CMul.ok {i j : Int} (h : CMul i j) : IntMulOk i j := by
  rcases h with ⟨h1, h2⟩ | ⟨h1, h2⟩
  · exact .of_left (intBits_le_64 h1 h2)
  · exact .of_right (intBits_le_64 h1 h2)
theorem op_add : OpR X (binaryOp .Add) (rI0 fun i j => .int (i + j)) := opI0 fun _ _ _ _ _ _ _ q => add_int q
theorem op_sub : OpR X (binaryOp .Sub) (rI0 fun i j => .int (i - j)) := opI0 fun _ _ _ _ _ _ _ q => sub_int q
theorem op_mul : OpR X (binaryOp .Mult) (rI CMul fun i j => .int (i * j)) := opI fun _ _ _ _ _ _ _ hc q => mul_int q hc.ok
theorem op_fdiv : OpR X (binaryOp .FloorDiv) (rI CDiv fun i j => .int (i / j)) := opI fun i j _ _ _ _ _ hc q => by
  have h1 : (0 : Int) < j := hc.1
  have h2 : j < 1073741824 := hc.2
  exact floordiv_int (by omega) (by rw [Int.fdiv_eq_ediv_of_nonneg i (by omega)]; exact q) (.inl (PyProof.noPylong_small (by omega)))
theorem op_mod : OpR X (binaryOp .Mod) (rI (fun _ j => 0 < j) fun i j => .int (i % j)) := opI fun i j _ _ _ _ _ hc q => by
  have h1 : (0 : Int) < j := hc
  exact mod_int' (by omega) (by rw [Int.fmod_eq_emod_of_nonneg i (by omega)]; exact q)
/-! ### bools among ints: n += (a < b) -/
end

/-! ### comparisons -/
def scal : V → V → Bool
  | .non, .non => true | .non, .int _ => true | .int _, .non => true | .non, .bl _ => true | .bl _, .non => true | .non, .str _ => true | .str _, .non => true
  | .int _, .int _ => true | .bl _, .bl _ => true | .str _, .str _ => true | .byt _, .byt _ => true
  | .int _, .str _ => true | .str _, .int _ => true | .bl _, .str _ => true | .str _, .bl _ => true
  | _, _ => false
def rEq : R2 := fun x y H Q => scal x y = true ∧ Q (.bl (decide (x = y))) H
def rNe : R2 := fun x y H Q => scal x y = true ∧ Q (.bl (!decide (x = y))) H

theorem dec_int {i j : Int} : decide (V.int i = V.int j) = (i == j) := by
  rw [Bool.eq_iff_iff]
  simp
theorem dec_bl {i j : Bool} : decide (V.bl i = V.bl j) = (i == j) := by
  rw [Bool.eq_iff_iff]
  simp
theorem dec_str {i j : Str} : decide (V.str i = V.str j) = (i == j) := by
  rw [Bool.eq_iff_iff]
  simp
theorem dec_byt {i j : Array UInt8} : decide (V.byt i = V.byt j) = (i.toList == j.toList) := by
  rw [Bool.eq_iff_iff]
  cases i
  cases j
  simp

section
variable {X : Cx} {a b c : Expr} {ta tb tc : TE} {pos : Pos}
theorem fin_bl {pins : List (Addr × Obj)} {σ : St} {H : Hp} {s : Shared} {Q : VK} {k k' : Bool} (I : Inv X pins σ H s) (q : Q (.bl k) H) (e : k = k') : EP X pins σ Q (.bool k') s := by
  subst e
  exact ⟨.bl k, H, I, rfl, q⟩
theorem op_eq : OpR X (compareOp .Eq) rEq := by
  intro pins s σ H x y v u Q I rx ry h
  obtain ⟨hs, q⟩ := h
  cases x with
  | non =>
    cases rx
    cases y with
    | non => cases ry; exact PySem.EqNone.eq_none_none (fin_bl I q (by simp))
    | bl j => cases ry; exact PySem.EqNone.eq_none_bool (fin_bl I q (by simp))
    | int j => obtain ⟨t', rfl⟩ := ry; exact PySem.EqNone.eq_none_int (fin_bl I q (by simp))
    | str j => obtain ⟨t', rfl⟩ := ry; exact PySem.EqNone.eq_none_str (fin_bl I q (by simp))
    | _ => exact absurd (show false = true from hs) Bool.false_ne_true
  | bl i =>
    cases rx
    cases y with
    | non => cases ry; exact PySem.EqNone.eq_bool_none (fin_bl I q (by simp))
    | bl j => cases ry; exact eq_bool (fin_bl I q dec_bl)
    | str j => obtain ⟨t', rfl⟩ := ry; exact PySem.EqMixed.eq_bool_str (fin_bl I q (by simp))
    | _ => exact absurd (show false = true from hs) Bool.false_ne_true
  | int i =>
    obtain ⟨t, rfl⟩ := rx
    cases y with
    | non => cases ry; exact PySem.EqNone.eq_int_none (fin_bl I q (by simp))
    | int j => obtain ⟨t', rfl⟩ := ry; exact eq_int (fin_bl I q dec_int)
    | str j => obtain ⟨t', rfl⟩ := ry; exact PySem.EqMixed.eq_int_str (fin_bl I q (by simp))
    | _ => exact absurd (show false = true from hs) Bool.false_ne_true
  | str i =>
    obtain ⟨t, rfl⟩ := rx
    cases y with
    | non => cases ry; exact PySem.EqNone.eq_str_none (fin_bl I q (by simp))
    | bl j => cases ry; exact PySem.EqMixed.eq_str_bool (fin_bl I q (by simp))
    | int j => obtain ⟨t', rfl⟩ := ry; exact PySem.EqMixed.eq_str_int (fin_bl I q (by simp))
    | str j => obtain ⟨t', rfl⟩ := ry; exact eq_str (fin_bl I q dec_str)
    | _ => exact absurd (show false = true from hs) Bool.false_ne_true
  | byt i =>
    obtain ⟨t, rfl⟩ := rx
    cases y with
    | byt j => obtain ⟨t', rfl⟩ := ry; exact PySem.W.eq_bytes (fin_bl I q dec_byt)
    | _ => exact absurd (show false = true from hs) Bool.false_ne_true
  | _ => cases y <;> exact absurd (show false = true from hs) Bool.false_ne_true
theorem op_ne : OpR X (compareOp .NotEq) rNe := by
  intro pins s σ H x y v u Q I rx ry h
  obtain ⟨hs, q⟩ := h
  cases x with
  | non =>
    cases rx
    cases y with
    | non => cases ry; exact PySem.EqNone.ne_none_none (fin_bl I q (by simp))
    | bl j => cases ry; exact PySem.EqNone.ne_none_bool (fin_bl I q (by simp))
    | int j => obtain ⟨t', rfl⟩ := ry; exact PySem.EqNone.ne_none_int (fin_bl I q (by simp))
    | str j => obtain ⟨t', rfl⟩ := ry; exact PySem.EqNone.ne_none_str (fin_bl I q (by simp))
    | _ => exact absurd (show false = true from hs) Bool.false_ne_true
  | bl i =>
    cases rx
    cases y with
    | non => cases ry; exact PySem.EqNone.ne_bool_none (fin_bl I q (by simp))
    | bl j => cases ry; exact ne_bool (fin_bl I q (congrArg not dec_bl))
    | str j => obtain ⟨t', rfl⟩ := ry; exact PySem.EqMixed.ne_bool_str (fin_bl I q (by simp))
    | _ => exact absurd (show false = true from hs) Bool.false_ne_true
  | int i =>
    obtain ⟨t, rfl⟩ := rx
    cases y with
    | non => cases ry; exact PySem.EqNone.ne_int_none (fin_bl I q (by simp))
    | int j => obtain ⟨t', rfl⟩ := ry; exact ne_int (fin_bl I q (congrArg not dec_int))
    | str j => obtain ⟨t', rfl⟩ := ry; exact PySem.EqMixed.ne_int_str (fin_bl I q (by simp))
    | _ => exact absurd (show false = true from hs) Bool.false_ne_true
  | str i =>
    obtain ⟨t, rfl⟩ := rx
    cases y with
    | non => cases ry; exact PySem.EqNone.ne_str_none (fin_bl I q (by simp))
    | bl j => cases ry; exact PySem.EqMixed.ne_str_bool (fin_bl I q (by simp))
    | int j => obtain ⟨t', rfl⟩ := ry; exact PySem.EqMixed.ne_str_int (fin_bl I q (by simp))
    | str j => obtain ⟨t', rfl⟩ := ry; exact ne_str (fin_bl I q (congrArg not dec_str))
    | _ => exact absurd (show false = true from hs) Bool.false_ne_true
  | byt i =>
    obtain ⟨t, rfl⟩ := rx
    cases y with
    | byt j => obtain ⟨t', rfl⟩ := ry; exact PySem.W.ne_bytes (fin_bl I q (congrArg not dec_byt))
    | _ => exact absurd (show false = true from hs) Bool.false_ne_true
  | _ => cases y <;> exact absurd (show false = true from hs) Bool.false_ne_true

theorem op_lt : OpR X (compareOp .Lt) (rI0 fun i j => .bl (decide (i < j))) := opB0 fun _ _ _ _ _ _ _ q => lt_int q
theorem op_le : OpR X (compareOp .LtE) (rI0 fun i j => .bl (decide (i ≤ j))) := opB0 fun _ _ _ _ _ _ _ q => le_int q
theorem op_ge : OpR X (compareOp .GtE) (rI0 fun i j => .bl (decide (j ≤ i))) := opB0 fun _ _ _ _ _ _ _ q => ge_int q
theorem op_isN : OpR X (compareOp .Is) (fun x y H Q => y = .non ∧ Q (.bl (decide (x = .non))) H) := by
  intro pins s σ H x y v u Q I rx ry h
  obtain ⟨rfl, q⟩ := h
  cases ry
  refine is_none_gen (fin_bl I q ?_)
  cases x <;> first
    | (cases rx; rfl)
    | (obtain ⟨t, rfl⟩ := rx; rfl)
theorem op_notN : OpR X (compareOp .IsNot) (fun x y H Q => y = .non ∧ Q (.bl (!decide (x = .non))) H) := by
  intro pins s σ H x y v u Q I rx ry h
  obtain ⟨rfl, q⟩ := h
  cases ry
  refine isnot_none_gen (fin_bl I q ?_)
  cases x <;> first
    | (cases rx; rfl)
    | (obtain ⟨t, rfl⟩ := rx; rfl)

theorem OpR.or {f : Value → Value → Sem Value} {r r' : R2} (h : OpR X f r) (h' : OpR X f r') : OpR X f (fun x y H Q => r x y H Q ∨ r' x y H Q) := by
  intro pins s σ H x y v u Q I rx ry q
  rcases q with q | q
  · exact h pins s σ H x y v u Q I rx ry q
  · exact h' pins s σ H x y v u Q I rx ry q

theorem pe_cmpR {op : CmpOp} {r : R2} (ho : OpR X (compareOp op) r) (ha : PE X a ta) (hb : PE X b tb) (hm : behindInMarks op b = false) : PE X (.Compare a [op] [b] pos) (tOp r ta tb) := by
  intro pins s σ H Q I h
  exact wpAny_Compare1 (binT ha hb I h fun v u s2 x y H2 I2 rx ry q => ho pins s2 σ H2 x y v u Q I2 rx ry q) hm
def tTest (t : TE) : TT := fun σ H Q => t σ H fun x H' => ∃ k, x = .bl k ∧ Q k H'
theorem pt_cmpR {op : CmpOp} {r : R2} (ho : OpR X (compareOp op) r) (ha : PE X a ta) (hb : PE X b tb) (hm : behindInMarks op b = false) : PT X (.Compare a [op] [b] pos) (tTest (tOp r ta tb)) := by
  intro pins s σ H Q I h
  refine wpAny_isTrue_Compare1 (thn (ha pins s σ H _ I h) fun v s1 ⟨x, H1, I1, r1, q1⟩ => thn (hb pins s1 σ H1 _ I1 q1) fun u s2 ⟨y, H2, I2, r2, q2⟩ =>
    thn (ho pins s2 σ H2 x y v u _ I2 r1 r2 q2) fun c s3 ⟨z, H3, I3, r3, k, e, q3⟩ => ?_) hm
  subst e
  cases r3
  exact wpAny_truthy_bool ⟨H3, I3, q3⟩
def tChain (r r' : R2) (ta tb tc : TE) : TE := fun σ H Q => ta σ H fun x H1 => tb σ H1 fun y H2 => r x y H2 fun z H3 => ∃ k, z = .bl k ∧
  (if k = true then tc σ H3 fun w' H4 => r' y w' H4 Q else Q (.bl false) H3)
theorem pe_chain {op op' : CmpOp} {r r' : R2} (ho : OpR X (compareOp op) r) (ho' : OpR X (compareOp op') r') (ha : PE X a ta) (hb : PE X b tb) (hc : PE X c tc)
    (hm : lastMarks [op, op'] [b, c] = false := by with_unfolding_all rfl) : PE X (.Compare a [op, op'] [b, c] pos) (tChain r r' ta tb tc) := by
  intro pins s σ H Q I h
  refine Compare_chain (thn (ha pins s σ H _ I h) fun v s1 ⟨x, H1, I1, r1, q1⟩ => chain_link (thn (hb pins s1 σ H1 _ I1 q1) fun u s2 ⟨y, H2, I2, r2, q2⟩ =>
    thn (ho pins s2 σ H2 x y v u _ I2 r1 r2 q2) fun d s3 ⟨z, H3, I3, r3, k, e, q3⟩ => ?_)) hm
  subst e
  cases r3
  refine wpAny_truthy_bool ?_
  cases k with
  | false => exact ite_ff ⟨.bl false, H3, I3, rfl, q3⟩
  | true => exact ite_tt (chain_last (thn (hc pins s3 σ H3 _ I3 q3) fun w' s4 ⟨z', H4, I4, r4, q4⟩ => ho' pins s4 σ H4 y z' u w' Q I4 r2 r4 q4))
/-! ### truth -/
def TruV (K : PySem.W.Frag) (x : V) (H : Hp) (k : Bool) : Prop :=
  match x with
  | .non => k = false
  | .bl b => k = b
  | .int i => k = (i != 0)
  | .str y => y.length ≤ sizeLine ∧ k = ((y.length : Int) != 0)
  | .byt y => y.size ≤ sizeLine ∧ k = ((y.size : Int) != 0)
  | .ref p => (∃ xs, SqL K H p xs ∧ k = !xs.isEmpty) ∨ (∃ xs, SqT K H p xs ∧ k = !xs.isEmpty) ∨ ∃ kvs, H p = some (.dK kvs) ∧ k = !kvs.isEmpty
  | _ => False
theorem isEmpty_kv {κ : Type} {kvs : List (κ × V)} {vs : List (κ × Value)} (r : KV kvs vs) : (!vs.isEmpty) = !kvs.isEmpty := by
  cases r <;> rfl
theorem isEmpty_of {xs : List V} {its : List Value} (r : Vals xs its) : (!its.toArray.isEmpty) = !xs.isEmpty := by
  cases r <;> simp
theorem line63 : (sizeLine : Nat) < 2 ^ 63 := by rw [sizeLine_eq]; decide
theorem tru_ok : TruR X (fun x H Q => ∃ k, TruV X.K x H k ∧ Q k H) := by
  intro pins s σ H x v Q I rx h
  obtain ⟨k, e, q⟩ := h
  have hl := line63
  have hs : sizeLine = 16777216 := sizeLine_eq
  cases x with
  | non =>
    cases rx
    have e' : k = false := e
    subst e'
    exact truthy_none ⟨H, I, q⟩
  | bl b =>
    cases rx
    have e' : k = b := e
    subst e'
    exact wpAny_truthy_bool ⟨H, I, q⟩
  | int i =>
    obtain ⟨t, rfl⟩ := rx
    have e' : k = (i != 0) := e
    subst e'
    exact PySem.P.truthy_int ⟨H, I, q⟩
  | str y =>
    obtain ⟨t, rfl⟩ := rx
    obtain ⟨hy, e'⟩ : y.length ≤ sizeLine ∧ k = ((y.length : Int) != 0) := e
    subst e'
    exact PySem.P.truthy_str (by omega) ⟨H, I.tok _, q⟩
  | byt y =>
    obtain ⟨t, rfl⟩ := rx
    obtain ⟨hy, e'⟩ : y.size ≤ sizeLine ∧ k = ((y.size : Int) != 0) := e
    subst e'
    exact PySem.W.truthy_bytes (by omega) ⟨H, I.tok _, q⟩
  | ref p =>
    cases rx
    have e' : (∃ xs, SqL X.K H p xs ∧ k = !xs.isEmpty) ∨ (∃ xs, SqT X.K H p xs ∧ k = !xs.isEmpty) ∨ ∃ kvs, H p = some (.dK kvs) ∧ k = !kvs.isEmpty := e
    rcases e' with ⟨xs, hx, e'⟩ | ⟨xs, hx, e'⟩ | ⟨kvs, hx, e'⟩
    · subst e'
      obtain ⟨its, r, pl, hz⟩ := I.list hx
      have hlen := r.length
      exact wpAny_truthy_list pl.isList (by simp only [List.size_toArray]; omega) ⟨H, I.tok _, by rw [isEmpty_of r]; exact q⟩
    · subst e'
      obtain ⟨its, r, pl, hz⟩ := I.tuple hx
      have hlen := r.length
      exact truthy_tuple pl (by simp only [List.size_toArray]; omega) ⟨H, I.tok _, by rw [isEmpty_of r]; exact q⟩
    · subst e'
      obtain ⟨hz, hS, vs, r, m⟩ : kvs.length ≤ sizeLine ∧ (p == sysModules) = false ∧ ∃ vs, KV kvs vs ∧ s.heap.DictOf (mixKind X.prog X.w) p vs := I.hok p _ hx
      have hlen : kvs.length = vs.length := Paired.length r
      exact wpAny_truthy_dict hS m (by omega) ⟨H, I.tok _, by rw [isEmpty_kv r]; exact q⟩
  | _ => exact (show False from e).elim
theorem pt_truth (ha : PE X a ta) (he : ∀ whole, isTrue a X.env whole = (do let v ← whole; standAt a.pos; holding [v] (truthy v))) :
    PT X a (fun σ H Q => ta σ H fun x H' => ∃ k, TruV X.K x H' k ∧ Q k H') := by
  intro pins s σ H Q I h
  exact isTrue_plain (thn (ha pins s σ H _ I h) fun v s1 ⟨x, H1, I1, r1, q1⟩ => tru_ok pins s1 σ H1 x v Q I1 r1 q1) (he _)

/-! ### strs and bytes -/
theorem op_add_str : OpR X (binaryOp .Add) (fun x y H Q => ∃ i j, x = .str i ∧ y = .str j ∧ i.length + j.length ≤ sizeLine ∧ Q (.str (i ++ j)) H) := by
  intro pins s σ H x y v u Q I rx ry h
  obtain ⟨i, j, rfl, rfl, hz, q⟩ := h
  obtain ⟨t, rfl⟩ := rx
  obtain ⟨t', rfl⟩ := ry
  exact add_str (fun t' tk => ⟨.str (i ++ j), H, I.tok _, ⟨_, rfl⟩, q⟩) hz
/-! ### scalar builtins, by CallR -/
theorem vals1 {x : V} {us : List Value} (r : Vals [x] us) : ∃ u, us = [u] ∧ RelV x u := by
  cases r with
  | cons r1 r2 => cases r2; exact ⟨_, rfl, r1⟩
theorem vals2 {x y : V} {us : List Value} (r : Vals [x, y] us) : ∃ u w', us = [u, w'] ∧ RelV x u ∧ RelV y w' := by
  cases r with
  | cons r1 r2 =>
    cases r2 with
    | cons r3 r4 => cases r4; exact ⟨_, _, rfl, r1, r3⟩
theorem call_max2 (hc : X.calm = true) : CallR X (.builtin "max") (fun xs H Q => ∃ i j, xs = [.int i, .int j] ∧ Q (.int (if j > i then j else i)) H) := by
  intro pins s σ H xs us Q I r h
  obtain ⟨i, j, rfl, q⟩ := h
  obtain ⟨u, w', rfl, ⟨t, rfl⟩, ⟨t', rfl⟩⟩ := vals2 r
  refine max_two_ints (I.ok.hd hc) fun h' tk k => ⟨_, H, I.kept k, ?_, q⟩
  by_cases hj : j > i
  · rw [if_pos hj, if_pos hj]; exact ⟨_, rfl⟩
  · rw [if_neg hj, if_neg hj]; exact ⟨_, rfl⟩
theorem call_min2 (hc : X.calm = true) : CallR X (.builtin "min") (fun xs H Q => ∃ i j, xs = [.int i, .int j] ∧ Q (.int (if j < i then j else i)) H) := by
  intro pins s σ H xs us Q I r h
  obtain ⟨i, j, rfl, q⟩ := h
  obtain ⟨u, w', rfl, ⟨t, rfl⟩, ⟨t', rfl⟩⟩ := vals2 r
  refine min_two_ints (I.ok.hd hc) fun h' tk k => ⟨_, H, I.kept k, ?_, q⟩
  by_cases hj : j < i
  · rw [if_pos hj, if_pos hj]; exact ⟨_, rfl⟩
  · rw [if_neg hj, if_neg hj]; exact ⟨_, rfl⟩
def LenV (K : PySem.W.Frag) (x : V) (H : Hp) (n : Nat) : Prop :=
  match x with
  | .str y => y.length ≤ sizeLine ∧ n = y.length
  | .byt y => y.size ≤ sizeLine ∧ n = y.size
  | .ref p => (∃ xs, SqL K H p xs ∧ n = xs.length) ∨ ∃ xs, SqT K H p xs ∧ n = xs.length
  | _ => False
theorem call_len : CallR X (.builtin "len") (fun xs H Q => ∃ x n, xs = [x] ∧ LenV X.K x H n ∧ Q (.int n) H) := by
  intro pins s σ H xs us Q I r h
  obtain ⟨x, n, rfl, e, q⟩ := h
  obtain ⟨u, rfl, rx⟩ := vals1 r
  have hl := line63
  have hs : sizeLine = 16777216 := sizeLine_eq
  cases x with
  | str y =>
    obtain ⟨t, rfl⟩ := rx
    obtain ⟨hy, e'⟩ : y.length ≤ sizeLine ∧ n = y.length := e
    subst e'
    exact len_str (by omega) ⟨.int _, H, I.tok _, ⟨_, rfl⟩, q⟩
  | byt y =>
    obtain ⟨t, rfl⟩ := rx
    obtain ⟨hy, e'⟩ : y.size ≤ sizeLine ∧ n = y.size := e
    subst e'
    exact PySem.W.len_bytes (by omega) ⟨.int _, H, I.tok _, ⟨_, rfl⟩, q⟩
  | ref p =>
    cases rx
    have e' : (∃ xs, SqL X.K H p xs ∧ n = xs.length) ∨ ∃ xs, SqT X.K H p xs ∧ n = xs.length := e
    rcases e' with ⟨xs, hx, e'⟩ | ⟨xs, hx, e'⟩
    · subst e'
      obtain ⟨its, r', pl, hz⟩ := I.list hx
      have hlen := r'.length
      exact Calls.call_len_list pl.isList (by simp only [List.size_toArray]; omega) ⟨.int xs.length, H, I.tok _, ⟨_, by simp only [List.size_toArray]; rw [hlen]⟩, q⟩
    · subst e'
      obtain ⟨its, r', pl, hz⟩ := I.tuple hx
      have hlen := r'.length
      exact len_tuple pl (by simp only [List.size_toArray]; omega) ⟨.int xs.length, H, I.tok _, ⟨_, by simp only [List.size_toArray]; rw [hlen]⟩, q⟩
  | _ => exact (show False from e).elim
end
end L2

namespace L2
open PySem PySem.Spec PyProof.Rows

/-! ### an instance, its attributes a map -/
structure ObjM (h : Heap) (x dx C : Addr) (mA : Str → Option Value) : Prop where
  obj : h.get? x = some (PySem.W.instObj C dx)
  ns : h.Ns1 dx mA
  ne : dx ≠ x

theorem lookIn_ns {h : Heap} {dx : Addr} {mA : Str → Option Value} (n : h.Ns1 dx mA) : ∃ od, h.get? dx = some od ∧ ∀ name, PySem.W.lookIn name od = some (mA name) := by
  obtain ⟨o, es, ep, ho, hd, hk, _, hm⟩ := n
  refine ⟨o, ho, fun name => ?_⟩
  have e := hm name
  unfold nsFind findBy at e
  rw [← Array.find?_toList] at e
  unfold PySem.W.lookIn
  rw [hd]
  dsimp only
  split
  · rename_i y q
    rw [q] at e
    exact congrArg some e
  · rename_i q
    rw [q] at e
    have a : es.toList.any (·.refKey) = false := by
      rw [List.any_eq_false]
      intro y hy
      obtain ⟨z, t, hkey⟩ := hk y (Array.mem_toList_iff.mp hy)
      simp [DictEntry.refKey, hkey]
    have a' : ¬ es.toList.any (·.refKey) = true := by rw [a]; exact Bool.false_ne_true
    rw [if_neg a']
    exact congrArg some e

theorem ObjM.look {h : Heap} {x dx C : Addr} {mA : Str → Option Value} (I : ObjM h x dx C mA) : ∃ od, PySem.W.InstAt h x (PySem.W.instObj C dx) C (some od) ∧ ∀ name, PySem.W.lookIn name od = some (mA name) :=
  let ⟨od, ho, hl⟩ := lookIn_ns I.ns
  ⟨od, ⟨I.obj, rfl, rfl, ho⟩, hl⟩

section
variable {prog : Program} {w : World} {A : Around} {E : Value → Shared → Prop} {s : Shared} {K : PySem.W.Frag} {x dx C f : Addr} {mA : Str → Option Value} {name : Str} {v : Value}

theorem get_map {expr : Bool} {Q : Value → Shared → Prop} (X : K.In s.heap) (I : ObjM s.heap x dx C mA) (hg : PySem.W.plainGet K C name = true) (hh : PySem.W.hasDictIn K C = true)
    (ha : PySem.W.findIn K (.ref C) name = some none) (hv : mA name = some v) (hv' : PySem.W.handedIn v = true) (h : Q v { s with toks := s.toks + 1 }) :
    wpAny (model prog w) A (getAttr (.ref x) name expr) Q E s := by
  obtain ⟨od, J, hl⟩ := I.look
  exact PySem.W.get_value X J (PySem.W.plainGet_of hg).1 (PySem.W.findObj_own hh ha rfl (by rw [hl, hv])) hv' h

theorem get_meth {pl : Sem Bool} {Q : Value × List Value → Shared → Prop} (X : K.In s.heap) (I : ObjM s.heap x dx C mA) (hg : PySem.W.plainGet K C name = true)
    (hf : PySem.W.findIn K (.ref C) name = some (some (.ref f))) (ht : PySem.W.isFn K (.ref f) = true) (hv : mA name = none) (h : Q (.ref f, [.ref x]) s) :
    wpAny (model prog w) A (getMethod (.ref x) name pl) Q E s := by
  obtain ⟨od, J, hl⟩ := I.look
  exact PySem.W.method_fn X J (PySem.W.plainGet_of hg).1 (PySem.W.plainGet_of hg).2 hf (beq_iff_eq.mp ht) (by show (PySem.W.lookIn name od).map (·.isSome) = some false; rw [hl, hv]; rfl) h

theorem set_map {ns : List Str} {Q : Unit → Shared → Prop} (X : K.In s.heap) (I : ObjM s.heap x dx C mA)
    (hs : PySem.W.findIn K (.ref C) "__setattr__" = some (some (.builtin "object.__setattr__"))) (hp : PySem.W.plainOver K C = true) (ht : PySem.W.takerIn K C name = some none) (hh : PySem.W.hasDictIn K C = true)
    (hw : PySem.Within mA ns) (hsz : ns.length ≤ sizeLine)
    (h : ∀ h', ObjM h' x dx C (fun y => if y = name then some v else mA y) → Heap.SameBut dx s.heap h' → Q () { s with heap := h', toks := s.toks + 2 }) :
    wpAny (model prog w) A (setAttr (.ref x) name v) Q E s := by
  obtain ⟨od, J, hl⟩ := I.look
  refine PySem.W.set_plain X J hs (PySem.W.osa_open (s := { s with toks := s.toks + 1 }) (r := none) X J hp ht fun b => ?_)
  obtain ⟨cd, hc, hd'⟩ := PySem.W.any_some hh
  have hx : s.heap.get? x = some ⟨.ref C, some dx, .plain, #[]⟩ := I.obj
  refine wpAny_bind (wpAny_pure (wpAny_bind (wpAny_bind (wpAny_loadPart hx (wpAny_bind (PySem.W.Looks.here (s := { s with toks := s.toks + 1 }) (PySem.W.looks_clsIn X hc) ?_))))))
  rw [hd']
  refine wpAny_pure (a := some dx) (wpAny_bind (wpAny_pure (wpAny_bind ?_)))
  refine wpAny_nsSet1 (s := { s with toks := s.toks + 1 }) I.ns fun h' hn2 hs2 => ?_
  obtain ⟨oD, esD, epD, hoD, hdD, hcD⟩ := hn2.count (PySem.Within.cons name v hw)
  refine wpAny_bind (wpAny_lookBehind hoD (by rw [hdD]; exact pastItsLine_dict (Nat.le_trans hcD (by rw [List.length_cons]; omega))) ?_)
  exact wpAny_pure (h _ ⟨(hs2.2 _ (Ne.symm I.ne)).trans I.obj, hn2, I.ne⟩ hs2)

theorem make_map {R : Result → Shared → Prop} {vs : List Value} {kw : List (Str × Value)} (X : K.In s.heap) (hm : PySem.W.makesIn K C = true)
    (hi : PySem.W.findIn K (.ref C) "__init__" = some (some (.ref f))) (hf : PySem.W.typeIn K (.ref f) = some (.type "function"))
    (h : codeAny (model prog w) (A.under (.builtin "type.__call__" ⟨.ref C :: vs, kw⟩)) (.call (.ref f) ⟨.ref (s.heap.objs.size + 1) :: vs, kw⟩) (PySem.W.InitBack (s.heap.objs.size + 1) R)
      { s with heap := (s.heap.push PySem.W.emptyDict).push (PySem.W.instObj C s.heap.objs.size) }) :
    codeAny (model prog w) A (.call (.ref C) ⟨vs, kw⟩) R s := by
  obtain ⟨hh, g, d, t, os⟩ := s
  exact PySem.W.make_core (PySem.W.makes_of X hm) (PySem.W.looks_findIn X hi) (fun self => PySem.W.bind_fn X self hf) (.inl rfl) h
end

/-! ### the attributes as a list of pairs -/
def putF (f : Str) (v : V) : List (Str × V) → List (Str × V)
  | [] => [(f, v)]
  | (g, x) :: r => if g = f then (g, v) :: r else (g, x) :: putF f v r
theorem lookup_putF (f g : Str) (v : V) : ∀ fs : List (Str × V), (putF f v fs).lookup g = if g = f then some v else fs.lookup g
  | [] => by
    show List.lookup g [(f, v)] = _
    by_cases h : g = f
    · have hb : (g == f) = true := beq_iff_eq.mpr h
      simp only [List.lookup, hb, if_pos h]
    · have hb : (g == f) = false := beq_eq_false_iff_ne.mpr h
      simp only [List.lookup, hb, if_neg h]
  | (k, x) :: r => by
    have ih := lookup_putF f g v r
    rw [show putF f v ((k, x) :: r) = (if k = f then (k, v) :: r else (k, x) :: putF f v r) from rfl]
    by_cases hk : k = f
    · rw [if_pos hk]
      by_cases h : g = k
      · have hb : (g == k) = true := beq_iff_eq.mpr h
        simp only [List.lookup, hb, if_pos (h.trans hk)]
      · have hb : (g == k) = false := beq_eq_false_iff_ne.mpr h
        simp only [List.lookup, hb, if_neg (fun e : g = f => h (e.trans hk.symm))]
    · rw [if_neg hk]
      by_cases h : g = k
      · have hb : (g == k) = true := beq_iff_eq.mpr h
        simp only [List.lookup, hb, if_neg (fun e : g = f => hk (h.symm.trans e))]
      · have hb : (g == k) = false := beq_eq_false_iff_ne.mpr h
        simp only [List.lookup, hb]
        exact ih
theorem keys_putF (f : Str) (v : V) : ∀ fs : List (Str × V), f ∈ (putF f v fs).map (·.1) ∧ ∀ g, g ∈ fs.map (·.1) → g ∈ (putF f v fs).map (·.1)
  | [] => ⟨by simp [putF], fun g h => by simp at h⟩
  | (k, x) :: r => by
    obtain ⟨i1, i2⟩ := keys_putF f v r
    rw [show putF f v ((k, x) :: r) = (if k = f then (k, v) :: r else (k, x) :: putF f v r) from rfl]
    by_cases hk : k = f
    · rw [if_pos hk]
      subst hk
      exact ⟨by simp, fun g h => by simpa using h⟩
    · rw [if_neg hk]
      refine ⟨?_, fun g h => ?_⟩
      · rw [List.map_cons]
        exact List.mem_cons_of_mem _ i1
      · rw [List.map_cons] at h ⊢
        rcases List.mem_cons.mp h with e | e
        · exact List.mem_cons.mpr (.inl e)
        · exact List.mem_cons_of_mem _ (i2 g e)
theorem length_putF (f : Str) (v : V) : ∀ fs : List (Str × V), (putF f v fs).length ≤ fs.length + 1
  | [] => by simp [putF]
  | (k, x) :: r => by
    have ih := length_putF f v r
    rw [show putF f v ((k, x) :: r) = (if k = f then (k, v) :: r else (k, x) :: putF f v r) from rfl]
    by_cases hk : k = f
    · rw [if_pos hk, List.length_cons, List.length_cons]; omega
    · rw [if_neg hk, List.length_cons, List.length_cons]; omega

theorem RelO.some_of {v : V} {o : Option Value} (r : RelO (some v) o) : ∃ u, o = some u ∧ RelV v u := by
  cases o with
  | none => exact (show False from r).elim
  | some u => exact ⟨u, rfl, r⟩
theorem RelO.none_of {o : Option Value} (r : RelO none o) : o = none := by
  cases o with
  | none => rfl
  | some u => exact (show False from r).elim
theorem handed_of {v : V} {u : Value} (r : RelV v u) : PySem.W.handedIn u = true := by
  cases v with
  | non => cases (show u = Value.none from r); rfl
  | bl b => cases (show u = Value.bool b from r); rfl
  | int i => obtain ⟨t, e⟩ := (show ∃ t, u = Value.int i t from r); cases e; rfl
  | str x => obtain ⟨t, e⟩ := (show ∃ t, u = Value.str x t from r); cases e; rfl
  | byt b => obtain ⟨t, e⟩ := (show ∃ t, u = Value.bytes b t from r); cases e; rfl
  | flt b => obtain ⟨t, e⟩ := (show ∃ t, u = Value.float b t from r); cases e; rfl
  | ref a => cases (show u = Value.ref a from r); rfl
  | ty n => cases (show u = Value.type n from r); rfl

section
variable {P : Program} {w : World} {H H' : Hp} {h h' : Heap} {a C dx : Addr} {fs fs' : List (Str × V)}
theorem ins_get (hok : HOk P w H h) (e : H a = some (.ins C dx fs)) : ∃ mA, ObjM h a dx C mA ∧ (∀ f, RelO (fs.lookup f) (mA f)) ∧ PySem.Within mA (fs.map (·.1)) ∧ fs.length ≤ 1000 ∧ H dx = some (.own a) := by
  obtain ⟨d, z, ne, ob, mA, n, r, q⟩ := (show ObjOk P w H h a (.ins C dx fs) from hok a _ e)
  exact ⟨mA, ⟨ob, n, ne⟩, r, q, z, d⟩
end

/-! ### what of the text a class must have -/
structure Cls (K : PySem.W.Frag) (C : Addr) : Prop where
  pg : PySem.W.plainGet K C Str.empty = true
  hd : PySem.W.hasDictIn K C = true
  po : PySem.W.plainOver K C = true
  sa : PySem.W.findIn K (.ref C) "__setattr__" = some (some (.builtin "object.__setattr__"))
theorem Cls.get {K : PySem.W.Frag} {C : Addr} (c : Cls K C) (f : Str) : PySem.W.plainGet K C f = true := c.pg
def NoAttr (K : PySem.W.Frag) (C : Addr) (f : Str) : Prop := PySem.W.findIn K (.ref C) f = some none
theorem NoAttr.taker {K : PySem.W.Frag} {C : Addr} {f : Str} (n : NoAttr K C f) : PySem.W.takerIn K C f = some none := by
  unfold PySem.W.takerIn
  rw [show PySem.W.findIn K (.ref C) f = some none from n]
  rfl
structure Con (K : PySem.W.Frag) (C : Addr) (f : Str) (v : V) (u : Value) : Prop where
  at_ : PySem.W.findIn K (.ref C) f = some (some u)
  rel : RelV v u
  get : PySem.W.specialIn K u "__get__" = some none
  cp : PySem.W.copiedNames.contains f = false
structure Meth (K : PySem.W.Frag) (C : Addr) (m : Str) (f : Addr) : Prop where
  at_ : PySem.W.findIn K (.ref C) m = some (some (.ref f))
  fn : PySem.W.isFn K (.ref f) = true
  kp : PySem.W.keepIn K (.ref f) = true

section
variable {X : Cx} {pins : List (Addr × Obj)} {σ : St} {H : Hp} {s : Shared} {a C dx : Addr} {fs : List (Str × V)} {f : Str} {v : V} {A : Around} {E : Value → Shared → Prop}

theorem getattr_ok {b : Bool} {Q : Value → Shared → Prop} (I : Inv X pins σ H s) (e : H a = some (.ins C dx fs)) (c : Cls X.K C) (n : NoAttr X.K C f) (l : fs.lookup f = some v)
    (h : ∀ u s', Inv X pins σ H s' → RelV v u → Q u s') : wpAny (model X.prog X.w) A (getAttr (.ref a) f b) Q E s := by
  obtain ⟨mA, O, r, _, _, _⟩ := ins_get I.hok e
  obtain ⟨u, hu, ru⟩ := RelO.some_of (v := v) (o := mA f) (by rw [← l]; exact r f)
  exact get_map I.kIn O (c.get f) c.hd n hu (handed_of ru) (h u _ (I.tok _) ru)

theorem getmeth_ok {m : Str} {g : Addr} {pl : Sem Bool} {Q : Value × List Value → Shared → Prop} (I : Inv X pins σ H s) (e : H a = some (.ins C dx fs)) (c : Cls X.K C) (k : Meth X.K C m g) (l : fs.lookup m = none)
    (h : Q (.ref g, [.ref a]) s) : wpAny (model X.prog X.w) A (getMethod (.ref a) m pl) Q E s := by
  obtain ⟨mA, O, r, _, _, _⟩ := ins_get I.hok e
  have hn : mA m = none := RelO.none_of (by rw [← l]; exact r m)
  exact get_meth I.kIn O (c.get m) k.at_ k.fn hn h

theorem setattr_ok {y : V} {u : Value} {Q : Unit → Shared → Prop} (I : Inv X pins σ H s) (e : H a = some (.ins C dx fs)) (c : Cls X.K C) (n : NoAttr X.K C f) (hl : fs.length < 1000) (ry : RelV y u)
    (h : ∀ s', Inv X pins σ (upd H a (.ins C dx (putF f y fs))) s' → Q () s') : wpAny (model X.prog X.w) A (setAttr (.ref a) f u) Q E s := by
  obtain ⟨mA, O, r, wi, _, ho⟩ := ins_get I.hok e
  have hz : (fs.map (·.1)).length ≤ sizeLine := by rw [List.length_map, sizeLine_eq]; omega
  refine set_map I.kIn O c.sa c.po n.taker c.hd wi hz fun h' O' sb => h _ ?_
  have hd : ∃ o, h'.get? dx = some o := let ⟨o, _, _, e', _⟩ := O'.ns; ⟨o, e'⟩
  refine I.write (x := a) (e := dx) (by rw [e]; exact True.intro) (.inr ho) (fun b q hb z => (sb.2 b hb).trans z) hd ?_
  refine ⟨by rw [upd_ne O.ne]; exact ho, ?_, O.ne, O'.obj, _, O'.ns, fun g => ?_, fun g hg => ?_⟩
  · have := length_putF f y fs; omega
  · show RelO ((putF f y fs).lookup g) (if g = f then some u else mA g)
    rw [lookup_putF]
    by_cases q : g = f
    · rw [if_pos q, if_pos q]; exact ry
    · rw [if_neg q, if_neg q]; exact r g
  · by_cases q : g = f
    · rw [q]; exact (keys_putF f y fs).1
    · refine (keys_putF f y fs).2 g (wi g fun z => hg ?_)
      show (if g = f then some u else mA g) = none
      rw [if_neg q]; exact z

theorem Inv.made (I : Inv X pins σ H s) : Inv X pins σ (upd (upd H s.heap.objs.size (.own (s.heap.objs.size + 1))) (s.heap.objs.size + 1) (.ins C s.heap.objs.size []))
    { s with heap := (s.heap.push PySem.W.emptyDict).push (PySem.W.instObj C s.heap.objs.size) } := by
  have e1 : (s.heap.push PySem.W.emptyDict).get? s.heap.objs.size = some PySem.W.emptyDict := Heap.get?_push_size s.heap rfl
  have e2 : ((s.heap.push PySem.W.emptyDict).push (PySem.W.instObj C s.heap.objs.size)).get? (s.heap.objs.size + 1) = some (PySem.W.instObj C s.heap.objs.size) := by
    have := Heap.get?_push_size (s.heap.push PySem.W.emptyDict) (o := PySem.W.instObj C s.heap.objs.size) rfl
    rwa [Heap.size_push] at this
  have e3 : (s.heap.push PySem.W.emptyDict).Ns s.heap.objs.size (fun _ => none) := ⟨PySem.W.emptyDict, #[], _, e1, rfl, (fun e he => absurd he (by simp)), fun _ => rfl⟩
  have I1 := I.laid (a := s.heap.objs.size) (o := .own (s.heap.objs.size + 1)) (h' := s.heap.push PySem.W.emptyDict) (t' := s.toks) (fun b u q => Heap.get?_push_of_some _ q) (Nat.le_refl _) ⟨_, e1⟩
  refine I1.laid (a := s.heap.objs.size + 1) (o := .ins C s.heap.objs.size []) (t' := s.toks) (fun b u q => Heap.get?_push_of_some _ q) (Nat.le_of_eq (Heap.size_push _ _)) ?_
  have ne : s.heap.objs.size ≠ s.heap.objs.size + 1 := Nat.ne_of_lt (Nat.lt_succ_self _)
  refine ⟨by rw [upd_ne ne, upd_same], Nat.zero_le _, ne, e2, fun _ => none, (Heap.Ns1.of_empty e3).at fun o q => Heap.get?_push_of_some _ q, fun _ => True.intro, fun y hy => absurd rfl hy⟩

theorem attr_of {prog : Program} {w : World} {env : Env} {e : Expr} {f : Str} {pos : Pos} {s : Shared} {Q : Value → Shared → Prop} (hb : attributeBase e f env (eval e env) = eval e env)
    (h : wpAny (model prog w) A (eval e env) (fun o s₁ => wpAny (model prog w) A (getAttr o f true) Q E s₁) E s) : wpAny (model prog w) A (eval (.Attribute e f pos) env) Q E s :=
  Attribute_any_ h (by rw [arm_eval_Attribute, hb])
end

/-! ### readings and rules -/
def tFld (K : PySem.W.Frag) (ta : TE) (f : Str) : TE := fun σ H Q => ta σ H fun x H1 => ∃ a C dx fs v, x = .ref a ∧ H1 a = some (.ins C dx fs) ∧ Cls K C ∧ NoAttr K C f ∧ fs.lookup f = some v ∧ Q v H1
def sFld (K : PySem.W.Frag) (ta tv : TE) (f : Str) : TS := fun D σ H => tv σ H fun y H1 => ta σ H1 fun x H2 => ∃ a C dx fs, x = .ref a ∧ H2 a = some (.ins C dx fs) ∧ Cls K C ∧ NoAttr K C f ∧ fs.length < 1000 ∧
  D.nx σ (upd H2 a (.ins C dx (putF f y fs)))
section
variable {X : Cx} {o e value : Expr} {f : Str} {pos pos' tpos : Pos} {ta tv : TE}
theorem pe_fld (he : PE X e ta) (hb : attributeBase e f X.env (eval e X.env) = eval e X.env) : PE X (.Attribute e f pos) (tFld X.K ta f) := by
  intro pins s σ H Q I h
  refine attr_of hb (thn (he pins s σ H _ I h) fun u s1 ⟨x, H1, I1, rx, a, C, dx, fs, v, ex, ea, c, n, l, q⟩ => ?_)
  subst ex
  obtain rfl : u = Value.ref a := rx
  exact getattr_ok I1 ea c n l fun u' s2 I2 ru => ⟨v, H1, I2, ru, q⟩
theorem ps_fld (ha : PE X o ta) (hv : PE X value tv) (hs : swapsWith value (some (.Attribute o f pos')) pos.line X.env = pure false) : PS X (.Assign [.Attribute o f pos'] value pos) (sFld X.K ta tv f) := by
  intro pins s σ H D I h
  refine plainObj_wpAny_Assign_Attribute (thn (hv pins s σ H _ I h) fun u s1 ⟨y, H1, I1, ry, q⟩ => thn (ha pins s1 σ H1 _ I1 q) fun ov s2 ⟨x, H2, I2, rx, a, C, dx, fs, ex, ea, c, n, l, q2⟩ => ?_) hs
  subst ex
  obtain rfl : ov = Value.ref a := rx
  exact setattr_ok I2 ea c n l ry fun s3 I3 => ⟨σ, _, I3, q2⟩
end

/-! ### isinstance -/
section
variable {X : Cx} {pins : List (Addr × Obj)} {σ : St} {H : Hp} {s : Shared} {A : Around} {E : Value → Shared → Prop} {Q : Value → Shared → Prop} {c : Value} {b : Bool}
inductive TyOf (K : PySem.W.Frag) (H : Hp) : V → Value → Prop where
  | non : TyOf K H .non (.type "NoneType")
  | bl (x : Bool) : TyOf K H (.bl x) (.type "bool")
  | int (i : Int) : TyOf K H (.int i) (.type "int")
  | str (x : Str) : TyOf K H (.str x) (.type "str")
  | flt (x : UInt64) : TyOf K H (.flt x) (.type "float")
  | lst {a : Addr} {xs : List V} (e : H a = some (.lst xs)) : TyOf K H (.ref a) (.type "list")
  | frz {a : Addr} {o : Obj} {xs : List V} (e : H a = some (.frz o (.lst xs))) : TyOf K H (.ref a) (.type "list")
  | tup {a : Addr} {xs : List V} (e : H a = some (.tup xs)) : TyOf K H (.ref a) (.type "tuple")
  | dK {a : Addr} {kvs : List (Key × V)} (e : H a = some (.dK kvs)) : TyOf K H (.ref a) (.type "dict")
  | dT {a : Addr} {kvs : List (List Key × V)} (e : H a = some (.dT kvs)) : TyOf K H (.ref a) (.type "dict")
  | ins {a C dx : Addr} {fs : List (Str × V)} (e : H a = some (.ins C dx fs)) (cl : Cls K C) (ha : PySem.W.findIn K (.ref C) "__class__" = some (some (.builtin "object.__class__")))
      (hn : PySem.W.specialIn K (.builtin "object.__class__") "__get__" = some (some (.builtin "getset_descriptor.__get__"))) (htk : PySem.W.takesIn K (.builtin "object.__class__") = some true)
      (hm : PySem.W.mroIn K C (.type "object") = some true) : TyOf K H (.ref a) (.ref C)
end
end L2

namespace L2
open PySem PySem.Spec PyProof.Rows

/-! ### room -/
structure Room (k : Nat) (A : Around) : Prop where
  hd : A.handled = none
  dp : A.depth + 3 * k + 5 < recursionLimit
  un : A.units + 16 * k + 200 < cLine
theorem Room.mono {j k : Nat} {A : Around} (r : Room k A) (h : j ≤ k) : Room j A := ⟨r.hd, by have := r.dp; omega, by have := r.un; omega⟩
theorem Room.deeper {k : Nat} {A : Around} (r : Room (k + 1) A) (env : Env) : Room k (A.deeper env) :=
  ⟨r.hd, by have := r.dp; show A.depth + 1 + 3 * k + 5 < _; omega, by have := r.un; show A.units + 3 + 16 * k + 200 < _; omega⟩
theorem make_depth {A : Around} {C : Addr} {us : List Value} {kw : List (Str × Value)} : (A.under (.builtin "type.__call__" ⟨.ref C :: us, kw⟩)).depth = A.depth + 1 := by
  first | rfl | simp [Around.under, Code.weight, Code.isCreation, Code.isGuard, Code.isCaller, Code.frames, Code.isFrame, guardIds]
theorem make_units {A : Around} {C : Addr} {us : List Value} {kw : List (Str × Value)} : (A.under (.builtin "type.__call__" ⟨.ref C :: us, kw⟩)).units = A.units + 1 := by
  first | rfl | simp [Around.under, Code.cUnits, Code.frames, Code.isFrame]
theorem Room.make {k : Nat} {A : Around} (r : Room (k + 1) A) (C : Addr) (us : List Value) (kw : List (Str × Value)) : Room k (A.under (.builtin "type.__call__" ⟨.ref C :: us, kw⟩)) :=
  ⟨r.hd, by have := r.dp; rw [make_depth]; omega, by have := r.un; rw [make_units]; omega⟩
theorem Room.depth {k : Nat} {A : Around} (r : Room k A) : A.depth < recursionLimit := by have := r.dp; omega
theorem Room.units {k : Nat} {A : Around} (r : Room k A) : A.units + 64 < cLine := by have := r.un; omega
/-! ### argument lists and displays -/
def tNil : TA := fun _ H Q => Q [] H
def tCons (ta : TE) (tr : TA) : TA := fun σ H Q => ta σ H fun x H1 => tr σ H1 fun xs H2 => Q (x :: xs) H2
section
variable {X : Cx} {e : Expr} {es : List Expr} {te : TE} {t : TA} {pos : Pos}
theorem pa_nil : PA X [] tNil := fun _ _ _ _ H Q I h => Calls.spliced_nil ⟨[], H, I, .nil, h⟩
theorem pa_cons (ha : PE X e te) (hr : PA X es t) (hs : starEach (e :: es) X.env = (false, eval e X.env) :: starEach es X.env := by rfl) : PA X (e :: es) (tCons te t) := by
  intro pos pins s σ H Q I h
  rw [hs]
  show wpAny _ _ (spliced ((false, eval e X.env) :: backTo pos (starEach es X.env))) _ _ s
  refine Calls.spliced_cons (thn (ha pins s σ H _ I h) fun u s1 ⟨x, H1, I1, r1, q1⟩ => ?_)
  exact thn (hr pos pins s1 σ H1 _ I1 q1) fun us s2 ⟨xs, H2, I2, r2, q2⟩ => ⟨x :: xs, H2, I2, .cons r1 r2, q2⟩

def tTup (t : TA) : TE := fun σ H Q => t σ H fun xs H1 => xs.length ≤ sizeLine ∧ ∀ p, H1 p = none → Q (.ref p) (upd H1 p (.tup xs))
def tLst (t : TA) : TE := fun σ H Q => t σ H fun xs H1 => xs.length ≤ sizeLine ∧ ∀ p, H1 p = none → Q (.ref p) (upd H1 p (.lst xs))
theorem pe_tup {x1} (h : PA X es t) : PE X (.Tuple es x1 pos) (tTup t) := by
  intro pins s σ H Q I hq
  refine wpAny_Tuple_spliced (thn (h pos pins s σ H _ I hq) fun us s1 ⟨xs, H1, I1, r, z, q⟩ => ⟨by rw [← r.length]; exact z, ?_⟩)
  have hf : H1 s1.heap.objs.size = none := I1.hok.fresh (Nat.le_refl _)
  refine ⟨.ref s1.heap.objs.size, upd H1 s1.heap.objs.size (.tup xs), I1.laid (t' := s1.toks) (fun b u e => Heap.get?_push_of_some _ e) (Nat.le_refl _) ?_, rfl, q _ hf⟩
  exact ⟨z, us, r, ⟨_, Heap.get?_push_size _ rfl, rfl, _, rfl⟩⟩
theorem pe_lst (h : PA X es t) : PE X (.List es pos) (tLst t) := by
  intro pins s σ H Q I hq
  refine wpAny_List_spliced (thn (h pos pins s σ H _ I hq) fun us s1 ⟨xs, H1, I1, r, z, q⟩ => ⟨by rw [← r.length]; exact z, ?_⟩)
  have hf : H1 s1.heap.objs.size = none := I1.hok.fresh (Nat.le_refl _)
  refine ⟨.ref s1.heap.objs.size, upd H1 s1.heap.objs.size (.lst xs), I1.laid (t' := s1.toks) (fun b u e => Heap.get?_push_of_some _ e) (Nat.le_refl _) ?_, rfl, q _ hf⟩
  exact ⟨z, us, 0, r, Heap.get?_push_size _ rfl⟩
end

/-! ### what a def promises -/
abbrev Sp := List V → Hp → VK → XK → Prop
abbrev CXT := List Env → Hp → Shared → XK → Value → Shared → Prop

structure Env0 (P : Program) (w : World) (K : PySem.W.Frag) (mg : Str → Option Value) (base : Heap) (A : Around) (outer : List Env) (s : Shared) (H : Hp) : Prop where
  frames : A.frames = some outer
  mod : Mod K mg base
  bs : ∀ b o, base.get? b = some o → s.heap.get? b = some o ∧ H b = none
  bsz : base.objs.size ≤ s.heap.objs.size
  funs : s.heap.FunFrames base outer
  frf : ∀ b ∈ frs outer, H b = none
  hok : HOk P w H s.heap
  bare : AllBare s.gens
def CE (outer : List Env) (P : Program) (w : World) (H : Hp) (s : Shared) (Q : VK) (u : Value) (s' : Shared) : Prop :=
  ∃ v H', s'.os = s.os ∧ AllBare s'.gens ∧ Un (frs outer) [] H H' s.heap s'.heap ∧ HOk P w H' s'.heap ∧ RelV v u ∧ Q v H'
def CR (CX : CXT) (outer : List Env) (P : Program) (w : World) (H : Hp) (s : Shared) (Q : VK) (E : XK) (r : Result) (s' : Shared) : Prop :=
  match r with
  | .ok (.ret u) => CE outer P w H s Q u s'
  | .ok _ => False
  | .error e => CX outer H s E e s'
structure FnOk (P : Program) (w : World) (K : PySem.W.Frag) (mg : Str → Option Value) (base : Heap) (CX : CXT) (k : Nat) (f : Addr) (fd : FuncData) (ps : List Str) (sp : Sp) : Prop where
  len : ∀ vs H Q E, sp vs H Q E → vs.length = ps.length
  run : ∀ (A : Around) (outer : List Env) (s : Shared) (H : Hp) (args : Args) (us : List Value) (vs : List V) (Q : VK) (E : XK), Room k A → Env0 P w K mg base A outer s H → BindsTo s fd args (ps.zip us) → Vals vs us → sp vs H Q E →
    codeAny (model P w) A (.call (.ref f) args) (CR CX outer P w H s Q E) s
theorem FnOk.mono {P : Program} {w : World} {K : PySem.W.Frag} {mg : Str → Option Value} {base : Heap} {CX : CXT} {j k : Nat} {f : Addr} {fd : FuncData} {ps : List Str} {sp : Sp} (F : FnOk P w K mg base CX j f fd ps sp) (h : j ≤ k) :
    FnOk P w K mg base CX k f fd ps sp := ⟨F.len, fun A outer s H args us vs Q E hr => F.run A outer s H args us vs Q E (hr.mono h)⟩
theorem FnOk.imp {P : Program} {w : World} {K : PySem.W.Frag} {mg : Str → Option Value} {base : Heap} {CX : CXT} {k : Nat} {f : Addr} {fd : FuncData} {ps : List Str} {sp sp' : Sp} (F : FnOk P w K mg base CX k f fd ps sp)
    (h : ∀ vs H Q E, sp' vs H Q E → sp vs H Q E) : FnOk P w K mg base CX k f fd ps sp' :=
  ⟨fun vs H Q E q => F.len vs H Q E (h _ _ _ _ q), fun A outer s H args us vs Q E hr he hb hv hs => F.run A outer s H args us vs Q E hr he hb hv (h _ _ _ _ hs)⟩

theorem Env0.make {P : Program} {w : World} {K : PySem.W.Frag} {mg : Str → Option Value} {base : Heap} {A : Around} {outer : List Env} {s : Shared} {H : Hp} (e : Env0 P w K mg base A outer s H) (C : Addr) (us : List Value) (kw : List (Str × Value)) :
    Env0 P w K mg base (A.under (.builtin "type.__call__" ⟨.ref C :: us, kw⟩)) outer s H := ⟨by first | exact e.frames | (simpa [Around.under, Code.envs, Code.isFrame, pushEnvs] using e.frames), e.mod, e.bs, e.bsz, e.funs, e.frf, e.hok, e.bare⟩
section
variable {X : Cx} {pins : List (Addr × Obj)} {σ : St} {H : Hp} {s s' : Shared}
theorem Inv.env0 (I : Inv X pins σ H s) : Env0 X.prog X.w X.K X.mg X.base X.A X.stack s H :=
  ⟨I.ok.frames, I.ok.mod, I.bs, Nat.le_trans I.ok.bsz I.sz, I.stack, I.stkFree, I.hok, I.bare⟩
theorem Inv.after {Q : VK} {u : Value} (I : Inv X pins σ H s) (h : CE X.stack X.prog X.w H s Q u s') : EP X pins σ Q u s' := by
  obtain ⟨v, H', os, bare, un, hok, r, q⟩ := h
  obtain ⟨hh, g, d, t, os'⟩ := s'
  obtain rfl : os' = s.os := os
  exact ⟨v, H', I.call (h' := hh) (g' := g) (d' := d) (t' := t) (ch := []) un hok bare (fun b z => absurd z (by simp)), r, q⟩
end

/-! ### calls -/
def tCall (sp : Sp) (dvs : List V) (E : XK) (t : TA) : TE := fun σ H Q => t σ H fun vs H1 => sp (vs ++ dvs) H1 Q E
def tMake (C : Addr) (sp : Sp) (dvs : List V) (E : XK) (t : TA) : TE := fun σ H Q => t σ H fun vs H1 => ∀ x dx, H1 x = none → H1 dx = none → dx ≠ x →
  sp (.ref x :: (vs ++ dvs)) (upd (upd H1 dx (.own x)) x (.ins C dx [])) (fun v H2 => v = .non ∧ Q (.ref x) H2) E

def Binds (K : PySem.W.Frag) (fd : FuncData) (ps : List Str) (ds : List Value) : Prop :=
  ∀ (s : Shared) (us : List Value), K.In s.heap → (us ++ ds).length = ps.length → BindsTo s fd ⟨us, []⟩ (ps.zip (us ++ ds))
theorem Binds.all {K : PySem.W.Frag} {fd : FuncData} {ps : List Str} (h : ∀ us : List Value, us.length = ps.length → bindArgs fd ⟨us, []⟩ = pure (ps.zip us)) : Binds K fd ps [] := fun s us _ hl => by
  rw [List.append_nil] at hl ⊢
  exact .of_eq (h us hl)

def Passes (CX : CXT) (X : Cx) (E : XK) : Prop := ∀ (pins : List (Addr × Obj)) (σ : St) (H : Hp) (s : Shared) (e : Value) (s' : Shared), Inv X pins σ H s → CX X.stack H s E e s' → X.xe e s'

section
variable {X : Cx} {CX : CXT} {k : Nat} {f C : Addr} {fd : FuncData} {ps : List Str} {sp : Sp} {dvs : List V} {ds : List Value} {E : XK} {x m : Str} {p pos apos : Pos} {e o : Expr} {es : List Expr} {ta : TE} {t : TA}

theorem run_fn {pins : List (Addr × Obj)} {σ : St} {H : Hp} {s : Shared} {Q : VK} {us : List Value} {vs : List V} (F : FnOk X.prog X.w X.K X.mg X.base CX k f fd ps sp) (hr : Room k X.A) (hb : Binds X.K fd ps ds) (hd : Vals dvs ds) (hx : Passes CX X E)
    (I : Inv X pins σ H s) (r : Vals vs us) (h : sp (vs ++ dvs) H Q E) : wpAny (model X.prog X.w) X.A (call (.ref f) us) (EP X pins σ Q) X.xe s := by
  have r2 : Vals (vs ++ dvs) (us ++ ds) := r.append hd
  have hl : (us ++ ds).length = ps.length := by rw [← r2.length]; exact F.len _ _ _ _ h
  refine wpAny_call (codeAny_mono (F.run X.A X.stack s H ⟨us, []⟩ (us ++ ds) (vs ++ dvs) Q E hr I.env0 (hb s us I.kIn hl) r2 h) fun r s' hq => ?_)
  cases r with
  | error e => exact hx pins σ H s e s' I hq
  | ok fl =>
    cases fl with
    | ret u => exact I.after hq
    | next => exact False.elim hq
    | brk => exact False.elim hq
    | cont => exact False.elim hq

theorem pe_call (F : FnOk X.prog X.w X.K X.mg X.base CX k f fd ps sp) (hr : Room k X.A) (hg : Gl X x) (hm : X.mg x = some (.ref f)) (hk : PySem.W.keepIn X.K (.ref f) = true) (hb : Binds X.K fd ps ds) (hd : Vals dvs ds) (hx : Passes CX X E)
    (ha : PA X (e :: es) t) (hdb : (x == ("__debug__" : Str)) = false := by decide) (he : starEach (e :: es) X.env = (false, eval e X.env) :: starEach es X.env := by rfl) (hpl : (backTo pos (starEach es X.env)).any (·.1) = false := by rfl) :
    PE X (.Call (.Name x p) (e :: es) [] pos) (tCall sp dvs E t) := by
  intro pins s σ H Q I h
  refine wpAny_Call_Name_kw (ld_glob I hg hm ?_ hdb)
  refine PySem.W.callWith_K (h₀ := X.base) I.ok.mod.kin hk (thn (ha pos pins s σ H _ I h) fun us s1 ⟨vs, H1, I1, r, q⟩ => ⟨I1.kIn, ?_⟩) he hpl
  exact run_fn F hr hb hd hx I1 r q
structure Mk (K : PySem.W.Frag) (C f : Addr) : Prop where
  makes : PySem.W.makesIn K C = true
  init : PySem.W.findIn K (.ref C) "__init__" = some (some (.ref f))
  fn : PySem.W.isFn K (.ref f) = true
  kp : PySem.W.keepIn K (.ref C) = true

theorem run_make {pins : List (Addr × Obj)} {σ : St} {H : Hp} {s : Shared} {Q : VK} {us : List Value} {vs : List V} (M : Mk X.K C f) (F : FnOk X.prog X.w X.K X.mg X.base CX k f fd ps sp) (hr : Room (k + 1) X.A) (hb : Binds X.K fd ps ds) (hd : Vals dvs ds)
    (hx : Passes CX X E) (I : Inv X pins σ H s) (r : Vals vs us)
    (h : ∀ x dx, H x = none → H dx = none → dx ≠ x → sp (.ref x :: (vs ++ dvs)) (upd (upd H dx (.own x)) x (.ins C dx [])) (fun v H2 => v = .non ∧ Q (.ref x) H2) E) :
    wpAny (model X.prog X.w) X.A (call (.ref C) us) (EP X pins σ Q) X.xe s := by
  have hq := h (s.heap.objs.size + 1) s.heap.objs.size (I.hok.fresh (Nat.le_succ _)) (I.hok.fresh (Nat.le_refl _)) (Nat.ne_of_lt (Nat.lt_succ_self _))
  have I2 := Inv.made (C := C) I
  have r2 : Vals (V.ref (s.heap.objs.size + 1) :: (vs ++ dvs)) (Value.ref (s.heap.objs.size + 1) :: (us ++ ds)) := .cons rfl (r.append hd)
  have hl : (Value.ref (s.heap.objs.size + 1) :: us ++ ds).length = ps.length := by
    have e := r2.length
    rw [F.len _ _ _ _ hq] at e
    exact e.symm
  refine wpAny_call (make_map (f := f) I.kIn M.makes M.init (beq_iff_eq.mp M.fn) (codeAny_mono (F.run _ X.stack _ _ ⟨Value.ref (s.heap.objs.size + 1) :: us, []⟩ (Value.ref (s.heap.objs.size + 1) :: (us ++ ds)) _ _ E (hr.make C us [])
    (I2.env0.make C us []) (hb _ (Value.ref (s.heap.objs.size + 1) :: us) I2.kIn hl) r2 hq) fun r s' hq' => ?_))
  cases r with
  | error e => exact hx pins σ _ _ e s' I2 hq'
  | ok fl =>
    cases fl with
    | ret u =>
      obtain ⟨v, H', I3, rv, ev, q3⟩ := I2.after hq'
      subst ev
      exact ⟨rv, ⟨V.ref (s.heap.objs.size + 1), H', I3, rfl, q3⟩⟩
    | next => exact False.elim hq'
    | brk => exact False.elim hq'
    | cont => exact False.elim hq'
theorem pe_make (M : Mk X.K C f) (F : FnOk X.prog X.w X.K X.mg X.base CX k f fd ps sp) (hr : Room (k + 1) X.A) (hg : Gl X x) (hm : X.mg x = some (.ref C)) (hb : Binds X.K fd ps ds) (hd : Vals dvs ds) (hx : Passes CX X E)
    (ha : PA X (e :: es) t) (hdb : (x == ("__debug__" : Str)) = false := by decide) (he : starEach (e :: es) X.env = (false, eval e X.env) :: starEach es X.env := by rfl) (hpl : (backTo pos (starEach es X.env)).any (·.1) = false := by rfl) :
    PE X (.Call (.Name x p) (e :: es) [] pos) (tMake C sp dvs E t) := by
  intro pins s σ H Q I h
  refine wpAny_Call_Name_kw (ld_glob I hg hm ?_ hdb)
  refine PySem.W.callWith_K (h₀ := X.base) I.ok.mod.kin M.kp (thn (ha pos pins s σ H _ I h) fun us s1 ⟨vs, H1, I1, r, q⟩ => ⟨I1.kIn, ?_⟩) he hpl
  exact run_make M F hr hb hd hx I1 r q
theorem pe_make0 (M : Mk X.K C f) (F : FnOk X.prog X.w X.K X.mg X.base CX k f fd ps sp) (hr : Room (k + 1) X.A) (hg : Gl X x) (hm : X.mg x = some (.ref C)) (hb : Binds X.K fd ps ds) (hd : Vals dvs ds) (hx : Passes CX X E)
    (hdb : (x == ("__debug__" : Str)) = false := by decide) : PE X (.Call (.Name x p) [] [] pos) (tMake C sp dvs E tNil) := by
  intro pins s σ H Q I h
  refine wpAny_Call_Name_kw (ld_glob I hg hm ?_ hdb)
  exact PySem.W.callWith_K0 I.kIn M.kp (run_make (us := []) M F hr hb hd hx I .nil h)
end

/-! ### keywords -/
section
variable {X : Cx} {CX : CXT} {k : Nat} {f C : Addr} {fd : FuncData} {ps ks : List Str} {sp : Sp} {E : XK} {x m : Str} {p pos apos kpos : Pos} {e o : Expr} {es : List Expr} {kws : List Keyword} {te ta : TE} {t tk : TA} {nm : Option Str}
structure KBinds (K : PySem.W.Frag) (fd : FuncData) (ps ks : List Str) (g : List Value → List Value → List Value) (gV : List V → List V → List V) : Prop where
  to : ∀ (s : Shared) (us ws : List Value), K.In s.heap → (g us ws).length = ps.length → BindsTo s fd ⟨us, ks.zip ws⟩ (ps.zip (g us ws))
  rel : ∀ {vs : List V} {us : List Value} {zs : List V} {ws : List Value}, Vals vs us → Vals zs ws → Vals (gV vs zs) (g us ws)
variable {g : List Value → List Value → List Value} {gV : List V → List V → List V}
end

/-! ### a def's body keeps its promise -/
structure FnScope (N P : List Str) (sc : Scope) : Prop where
  kind : sc.kind = .function
  co : sc.isCoroutine = false
  gen : sc.isGenerator = false
  nd : N.Nodup
  pre : N.take P.length = P
  par : ∀ x ∈ P, sc.names.lookup x = some .local ∨ sc.names.lookup x = some .cell
  nofree : ∀ y ∈ sc.names, y.2 ≠ .free

theorem bindL_out {kindOf : Str → Option NameKind} {x : Str} : ∀ {binds : List (Str × Value)} {m : Str → Option Value}, (∀ v, (x, v) ∉ binds) → bindL kindOf binds m x = m x
  | [], _, _ => rfl
  | (n, v) :: r, m, h => by
    unfold bindL
    rw [bindL_out fun w hw => h w (List.mem_cons_of_mem _ hw)]
    split
    · have : x ≠ n := by rintro rfl; exact h v List.mem_cons_self
      simp [this]
    · rfl
theorem bindC_out {kindOf : Str → Option NameKind} {x : Str} : ∀ {binds : List (Str × Value)} {m : Str → Option Value}, (∀ v, (x, v) ∉ binds) → bindC kindOf binds m x = m x
  | [], _, _ => rfl
  | (n, v) :: r, m, h => by
    unfold bindC
    rw [bindC_out fun w hw => h w (List.mem_cons_of_mem _ hw)]
    split
    · rfl
    · have : x ≠ n := by rintro rfl; exact h v List.mem_cons_self
      simp [this]
theorem bindL_get {kindOf : Str → Option NameKind} {x : Str} {v : Value} : ∀ {P : List Str} {vs : List Value} {i : Nat} {m : Str → Option Value}, P.Nodup → P[i]? = some x → vs[i]? = some v → kindOf x = some .local →
    bindL kindOf (P.zip vs) m x = some v
  | [], _, _, _, _, h, _, _ => by simp at h
  | _ :: _, [], _, _, _, _, h, _ => by simp at h
  | p :: P, w :: vs, 0, m, nd, h1, h2, hk => by
    simp at h1 h2; subst h1; subst h2
    show bindL kindOf ((p, w) :: P.zip vs) m p = _
    unfold bindL
    rw [bindL_out fun v hv => (List.nodup_cons.mp nd).1 (List.of_mem_zip hv).1, if_pos hk]
    simp
  | p :: P, w :: vs, i + 1, m, nd, h1, h2, hk => by
    show bindL kindOf ((p, w) :: P.zip vs) m x = _
    unfold bindL
    exact bindL_get (i := i) (List.nodup_cons.mp nd).2 (by simpa using h1) (by simpa using h2) hk
theorem bindC_get {kindOf : Str → Option NameKind} {x : Str} {v : Value} : ∀ {P : List Str} {vs : List Value} {i : Nat} {m : Str → Option Value}, P.Nodup → P[i]? = some x → vs[i]? = some v → kindOf x ≠ some .local →
    bindC kindOf (P.zip vs) m x = some v
  | [], _, _, _, _, h, _, _ => by simp at h
  | _ :: _, [], _, _, _, _, h, _ => by simp at h
  | p :: P, w :: vs, 0, m, nd, h1, h2, hk => by
    simp at h1 h2; subst h1; subst h2
    show bindC kindOf ((p, w) :: P.zip vs) m p = _
    unfold bindC
    rw [bindC_out fun v hv => (List.nodup_cons.mp nd).1 (List.of_mem_zip hv).1, if_neg hk]
    simp
  | p :: P, w :: vs, i + 1, m, nd, h1, h2, hk => by
    show bindC kindOf ((p, w) :: P.zip vs) m x = _
    unfold bindC
    exact bindC_get (i := i) (List.nodup_cons.mp nd).2 (by simpa using h1) (by simpa using h2) hk

def start (N : List Str) (vs : List V) : St := vs.map some ++ List.replicate (N.length - vs.length) none

def cxOf (CX : CXT) (P : Program) (w : World) (K : PySem.W.Frag) (mg : Str → Option Value) (base : Heap) (N : List Str) (qual : Str) (scope : Scope) (f : Addr) (cd : Value) (A : Around) (outer : List Env) (s : Shared) (H : Hp) (E : XK) : Cx where
  prog := P
  w := w
  K := K
  mg := mg
  base := base
  A := A.deeper (envOfC qual scope s.heap.objs.size f cd)
  N := N
  s₀ := s
  H₀ := H
  env := envOfC qual scope s.heap.objs.size f cd
  outer := outer
  stack := envOfC qual scope s.heap.objs.size f cd :: outer
  ex := []
  calm := true
  fn := fun _ => true
  pn := []
  xe := fun e s' => wpAny (model P w) (A.deeper (envOfC qual scope s.heap.objs.size f cd)) (leaving (envOfC qual scope s.heap.objs.size f cd) e) (fun _ s'' => CX outer H s E e s'') (fun e' s'' => CX outer H s E e' s'') s'

theorem cell_has {sc : Scope} {n : Nat} {x : Str} (h : sc.names.lookup x = some .cell) : ∃ c, (cellsFrom n sc.names []).lookup x = some c := by
  have q := PySem.W.cellsFrom_some sc.names n [] (.inl h)
  exact Option.isSome_iff_exists.mp q

theorem inv_start {CX : CXT} {P : Program} {w : World} {K : PySem.W.Frag} {mg : Str → Option Value} {base : Heap} {N ps : List Str} {qual : Str} {scope : Scope} {f : Addr} {cd : Value} {A : Around} {outer : List Env} {s s1 : Shared} {H : Hp} {E : XK} {us : List Value} {vs : List V}
    (S : FnScope N ps scope) (hd : A.handled = none) (e0 : Env0 P w K mg base A outer s H) (hl : vs.length = ps.length) (r : Vals vs us)
    (x : InCallC s s.heap.objs.size (bindL (envOfC qual scope s.heap.objs.size f cd).kindOf (ps.zip us) fun _ => none) (cellsFrom (s.heap.objs.size + 1) scope.names []) (bindC (envOfC qual scope s.heap.objs.size f cd).kindOf (ps.zip us) fun _ => none) s1) :
    Inv (cxOf CX P w K mg base N qual scope f cd A outer s H E) [] (start N vs) H s1 := by
  have hpl : ps.length ≤ N.length := by have := congrArg List.length S.pre; rw [List.length_take] at this; omega
  obtain ⟨h1, tk, rfl, hk⟩ := x.done
  have noA : ∀ b : Addr, b ∉ (cxOf CX P w K mg base N qual scope f cd A outer s H E).ex := fun b z => absurd (show b ∈ ([] : List Addr) from z) (by simp)
  refine ⟨⟨e0.mod, S.kind, rfl, rfl, Nat.le_refl _, fun y z c h1 h2 => ?_, fun y hy => ?_, fun y c _ h => ?_, fun _ => hd, Around.frames_deeper e0.frames, .inr ⟨rfl, rfl⟩, fun b z => absurd z (noA b), e0.bs, e0.bsz, fun b _ _ => noA b, fun b z => absurd z (noA b), e0.funs, e0.frf⟩,
    rfl, e0.bare, Un.kept hk, ⟨_, x.toInCall.ns, fun i y v h1 h2 h3 => ?_⟩, fun y c h => ⟨_, x.cell y c h⟩, e0.hok.fresh (Nat.le_refl _), fun y c h => ?_, fun p hp => absurd (show p ∈ ([] : List (Addr × Obj)) from hp) (by simp), e0.hok.kept hk, ?_⟩
  · exact name_of_addr x.apart (PySem.mem_of_lookup h1) (PySem.mem_of_lookup h2)
  · have hy : scope.names.lookup y = some .cell ∨ scope.names.lookup y = some .free := hy
    rcases hy with hy | hy
    · exact cell_has hy
    · exact absurd rfl (S.nofree _ (PySem.mem_of_lookup hy))
  · exact Nat.le_of_lt (x.above y c (PySem.mem_of_lookup h))
  · have hi : i < vs.length := by
      unfold start at h2
      by_cases hi : i < vs.length
      · exact hi
      · rw [List.getElem?_append_right (by simpa using hi)] at h2
        rw [List.getElem?_replicate] at h2
        split at h2 <;> cases h2
    have ha : vs[i]? = some v := by
      unfold start at h2
      rw [List.getElem?_append_left (by simpa using hi), List.getElem?_map] at h2
      cases e : vs[i]? with
      | none => rw [e] at h2; cases h2
      | some a => rw [e] at h2; cases h2; rfl
    obtain ⟨u, hu, rv⟩ := r.get ha
    have hp : ps[i]? = some y := by
      rw [← S.pre, List.getElem?_take_of_lt (by omega)]; exact h1
    have ndP : ps.Nodup := by rw [← S.pre]; exact S.nd.sublist (List.take_sublist _ _)
    refine ⟨u, rv, ?_⟩
    rcases S.par y (List.mem_of_getElem? hp) with k | k
    · exact .inl ⟨k, bindL_get ndP hp hu k⟩
    · obtain ⟨c, e⟩ := cell_has (n := s.heap.objs.size + 1) k
      refine .inr ⟨.inl k, c, e, ?_⟩
      have q := x.cell y c e
      rw [bindC_get ndP hp hu (by show scope.names.lookup y ≠ _; rw [k]; decide)] at q
      exact q
  · exact e0.hok.fresh (Nat.le_of_lt (x.above y c (PySem.mem_of_lookup h)))
  · unfold start
    show _ = N.length
    rw [List.length_append, List.length_map, List.length_replicate]
    omega

theorem fn_of {CX : CXT} {P : Program} {w : World} {K : PySem.W.Frag} {mg : Str → Option Value} {base : Heap} {k : Nat} {f : Addr} {name qual : Str} {params : Arguments} {body : List Stmt} {scope : Scope} {dV kV doc pm cdv ct oc : Value} {an od : Option Addr}
    {osl : Array (Option Value)} {N ps : List Str} {sp : Sp} (lk : K.lookup f = some ⟨oc, od, .func (PySem.W.fnOf name qual params body scope dV kV doc pm an cdv ct), osl⟩) (hcd : PySem.W.codeIn K cdv qual = true) (S : FnScope N ps scope)
    (len : ∀ vs H Q E, sp vs H Q E → vs.length = ps.length)
    (hbody : ∀ (A : Around) (outer : List Env) (s : Shared) (H : Hp) (vs : List V) (Q : VK) (E : XK), Room k (A.deeper (envOfC qual scope s.heap.objs.size f cdv)) → sp vs H Q E →
      ∃ t, PSs (cxOf CX P w K mg base N qual scope f cdv A outer s H E) body t ∧ t { nx := fun _ H' => Q .non H', rt := Q } (start N vs) H) :
    FnOk P w K mg base CX (k + 1) f (PySem.W.fnOf name qual params body scope dV kV doc pm an cdv ct) ps sp := by
  refine ⟨len, fun A outer s H args us vs Q E hr e0 hb r hsp => ?_⟩
  have hl := len _ _ _ _ hsp
  have KX : K.In s.heap := e0.mod.kin.keeps fun b o e => (e0.bs b o e).1
  have lim : s.heap.NoLimit := e0.mod.nolimit.keeps fun b o e => (e0.bs b o e).1
  have hkind : ∀ y ∈ ps.zip us, scope.names.lookup y.1 = some .local ∨ (scope.names.lookup y.1 = some .cell ∧ ((cellsFrom (s.heap.objs.size + 1) scope.names []).lookup y.1).isSome = true) := fun ⟨n, v⟩ hy => by
    rcases S.par n (List.of_mem_zip hy).1 with q | q
    · exact .inl q
    · exact .inr ⟨q, PySem.W.cellsFrom_some _ _ _ (.inl q)⟩
  refine codeAny_call_function hr.depth (KX _ _ lk) rfl S.co S.gen rfl (PySem.W.codeRec_of KX hcd) (hb _ _ _ _ ?_)
  refine wpAny_newFunctionEnv_cells S.kind hkind fun env he s1 x => ?_
  subst he
  refine ⟨lim.keeps x.toInCall.keep, codeAny_func ?_⟩
  obtain ⟨t, ht, hq⟩ := hbody A outer s H vs Q E (hr.deeper _) hsp
  have I : Inv (cxOf CX P w K mg base N qual scope f cdv A outer s H E) [] (start N vs) H s1 := inv_start S hr.hd e0 hl r x
  refine wpAny_mono (ht [] s1 (start N vs) H _ I hq) (fun fl s' hs => ?_) fun e s' hs => hs
  have fin : ∀ {σ' : St} {H' : Hp} {v : V} {u : Value}, Inv (cxOf CX P w K mg base N qual scope f cdv A outer s H E) [] σ' H' s' → RelV v u → Q v H' → CE outer P w H s Q u s' :=
    fun {σ' H' v u} J rv q => ⟨v, H', J.os, J.bare, J.base, J.hok, rv, q⟩
  cases fl with
  | ret u =>
    obtain ⟨v, σ', H', J, rv, q⟩ := hs
    exact fin J rv q
  | next =>
    obtain ⟨σ', H', J, q⟩ := hs
    exact fin (v := V.non) (u := Value.none) J rfl q
  | brk =>
    obtain ⟨_, _, _, q⟩ := hs
    exact False.elim q
  | cont =>
    obtain ⟨_, _, _, q⟩ := hs
    exact False.elim q
end L2

namespace L2
open PySem PySem.Spec PyProof.Rows
section
variable {X : Cx} {x : Str} {p pos : Pos} {e : Expr} {es : List Expr} {t : TA} {id T : String} {r : List V → Hp → VK → Prop}

def tCB (r : List V → Hp → VK → Prop) (t : TA) : TE := fun σ H Q => t σ H fun vs H1 => r vs H1 Q
theorem pe_callB (hc : CallR X (.builtin id) r) (hg : Gl X x) (hm : X.mg x = none) (hv : bootBuiltins x = some (.builtin id)) (ha : PA X (e :: es) t) (hn : x ≠ "__name__" := by decide) (hdb : (x == ("__debug__" : Str)) = false := by decide)
    (he : starEach (e :: es) X.env = (false, eval e X.env) :: starEach es X.env := by rfl) (hpl : (backTo pos (starEach es X.env)).any (·.1) = false := by rfl) : PE X (.Call (.Name x p) (e :: es) [] pos) (tCB r t) := by
  intro pins s σ H Q I h
  refine wpAny_Call_Name_kw (ld_blt I hg hm hv ?_ hn hdb)
  exact PyProof.Rows.callWith_builtin1 (thn (ha pos pins s σ H _ I h) fun us s1 ⟨vs, H1, I1, r1, q1⟩ => hc pins s1 σ H1 vs us Q I1 r1 q1) he hpl
theorem pe_callTy (hc : CallR X (.type T) r) (hg : Gl X x) (hm : X.mg x = none) (hv : bootBuiltins x = some (.type T)) (ha : PA X (e :: es) t) (hn : x ≠ "__name__" := by decide) (hdb : (x == ("__debug__" : Str)) = false := by decide)
    (he : starEach (e :: es) X.env = (false, eval e X.env) :: starEach es X.env := by rfl) (hpl : (backTo pos (starEach es X.env)).any (·.1) = false := by rfl) : PE X (.Call (.Name x p) (e :: es) [] pos) (tCB r t) := by
  intro pins s σ H Q I h
  refine wpAny_Call_Name_kw (ld_blt I hg hm hv ?_ hn hdb)
  exact PyProof.Rows.callWith_type1 (thn (ha pos pins s σ H _ I h) fun us s1 ⟨vs, H1, I1, r1, q1⟩ => hc pins s1 σ H1 vs us Q I1 r1 q1) he hpl
end
end L2

namespace HT
open PySem PyProof.Rows

section
open PySem.SeqAt
open PySem.AutoSeq1 (wpAny_loadPart')
open PySem.MeetsSeq PySem.MeetsSeq2 PySem.MeetsSeq3

end

section
variable {prog : Program} {w : World} {A : Around} {E : Value → Shared → Prop} {s : Shared}

theorem cat_tup {t b : Addr} {vs ws : List Value} {Q : Value → Shared → Prop} (ht : IsTup s.heap t vs.toArray) (hb : IsTup s.heap b ws.toArray) (hv : vs ≠ [])
    (h1 : ws = [] → Q (.ref t) s) (h2 : ws ≠ [] → Q (.ref s.heap.objs.size) { s with heap := s.heap.push { cls := .type "tuple", data := .seq (vs ++ ws).toArray } })
    (hsz : vs.length + ws.length ≤ sizeLine) : wpAny (model prog w) A (binaryOp .Add (.ref t) (.ref b)) Q E s := by
  obtain ⟨⟨cls, dd, data, sl⟩, ho, hc, n, hd⟩ := id ht
  obtain ⟨⟨cls2, dd2, data2, sl2⟩, ho2, hc2, n2, hd2⟩ := id hb
  simp only at hc hd hc2 hd2
  subst hc hd hc2 hd2
  have e : vs.toArray ++ ws.toArray = (vs ++ ws).toArray := by simp
  by_cases hw : ws = []
  · exact concat_meets ⟨_, ho, rfl⟩ ⟨_, ho2, rfl⟩ noFill_tuple_add seq_tuple_add PySem.F.slot_tuple_add PySem.F.entry_tuple_add (PySem.F.args_tuple_add_2 _ _)
      (tuple_addW1 t b vs.toArray ws.toArray n n2 dd dd2 sl sl2 (by simpa using hv) (by simp [hw])) ⟨ho, ho2, h1 hw⟩
  · refine concat_meets ⟨_, ho, rfl⟩ ⟨_, ho2, rfl⟩ noFill_tuple_add seq_tuple_add PySem.F.slot_tuple_add PySem.F.entry_tuple_add (PySem.F.args_tuple_add_2 _ _)
      (tuple_addW2 t b vs.toArray ws.toArray n n2 dd dd2 sl sl2 (by simpa using hv) (by simpa using hw) (by rw [List.size_toArray, List.size_toArray]; exact hsz)) ⟨ho, ho2, ?_⟩
    rw [e]
    exact h2 hw

/-! ### t[a:b], not the whole -/
def sIx (n d : Nat) : Option Int → Nat
  | none => d
  | some v => if v < 0 then (v + (n : Int)).toNat else min v.toNat n
end
end HT

namespace L2
open PySem PySem.Spec PyProof.Rows

/-! ### the parts of a slice -/
abbrev TO := St → Hp → (Option Int → Hp → Prop) → Prop
def PO (X : Cx) (e : Option Expr) (t : TO) : Prop :=
  ∀ (pins : List (Addr × Obj)) (s : Shared) (σ : St) (H : Hp) (Q : Option Int → Hp → Prop), Inv X pins σ H s → t σ H Q →
    wpAny (model X.prog X.w) X.A (evalPart e X.env) (fun u s' => ∃ o H', Inv X pins σ H' s' ∧ IsPart u o ∧ Q o H') X.xe s
section
variable {X : Cx} {e : Expr} {te : TE} {lo hi : Option Expr} {tl th : TO} {pos p2 : Pos}

def SlR (X : Cx) (r : V → Option Int → Option Int → Hp → VK → Prop) : Prop :=
  ∀ (pins : List (Addr × Obj)) (s : Shared) (σ : St) (H : Hp) (x : V) (v vl vu : Value) (lo hi : Option Int) (sl : Addr) (Q : VK), Inv X pins σ H s → RelV x v → s.heap.IsSliceOf sl vl vu .none → IsPart vl lo → IsPart vu hi → r x lo hi H Q →
    ∃ T id, typeLookup (.type T) "__getitem__" = pure (some (.builtin id)) ∧ s.TypeIs v T ∧ wpAny (model X.prog X.w) X.A (getItem v (.ref sl)) (EP X pins σ Q) X.xe s
theorem SlR.or {r r' : V → Option Int → Option Int → Hp → VK → Prop} (h : SlR X r) (h' : SlR X r') : SlR X (fun x lo hi H Q => r x lo hi H Q ∨ r' x lo hi H Q) := by
  intro pins s σ H x v vl vu lo hi sl Q I rx hs pl pu q
  rcases q with q | q
  · exact h pins s σ H x v vl vu lo hi sl Q I rx hs pl pu q
  · exact h' pins s σ H x v vl vu lo hi sl Q I rx hs pl pu q
/-! ### t < u, t + u -/
def rCatT (K : PySem.W.Frag) : R2 := fun x y H Q => ∃ a b xs ys, x = .ref a ∧ y = .ref b ∧ SqT K H a xs ∧ SqT K H b ys ∧ xs ≠ [] ∧ xs.length + ys.length ≤ sizeLine ∧
  (ys = [] → Q (.ref a) H) ∧ (ys ≠ [] → ∀ p, H p = none → Q (.ref p) (upd H p (.tup (xs ++ ys))))
theorem Vals.nil_iff {xs : List V} {us : List Value} (r : Vals xs us) : us = [] ↔ xs = [] := by
  cases r with
  | nil => simp
  | cons _ _ => simp
theorem op_catT : OpR X (binaryOp .Add) (rCatT X.K) := by
  intro pins s σ H x y v u Q I rx ry h
  obtain ⟨a, b, xs, ys, rfl, rfl, ha, hb, hx, hz, q1, q2⟩ := h
  cases rx
  cases ry
  obtain ⟨its, r1, p1, _⟩ := I.tuple ha
  obtain ⟨its2, r2, p2, _⟩ := I.tuple hb
  refine HT.cat_tup p1 p2 (fun z => hx (r1.nil_iff.mp z)) (fun z => ⟨.ref a, H, I, rfl, q1 (r2.nil_iff.mp z)⟩) (fun z => ?_) (by rw [← r1.length, ← r2.length]; exact hz)
  refine ⟨.ref s.heap.objs.size, _, I.laid (t' := s.toks) (o := .tup (xs ++ ys)) (fun b ob q => Heap.get?_push_of_some _ q) (Nat.le_refl _) ?_, rfl, q2 (fun w => z (r2.nil_iff.mpr w)) _ (I.hok.fresh (Nat.le_refl _))⟩
  exact ⟨by rw [List.length_append]; exact hz, _, r1.append r2, IsTup.new _ _⟩
end
end L2

namespace L2
open PySem PySem.Spec PyProof.Rows

/-! ### places -/
def ixN (n : Nat) (i : Int) : Option Nat := if 0 ≤ i then (if i < n then some i.toNat else none) else if -(n : Int) ≤ i then some (i + n).toNat else none
def atI {α : Type} (xs : List α) (i : Int) : Option α := (ixN xs.length i).bind fun j => xs[j]?
theorem ixN_seq {n : Nat} {i : Int} {j : Nat} (h : ixN n i = some j) : seqIndex? i n = some j ∧ j < n ∧ -(n : Int) ≤ i ∧ i < n := by
  unfold ixN at h
  by_cases h0 : 0 ≤ i
  · rw [if_pos h0] at h
    by_cases h1 : i < n
    · rw [if_pos h1] at h
      have e : i.toNat = j := Option.some.inj h
      exact ⟨by rw [seqIndex_of h0 h1, e], by omega, by omega, h1⟩
    · rw [if_neg h1] at h; cases h
  · rw [if_neg h0] at h
    by_cases h1 : -(n : Int) ≤ i
    · rw [if_pos h1] at h
      have e : (i + n).toNat = j := Option.some.inj h
      exact ⟨by rw [seqIndex_neg (by omega) h1, e], by omega, h1, by omega⟩
    · rw [if_neg h1] at h; cases h
theorem atI_get {α : Type} {xs : List α} {i : Int} {v : α} (h : atI xs i = some v) : ∃ j, seqIndex? i xs.length = some j ∧ xs[j]? = some v ∧ j < xs.length ∧ -(xs.length : Int) ≤ i ∧ i < xs.length := by
  unfold atI at h
  cases e : ixN xs.length i with
  | none => rw [e] at h; cases h
  | some j =>
    rw [e] at h
    obtain ⟨h1, h2, h3, h4⟩ := ixN_seq e
    exact ⟨j, h1, h, h2, h3, h4⟩
/-! ### what may be subscripted -/
def PlainIx (b : Expr) : Prop := ∀ o i, subscripted b false o i = operate [o, i] (getItem o i)
def IxR (X : Cx) (r : R2) : Prop :=
  ∀ (value slice : Expr) (pins : List (Addr × Obj)) (s : Shared) (σ : St) (H : Hp) (x y : V) (v u : Value) (Q : VK), Inv X pins σ H s → RelV x v → RelV y u → r x y H Q →
    subscripted slice false v u = operate [v, u] (getItem v u) → wpAny (model X.prog X.w) X.A (subscriptTail value slice v u) (EP X pins σ Q) X.xe s
def MtR (X : Cx) (id : String) (r : V → List V → Hp → VK → Prop) : Prop :=
  ∀ (pins : List (Addr × Obj)) (s : Shared) (σ : St) (H : Hp) (x : V) (xs : List V) (v : Value) (us : List Value) (Q : VK), Inv X pins σ H s → RelV x v → Vals xs us → r x xs H Q →
    wpAny (model X.prog X.w) X.A (call (.builtin id) (v :: us)) (EP X pins σ Q) X.xe s
section
variable {X : Cx} {a b : Expr} {ta tb : TE} {pos : Pos}
theorem IxR.or {r r' : R2} (h : IxR X r) (h' : IxR X r') : IxR X (fun x y H Q => r x y H Q ∨ r' x y H Q) := by
  intro value slice pins s σ H x y v u Q I rx ry q hs
  rcases q with q | q
  · exact h value slice pins s σ H x y v u Q I rx ry q hs
  · exact h' value slice pins s σ H x y v u Q I rx ry q hs
theorem MtR.or {id : String} {r r' : V → List V → Hp → VK → Prop} (h : MtR X id r) (h' : MtR X id r') : MtR X id (fun x xs H Q => r x xs H Q ∨ r' x xs H Q) := by
  intro pins s σ H x xs v us Q I rx rs q
  rcases q with q | q
  · exact h pins s σ H x xs v us Q I rx rs q
  · exact h' pins s σ H x xs v us Q I rx rs q
theorem pe_ix {r : R2} (hr : IxR X r) (ha : PE X a ta) (hb : PE X b tb) (hs : PlainIx b) : PE X (.Subscript a b pos) (tOp r ta tb) := by
  intro pins s σ H Q I h
  exact Subscript_ (binT ha hb I h fun v u s2 x y H2 I2 rx ry q => hr a b pins s2 σ H2 x y v u Q I2 rx ry q (hs _ _))

def rIxL (K : PySem.W.Frag) : R2 := fun x y H Q => ∃ p xs i v, x = .ref p ∧ y = .int i ∧ SqL K H p xs ∧ atI xs i = some v ∧ Q v H
def rIxT (K : PySem.W.Frag) : R2 := fun x y H Q => ∃ p xs i v, x = .ref p ∧ y = .int i ∧ SqT K H p xs ∧ atI xs i = some v ∧ Q v H
def rIxS : R2 := fun x y H Q => ∃ z i c, x = .str z ∧ y = .int i ∧ z.length ≤ sizeLine ∧ atI z.cps.toList i = some c ∧ Q (.str ⟨#[c]⟩) H
theorem ix_list : IxR X (rIxL X.K) := by
  intro value slice pins s σ H x y v u Q I rx ry h hs
  obtain ⟨p, xs, i, z, rfl, rfl, hq, he, q⟩ := h
  cases rx
  obtain ⟨t, rfl⟩ := ry
  obtain ⟨its, r, pl, hz⟩ := I.list hq
  obtain ⟨j, h1, h2, h3, h4, h5⟩ := atI_get he
  obtain ⟨w, ew, rw'⟩ := r.get h2
  have hl := r.length
  have hn := line63
  have fin : EP X pins σ Q w s := ⟨z, H, I, rw', q⟩
  by_cases h0 : 0 ≤ i
  · have hj : i.toNat = j := by
      rw [seqIndex_of h0 h5] at h1
      exact Option.some.inj h1
    exact item_listR pl.isList h0 (by omega) (by rw [hj]; simpa using ew) fin hs
  · have hj : (i + (its.toArray.size : Int)).toNat = j := by
      rw [seqIndex_neg (by omega) h4] at h1
      rw [List.size_toArray, ← hl]
      exact Option.some.inj h1
    exact subscriptTail_builtinR (x := w) pl.isList.typeIs slot_list_getitem.lookup
      (wpAny_getItem_list_neg (Q := fun r s' => r = w ∧ EP X pins σ Q r s') pl.isList (by omega) (by rw [List.size_toArray] <;> omega) (by omega) (by rw [hj]; simpa using ew) ⟨rfl, fin⟩) hs
theorem ix_tup : IxR X (rIxT X.K) := by
  intro value slice pins s σ H x y v u Q I rx ry h hs
  obtain ⟨p, xs, i, z, rfl, rfl, hq, he, q⟩ := h
  cases rx
  obtain ⟨t, rfl⟩ := ry
  obtain ⟨its, r, pl, hz⟩ := I.tuple hq
  obtain ⟨j, h1, h2, h3, h4, h5⟩ := atI_get he
  obtain ⟨w, ew, rw'⟩ := r.get h2
  have hl := r.length
  have hn := line63
  have fin : EP X pins σ Q w s := ⟨z, H, I, rw', q⟩
  exact subscriptTail_builtinR (x := w) pl.typeIs slot_tuple_getitem.lookup
    (getItem_tuple (j := j) (Q := fun r s' => r = w ∧ EP X pins σ Q r s') pl (by omega) (by omega) (by rw [List.size_toArray, ← hl]; exact h1) (by simpa using ew) ⟨rfl, fin⟩) hs
theorem ix_str : IxR X rIxS := by
  intro value slice pins s σ H x y v u Q I rx ry h hs
  obtain ⟨z, i, c, rfl, rfl, hz, he, q⟩ := h
  obtain ⟨t, rfl⟩ := rx
  obtain ⟨t', rfl⟩ := ry
  obtain ⟨j, h1, h2, h3, h4, h5⟩ := atI_get he
  have hl : z.cps.toList.length = z.length := by simp [Str.length]
  rw [hl] at h1 h4 h5
  have hn := line63
  exact tail_any (typeIs_str s z t) slot_str_getitem.lookup (getItem_str (c := c) (by
    have e1 : decide (i < -(2 ^ 63 : Int)) = false := decide_eq_false (by omega)
    have e2 : decide (i ≥ 2 ^ 63) = false := decide_eq_false (by omega)
    rw [e1, e2, Bool.or_false]) (by rw [h1]; simpa using h2) ⟨.str ⟨#[c]⟩, H, I.tok _, ⟨_, rfl⟩, q⟩) hs
def rIx (K : PySem.W.Frag) : R2 := fun x y H Q => rIxL K x y H Q ∨ rIxT K x y H Q ∨ rIxS x y H Q
theorem ix_seq : IxR X (rIx X.K) := ix_list.or (ix_tup.or ix_str)

/-! ### xs[i] = v, any sign -/
theorem mapSeq_set (its : List Value) (n j : Nat) (u : Value) : Obj.mapSeq (·.setIfInBounds j u) { cls := .type "list", data := .seq its.toArray n } = { cls := .type "list", data := .seq (its.set j u).toArray n } := by
  simp [Obj.mapSeq]
theorem Inv.lst {pins : List (Addr × Obj)} {σ : St} {H : Hp} {s : Shared} {p : Addr} {xs : List V} (I : Inv X pins σ H s) (h : H p = some (.lst xs)) :
    ∃ (its : List Value) (n : Nat), Vals xs its ∧ s.heap.get? p = some { cls := .type "list", data := .seq its.toArray n } ∧ xs.length ≤ sizeLine := by
  obtain ⟨z, its, n, r, e⟩ := I.hok p _ h
  exact ⟨its, n, r, e, z⟩
theorem Inv.lstUpd {pins : List (Addr × Obj)} {σ : St} {H : Hp} {s : Shared} {p : Addr} {xs ys : List V} {its its' : List Value} {n n' : Nat} {f : Obj → Obj} (I : Inv X pins σ H s) (h : H p = some (.lst xs))
    (ho : s.heap.get? p = some { cls := .type "list", data := .seq its.toArray n }) (hf : f { cls := .type "list", data := .seq its.toArray n } = { cls := .type "list", data := .seq its'.toArray n' }) (r : Vals ys its') (hz : ys.length ≤ sizeLine) (t : Nat) :
    Inv X pins σ (upd H p (.lst ys)) { s with heap := s.heap.update p f, toks := t } := by
  have e : (s.heap.update p f).get? p = some { cls := .type "list", data := .seq its'.toArray n' } := by
    rw [Heap.get?_update_self f ho (by rw [hf] <;> rfl), hf]
  refine I.write (x := p) (e := p) (by rw [h]; trivial) (.inl rfl) (fun b u hb q => (Heap.get?_update_other _ _ (Ne.symm hb)).trans q) ⟨_, e⟩ ?_
  exact ⟨hz, its', n', r, e⟩
def rSetL : V → V → V → Hp → (Hp → Prop) → Prop := fun o i v H Q => ∃ p xs k j, o = .ref p ∧ i = .int k ∧ H p = some (.lst xs) ∧ ixN xs.length k = some j ∧ Q (upd H p (.lst (xs.set j v)))
theorem set_list : PSet X rSetL := by
  intro pins s σ H o i v ov iv u Q I ro ri rv h
  obtain ⟨p, xs, k, j, rfl, rfl, hp, hj, q⟩ := h
  cases ro
  obtain ⟨t, rfl⟩ := ri
  obtain ⟨its, n, r, ho, hz⟩ := I.lst hp
  obtain ⟨h1, h2, h3, h4⟩ := ixN_seq hj
  have hl := r.length
  have hn := line63
  have I' : Inv X pins σ (upd H p (.lst (xs.set j v))) { s with heap := s.heap.update p (Obj.mapSeq (·.setIfInBounds j u)) } :=
    I.lstUpd hp ho (mapSeq_set its n j u) (r.set rv j) (by rw [List.length_set]; exact hz) s.toks
  by_cases h0 : 0 ≤ k
  · have hk : k.toNat = j := by
      rw [seqIndex_of h0 h4] at h1
      exact Option.some.inj h1
    exact PySem.W.ki_setAt ho h0 (by omega) (by rw [List.size_toArray, ← hl]; exact h4) (by rw [hk]; exact ⟨_, I', q⟩)
  · have hk : (k + (its.toArray.size : Int)).toNat = j := by
      rw [seqIndex_neg (by omega) h3] at h1
      rw [List.size_toArray, ← hl]
      exact Option.some.inj h1
    exact PySem.W.ki_setBack ho (by omega) (by rw [List.size_toArray, ← hl]; exact h3) (by omega) (by rw [hk]; exact ⟨_, I', q⟩)

/-! ### slices -/
/-! ### in, not in: flat items -/
/-! ### len, list(x), tuple(x) of any list or tuple that is read -/
theorem CallR.or {f : Value} {r r' : List V → Hp → VK → Prop} (h : CallR X f r) (h' : CallR X f r') : CallR X f (fun xs H Q => r xs H Q ∨ r' xs H Q) := by
  intro pins s σ H xs us Q I rs q
  rcases q with q | q
  · exact h pins s σ H xs us Q I rs q
  · exact h' pins s σ H xs us Q I rs q
theorem call_list_of : CallR X (.type "list") (fun xs H Q => ∃ p ys, xs = [.ref p] ∧ (SqL X.K H p ys ∨ SqT X.K H p ys) ∧ ∀ l, H l = none → Q (.ref l) (upd H l (.lst ys))) := by
  intro pins s σ H xs us Q I r h
  obtain ⟨p, ys, rfl, hq, q⟩ := h
  obtain ⟨u, rfl, rx⟩ := vals1 r
  cases rx
  have fin : ∀ (its : List Value), Vals ys its → ys.length ≤ sizeLine → ∀ (h' : Heap) (c' : Nat), (∀ b o', s.heap.get? b = some o' → h'.get? b = some o') →
      h'.get? s.heap.objs.size = some { cls := .type "list", dict := none, data := .seq its.toArray c', slots := #[] } → EP X pins σ Q (.ref s.heap.objs.size) { s with heap := h' } := fun its r' hz h' c' kp e =>
    ⟨.ref s.heap.objs.size, _, I.laid (t' := s.toks) kp (Nat.le_refl _) (show ObjOk X.prog X.w _ h' _ (.lst ys) from ⟨hz, its, c', r', e⟩), rfl, q _ (I.hok.fresh (Nat.le_refl _))⟩
  rcases hq with hq | hq
  · obtain ⟨its, r', pl, hz⟩ := I.list hq
    have hlen := r'.length
    obtain ⟨o, ho, hc, n, hd⟩ := pl.isList
    exact call_list_seq p (.inl rfl) ho hc hd (fun h' c' kp e => fin its r' hz h' c' kp e) (by simp only [List.size_toArray] <;> omega)
  · obtain ⟨its, r', pl, hz⟩ := I.tuple hq
    have hlen := r'.length
    obtain ⟨o, ho, hc, n, hd⟩ := pl
    exact call_list_seq p (.inr rfl) ho hc hd (fun h' c' kp e => fin its r' hz h' c' kp e) (by simp only [List.size_toArray] <;> omega)
theorem call_tuple_of : CallR X (.type "tuple") (fun xs H Q => ∃ p ys, xs = [.ref p] ∧ ((SqL X.K H p ys ∧ ∀ l, H l = none → Q (.ref l) (upd H l (.tup ys))) ∨ (SqT X.K H p ys ∧ Q (.ref p) H))) := by
  intro pins s σ H xs us Q I r h
  obtain ⟨p, ys, rfl, h⟩ := h
  obtain ⟨u, rfl, rx⟩ := vals1 r
  cases rx
  rcases h with ⟨hq, q⟩ | ⟨hq, q⟩
  · obtain ⟨its, r', pl, hz⟩ := I.list hq
    have hlen := r'.length
    refine call_tuple_list pl.isList (fun h' kp => ?_) (by simp only [List.size_toArray] <;> omega)
    have I1 : Inv X pins σ H { s with heap := h' } := I.kept (t' := s.toks) kp
    have I2 : Inv X pins σ (upd H h'.objs.size (.tup ys)) { s with heap := h'.push { cls := .type "tuple", data := .seq its.toArray } } :=
      I1.laid (t' := s.toks) (fun b o e => Heap.get?_push_of_some _ e) (Nat.le_refl _) (show ObjOk X.prog X.w _ _ _ (.tup ys) from ⟨hz, its, r', IsTup.new _ _⟩)
    exact ⟨.ref h'.objs.size, _, I2, rfl, q _ (I1.hok.fresh (Nat.le_refl _))⟩
  · obtain ⟨its, r', pl, hz⟩ := I.tuple hq
    exact call_tuple_same pl ⟨.ref p, H, I, rfl, q⟩

/-! ### the call of a builtin's method: o.m(..) -/
variable {o e : Expr} {es : List Expr} {to : TE} {t : TA} {name : Str} {apos cpos : Pos} {T id : String} {r : V → List V → Hp → VK → Prop}
/- xs.append(e), list.index on a module's tuple .. are MtR facts of 06m -/
end
end L2

namespace L2
open PySem PySem.Spec PyProof.Rows

def MtM (X : Cx) (id : String) (r : V → List V → Hp → VK → Prop) : Prop :=
  ∀ (pins : List (Addr × Obj)) (s : Shared) (σ : St) (H : Hp) (x : V) (xs : List V) (v : Value) (us : List Value) (Q : VK), Inv X pins σ H s → RelV x v → Vals xs us → r x xs H Q →
    wpAny (model X.prog X.w) X.A (call (.builtin id) (v :: us)) (EP X pins σ Q) X.xe s

/-! ### lists of values -/
theorem Vals.one : ∀ {x : V} {us : List Value}, Vals [x] us → ∃ u, us = [u] ∧ RelV x u
  | _, _, .cons r .nil => ⟨_, rfl, r⟩
theorem Vals.two : ∀ {x y : V} {us : List Value}, Vals [x, y] us → ∃ u v, us = [u, v] ∧ RelV x u ∧ RelV y v
  | _, _, _, .cons r (.cons q .nil) => ⟨_, _, rfl, r, q⟩
theorem Vals.zero : ∀ {us : List Value}, Vals [] us → us = []
  | _, .nil => rfl
theorem Vals.rep {xs : List V} {us : List Value} (h : Vals xs us) : ∀ k : Nat, Vals (List.replicate k xs).flatten (List.replicate k us).flatten
  | 0 => .nil
  | k + 1 => by
    rw [List.replicate_succ, List.replicate_succ, List.flatten_cons, List.flatten_cons]
    exact Vals.append h (Vals.rep h k)
theorem foldl_rep (its : List Value) : ∀ (k : Nat) (acc : List Value),
    List.foldl (fun x1 x2 => x1 ++ x2) acc.toArray (List.replicate k its.toArray) = (acc ++ (List.replicate k its).flatten).toArray
  | 0, acc => by simp
  | k + 1, acc => by
    have e : acc.toArray ++ its.toArray = (acc ++ its).toArray := by simp
    have e2 : (acc ++ its) ++ (List.replicate k its).flatten = acc ++ (List.replicate (k + 1) its).flatten := by
      rw [List.replicate_succ, List.flatten_cons, List.append_assoc]
    rw [← e2, ← foldl_rep its k (acc ++ its), ← e, List.replicate_succ, List.foldl_cons]

section
variable {X : Cx} {pins : List (Addr × Obj)} {σ : St} {H : Hp} {s : Shared} {l b : Addr} {xs ys zs : List V}

/-! ### the two steps: a tracked list is rewritten, a new list is laid -/
theorem Inv.lset {its its' : List Value} {n : Nat} {f : Array Value → Array Value} {t' : Nat} (I : Inv X pins σ H s) (hH : H l = some (.lst xs))
    (e : s.heap.get? l = some { cls := .type "list", data := .seq its.toArray n }) (hf : f its.toArray = its'.toArray) (hv : Vals ys its') (hz : ys.length ≤ sizeLine) :
    Inv X pins σ (upd H l (.lst ys)) { s with heap := s.heap.update l (Obj.mapSeq f), toks := t' } := by
  have q := PySem.IsL.update e f
  rw [hf] at q
  refine I.write (x := l) (e := l) (by rw [hH]; exact trivial) (.inl rfl) (fun b' u hb hu => (Heap.get?_update_other s.heap (Obj.mapSeq f) (Ne.symm hb)).trans hu) ⟨_, q⟩ ?_
  exact ⟨hz, its', _, hv, q⟩
theorem Inv.lnew {its : List Value} {t' : Nat} (I : Inv X pins σ H s) (hv : Vals ys its) (hz : ys.length ≤ sizeLine) :
    Inv X pins σ (upd H s.heap.objs.size (.lst ys)) { s with heap := s.heap.push { cls := .type "list", data := .seq its.toArray }, toks := t' } :=
  I.laid (fun _ _ q => Heap.get?_push_of_some _ q) (Nat.le_refl _) ⟨hz, its, 0, hv, Heap.get?_push_size _ rfl⟩
theorem Inv.fresh (I : Inv X pins σ H s) : H s.heap.objs.size = none := I.hok.fresh (Nat.le_refl _)
theorem Inv.lstM (I : Inv X pins σ H s) (hH : H l = some (.lst xs)) : xs.length ≤ sizeLine ∧ ∃ (its : List Value) (n : Nat), Vals xs its ∧ xs.length = its.length ∧ s.heap.get? l = some { cls := .type "list", data := .seq its.toArray n } := by
  obtain ⟨z, its, n, r, e⟩ := I.hok l _ hH
  exact ⟨z, its, n, r, r.length, e⟩

theorem notLongL {n : Nat} (h : n ≤ sizeLine) : Builtin.List.listTooLong n = false := by
  unfold Builtin.List.listTooLong
  exact decide_eq_false (by omega)
end

section
variable {X : Cx}

/-! ### methods -/
def rAppend : V → List V → Hp → VK → Prop := fun x vs H Q => ∃ l xs y, x = .ref l ∧ vs = [y] ∧ H l = some (.lst xs) ∧ xs.length < sizeLine ∧ Q .non (upd H l (.lst (xs ++ [y])))
theorem mt_append : MtM X "list.append" rAppend := by
  intro pins s σ H x vs v us Q I rx rv h
  obtain ⟨l, xs, y, rfl, rfl, hH, hz, q⟩ := h
  cases rx
  obtain ⟨u, rfl, ru⟩ := rv.one
  obtain ⟨z, its, n, r, hl, e⟩ := I.lstM hH
  refine call_meets F.slot_list_append ⟨_, e, rfl⟩ F.entry_list_append (F.args_list_append_2 _ _) (PySem.list_append l its.toArray n u (by rw [List.size_toArray]; omega)) ⟨e, ?_⟩
  refine ⟨.non, _, I.lset (its' := its ++ [u]) hH e (by simp) (r.append (.cons ru .nil)) ?_, rfl, q⟩
  rw [List.length_append, List.length_singleton]
  omega

/-! ### list + list, list += list, list * int -/
def rCat : R2 := fun x y H Q => ∃ l b xs zs, x = .ref l ∧ y = .ref b ∧ H l = some (.lst xs) ∧ H b = some (.lst zs) ∧ xs.length + zs.length ≤ sizeLine ∧ ∀ p, H p = none → Q (.ref p) (upd H p (.lst (xs ++ zs)))
theorem op_cat : OpR X (binaryOp .Add) rCat := by
  intro pins s σ H x y v u Q I rx ry h
  obtain ⟨l, b, xs, zs, rfl, rfl, hH, hB, hz, q⟩ := h
  cases rx
  cases ry
  obtain ⟨z, its, n, r, hl, e⟩ := I.lstM hH
  obtain ⟨z2, its2, n2, r2, hl2, e2⟩ := I.lstM hB
  refine PySem.P.add_list e e2 ?_ (by rw [List.size_toArray, List.size_toArray]; omega)
  have ea : its.toArray ++ its2.toArray = (its ++ its2).toArray := by simp
  rw [ea]
  exact ⟨.ref _, _, I.lnew (t' := s.toks) (r.append r2) (by rw [List.length_append]; omega), rfl, q _ I.fresh⟩
def rRep : R2 := fun x y H Q => ∃ l k xs, x = .ref l ∧ y = .int k ∧ H l = some (.lst xs) ∧ -(2 ^ 63) ≤ k ∧ k < 2 ^ 63 ∧ xs.length * k.toNat ≤ sizeLine ∧
  ∀ p, H p = none → Q (.ref p) (upd H p (.lst (List.replicate k.toNat xs).flatten))
theorem len_rep {α : Type} (xs : List α) (k : Nat) : (List.replicate k xs).flatten.length = k * xs.length := by
  induction k with
  | zero => simp
  | succ k ih => rw [List.replicate_succ, List.flatten_cons, List.length_append, ih, Nat.succ_mul, Nat.add_comm]
theorem op_rep : OpR X (binaryOp .Mult) rRep := by
  intro pins s σ H x y v u Q I rx ry h
  obtain ⟨l, k, xs, rfl, rfl, hH, h1, h2, hz, q⟩ := h
  cases rx
  obtain ⟨t, rfl⟩ := ry
  obtain ⟨z, its, n, r, hl, e⟩ := I.lstM hH
  have hlen : its.toArray.size * k.toNat ≤ sizeLine := by rw [List.size_toArray, ← hl]; exact hz
  have hcap : ¬ its.toArray.size * k.toNat > (2 ^ 63 - 1) / 8 := by
    have : (sizeLine : Nat) ≤ (2 ^ 63 - 1) / 8 := by decide
    omega
  have hfit : ¬ (!Builtin.List.listFitsIndex k) = true := by
    rw [fitsIndex_both h1 h2]
    exact Bool.false_ne_true
  have hlong : ¬ Builtin.List.listTooLong (its.toArray.size * k.toNat) = true := by
    rw [notLongL hlen]
    exact Bool.false_ne_true
  have hnew : List.foldl (fun x1 x2 => x1 ++ x2) #[] (List.replicate (if its.toArray.isEmpty = true then 0 else k.toNat) its.toArray) = (List.replicate k.toNat its).flatten.toArray := by
    have f0 : ∀ m : Nat, List.foldl (fun x1 x2 => x1 ++ x2) #[] (List.replicate m its.toArray) = (List.replicate m its).flatten.toArray := fun m => by
      have := foldl_rep its m []
      rw [List.nil_append] at this
      exact this
    rw [f0]
    cases its with
    | nil => simp
    | cons a r' => rw [if_neg (by simp)]
  refine wpAny_binaryOp_repeat_ref (T := "list") (U := "int") (by decide) ⟨_, e, rfl⟩ (fun s' => typeIs_int s' k t) noFill_list_mul F.fills_int_mul F.slot_int_rmul repeat_list F.slot_int_index.lookup
    (call_meets F.slot_int_rmul (typeIs_int s k t) F.entry_int_rmul (F.args_int_rmul_2 _ _) (int___rmul___int_list k t l its.toArray n)
      ⟨e, rfl, ⟨_, e, rfl⟩, call_meets F.slot_list_mul ⟨_, e, rfl⟩ F.entry_list_mul (F.args_list_mul_2 _ _) (AutoListH.list___mul___list_int_3 l its.toArray n k t hfit hcap hlong) ⟨e, ?_⟩⟩)
  rw [hnew]
  exact ⟨.ref _, _, I.lnew (t' := s.toks) (r.rep k.toNat) (by rw [len_rep, Nat.mul_comm]; exact hz), rfl, q _ I.fresh⟩

/-! ### del xs[i] -/
end

/-! ### xs[a:b] = ys -/
section
variable {prog : Program} {w : World} {A : Around} {E : Value → Shared → Prop} {s : Shared}
set_option maxRecDepth 100000 in
end

section
variable {X : Cx}
end
end L2

namespace Att
open PySem PySem.W PySem.Calls PyProof.Rows

/-! ### the script -/
theorem ints_of_wellAll {P : Params} {h : Heap} : ∀ (ns : List Int) (vs : List Value), WellAll P h vs (ns.map WData.int) → IntsAre vs ns := by
  intro ns
  induction ns with
  | nil =>
    intro vs w
    rw [List.map_nil] at w
    cases w
    exact .nil
  | cons n ns ih =>
    intro vs w
    rw [List.map_cons] at w
    cases w with
    | cons a b =>
      cases a
      exact .cons _ _ (ih _ b)

theorem script_of {l : OpenLaw} {n : Nat} (hn : l.most = some n) {P : Params} {h : Heap} {args : List WData} {vals : List Value}
    (hpre : l.row.toRowW.claim.pre args = true) (hwl : WellAll P h vals args) :
    ∃ a vs ns, vals = [Value.ref a] ∧ args = [WData.list (ns.map WData.int)] ∧ h.get? a = some { cls := .type "list", data := .seq vs.toArray } ∧ IntsAre vs ns ∧ ns.length ≤ n := by
  have hsh : WShape.hasAll [] args [.list .int] = true := (pre_splitW hpre).1
  have hc : l.pre.holds [] { args := args } = true := (pre_splitW hpre).2
  obtain ⟨d, r, rfl, h1, h2⟩ := hasAllW_cons hsh
  obtain rfl := hasAllW_nil h2
  obtain ⟨xs, rfl, h3⟩ := hasW_list h1
  obtain ⟨ns, rfl⟩ := items_int h3
  have hlen : ns.length ≤ n := by
    unfold OpenLaw.pre at hc
    have h4 : (WTm.not (.lt (.lit (.int (n : Int))) (.len (.arg 0)))).holds [] { args := [.list (ns.map .int)] } = true := by
      have h4 := (holds_andW hc).1
      rw [hn] at h4
      exact h4
    have h5 := condW_of h4 (w_not (w_lt w_lit (w_len_list (w_arg rfl))))
    rw [List.length_map] at h5
    refine Nat.le_of_not_lt fun q => ?_
    have q' : (n : Int) < ((ns.length : Nat) : Int) := by omega
    first
      | (rw [decide_eq_true q'] at h5; exact absurd h5 (by decide))
      | (simp at h5; omega)
  cases hwl with
  | cons w1 w2 =>
    cases w2
    cases w1 with
    | list ho hall => exact ⟨_, _, ns, rfl, rfl, ho, ints_of_wellAll ns _ hall, hlen⟩

theorem post_true (l : OpenLaw) (args : List WData) : l.row.toRowW.claim.post args (.bool true) args = true :=
  postW_of (r := l.row.toRowW) (X := (true == true))
    (show WShape.has [] (.bool true) .bool = true by first | rfl | decide | simp [WShape.has, WShape.arms, WShape.armsAll])
    (show (WTm.eq .res (.lit (.bool true))).value [] { args := args, res := some (.bool true), after := args } = some (.bool (true == true)) from w_eq_bool (w_res rfl) w_lit) rfl

/-! ### the attachment: holds_open's last premise (the goal 'hc' behind k_head) from a wpAny of the law's body -/
theorem attach_call {l : OpenLaw} {n : Nat} {q : Program} {loose : List Str} {XP : (Str → Option Value) → Heap → Prop} {YP : World → Heap → Prop} {d : DefRec}
    (hn : l.most = some n) (hdf : d.params.defaults = [])
    (call : ∀ (w : World) (s₀ s₁ : Shared) (mg mb : Str → Option Value) (fa : Addr) (o : Obj) (pm cd doc : Value) (a : Addr) (vs : List Value) (ns : List Int),
      Ground q loose [] XP w s₀ mg mb s₁.heap → YP w s₁.heap →
      s₁.heap.get? fa = some o → o.data = .func (docDef d.name d.params d.body d.scope pm cd doc) → s₁.heap.CodeRec cd d.name → mg d.name = some (.ref fa) →
      s₁.heap.get? a = some { cls := .type "list", data := .seq vs.toArray } → IntsAre vs ns → ns.length ≤ n → s₁.gens = #[] →
      codeAny (model l.prog w) callerA (.call (.ref fa) ⟨[.ref a], []⟩) (fun r s' => r = .ok (.ret (.bool true)) ∧ OldK s₁.heap s'.heap ∧ s'.os = s₁.os ∧ AllBare s'.gens) s₁) :
    WalkO q loose XP YP l.row.toRowW d [] (fun f vs => PySem.call f vs) := by
  intro w s₀ s₁ mg mb G Y fa o pm cd doc dV kV ho hd hcd hD hmg hg args vals as hpre hlay hrd hwl hlo
  obtain rfl : dV = .none := Dflts.none hD hdf
  obtain rfl : kV = .none := Dflts.noKw hD
  obtain ⟨a, vs, ns, rfl, rfl, hobj, hints, hlen⟩ := script_of hn hpre hwl
  refine enter_call (codeAny_mono (call w s₀ s₁ mg mb fa o pm cd doc a vs ns G Y ho (fd_plain hd) hcd hmg hobj hints hlen hg) fun r s' hq => ?_)
  obtain ⟨rfl, h2, h3, h4⟩ := hq
  exact ⟨.inl ⟨.bool true, .bool true, [], rfl, fun _ => rfl, .bool true, post_true l _, fun _ => ⟨List.Pairwise.nil, fun _ hm => (nomatch hm)⟩⟩, h2, h3, h4⟩

/-! ### rules over ANY heap (no ledger) from facts about the written part K: the library's own take a ledger (News) for what they write -/
section
variable {prog : Program} {w : World} {A : Around} {E : Value → Shared → Prop} {s : Shared} {K : Frag}

/-! the whole heap as the ledger: makes every rule that writes through a ledger a rule over any heap -/
def ledger (h : Heap) (L d : Addr) : List (Addr × Obj) := (List.range h.objs.size).filterMap fun a => if a = L ∨ a = d then none else (h.get? a).map fun o => (a, o)
end
end Att

namespace L2
open PySem PySem.Spec PyProof.Rows

theorem vals_ints : ∀ {vs : List Value} {ns : List Int}, IntsAre vs ns → Vals (ns.map V.int) vs
  | _, _, .nil => .nil
  | _, _, .cons n t h => .cons ⟨t, rfl⟩ (vals_ints h)

def Only (H : Hp) : Prop := ∀ b, H b = none ∨ ∃ o xs, H b = some (.frz o (.lst xs))

theorem law_call {P : Program} {w : World} {K : PySem.W.Frag} {mg mb : Str → Option Value} {CX : CXT} {k : Nat} {fa a : Addr} {fd : FuncData} {x : Str} {sp : Sp} {s₁ : Shared} {vs : List Value} {ns : List Int}
    (KX : K.In s₁.heap) (hns : s₁.heap.Ns mainGlobals mg) (hb : s₁.heap.Ns builtinsNs mb) (hbb : ∀ x : Str, x ≠ "__name__" → mb x = bootBuiltins x) (hlim : s₁.heap.NoLimit) (hg : s₁.gens = #[])
    (ha : s₁.heap.get? a = some { cls := .type "list", data := .seq vs.toArray }) (hi : IntsAre vs ns) (hl : ns.length ≤ sizeLine) (hr : Room k callerA)
    (F : ∀ base : Heap, K.In base → base.Ns mainGlobals mg → FnOk P w K mg base CX k fa fd [x] sp) (hbind : ∀ (s : Shared) (u : Value), BindsTo s fd ⟨[u], []⟩ [(x, u)])
    (hsp : ∀ H : Hp, Only H → SqL K H a (ns.map V.int) → sp [.ref a] H (fun v _ => v = .bl true) fun _ _ _ => False)
    (hCX : ∀ H e s', CX [] H s₁ (fun _ _ _ => False) e s' → False) :
    codeAny (model P w) callerA (.call (.ref fa) ⟨[.ref a], []⟩) (fun r s' => r = .ok (.ret (.bool true)) ∧ OldK s₁.heap s'.heap ∧ s'.os = s₁.os ∧ AllBare s'.gens) s₁ := by
  have rv := vals_ints hi
  have lenV := hi.length
  -- from an abstract heap in which nothing but the script may be tracked
  have core : ∀ H : Hp, Only H → SqL K H a (ns.map V.int) → HOk P w H s₁.heap → (∀ b, H b ≠ none → b = a) → (H a ≠ none → K.lookup a = none) →
      codeAny (model P w) callerA (.call (.ref fa) ⟨[.ref a], []⟩) (fun r s' => r = .ok (.ret (.bool true)) ∧ OldK s₁.heap s'.heap ∧ s'.os = s₁.os ∧ AllBare s'.gens) s₁ := by
    intro H hO hS hok hA hK
    have base_of : ∀ {b : Addr} {o : Obj}, s₁.heap.get? b = some o → H b = none → (hidT s₁.heap H).get? b = some o := fun e n => hidT_get e n
    have noA : ∀ {b : Addr} {o : Obj} {es : Array DictEntry} {ep : Nat}, s₁.heap.get? b = some o → o.data = .dict es ep → H b = none := fun {b o es ep} e d => by
      cases q : H b with
      | none => rfl
      | some u =>
        have e' : b = a := hA b (by rw [q]; simp)
        subst e'
        rw [ha] at e; cases e
        have d' : Data.seq vs.toArray _ = Data.dict es ep := d
        cases d'
    have nsK : ∀ {b : Addr} {m : Str → Option Value}, s₁.heap.Ns b m → (hidT s₁.heap H).Ns b m := fun {b m} ⟨o, es, ep, e, d, r⟩ => ⟨o, es, ep, base_of e (noA e d), d, r⟩
    have hKb : K.In (hidT s₁.heap H) := fun b o e => base_of (KX b o e) (by
      cases q : H b with
      | none => rfl
      | some u =>
        have e' : b = a := hA b (by rw [q]; simp)
        subst e'
        rw [hK (by rw [q]; simp)] at e; cases e)
    have hM : Mod K mg (hidT s₁.heap H) := ⟨hKb, nsK hns, ⟨mb, nsK hb, hbb⟩, let ⟨mc, h1, h2⟩ := hlim; ⟨mc, nsK h1, h2⟩⟩
    have e0 : Env0 P w K mg (hidT s₁.heap H) callerA [] s₁ H := ⟨rfl, hM, fun b o e => of_hidT e, Nat.le_of_eq (hidT_size _ _), trivial, fun b hb => absurd (show b ∈ ([] : List Addr) from hb) (by simp), hok, .of_eq hg⟩
    refine codeAny_mono ((F _ hKb (nsK hns)).run callerA [] s₁ H ⟨[.ref a], []⟩ [.ref a] [.ref a] _ _ hr e0 (hbind s₁ (.ref a)) (.cons rfl .nil) (hsp H hO hS)) fun r s' h => ?_
    cases r with
    | error e => exact (hCX H e s' h).elim
    | ok fl =>
      cases fl with
      | next => exact False.elim h
      | brk => exact False.elim h
      | cont => exact False.elim h
      | ret u =>
        obtain ⟨v, H', os, bare, un, hok', r', q⟩ := h
        have q' : v = .bl true := q
        subst q'
        obtain rfl : u = Value.bool true := r'
        refine ⟨rfl, OldK.of_keep fun b o e => ?_, os, bare⟩
        cases q : H b with
        | none => exact un.keep b o e q (by intro z; exact absurd (show b ∈ ([] : List Addr) from z) (by simp)) (by simp)
        | some u =>
          rcases hO b with z | ⟨ob, xs, z⟩
          · rw [q] at z; cases z
          · have z2 := un.frzs b ob _ z
            obtain ⟨e1, _⟩ := hok b _ z
            obtain ⟨e2, _⟩ := hok' b _ z2
            rw [e] at e1; cases e1
            exact e2
  cases hk : K.lookup a with
  | some o =>
    -- the script is one of the module's own objects
    have e := KX a o hk
    rw [ha] at e
    cases e
    refine core (fun _ => none) (fun _ => .inl rfl) (.inr ⟨_, vs.toArray, _, hk, rfl, rfl, rfl, by rw [List.size_toArray, lenV]; exact hl, by simpa using rv⟩) (fun b u z => by have z' : (none : Option HO) = some u := z; cases z') (fun b z => absurd rfl z) fun z => absurd rfl z
  | none =>
    refine core (fun b => if b = a then some (.frz { cls := .type "list", data := .seq vs.toArray } (.lst (ns.map V.int))) else none) (fun b => ?_) (.inl (.inr ⟨{ cls := .type "list", data := .seq vs.toArray }, if_pos rfl⟩)) (fun b u z => ?_) (fun b z => ?_) fun _ => hk
    · by_cases hb : b = a
      · exact .inr ⟨_, _, if_pos hb⟩
      · exact .inl (if_neg hb)
    · by_cases hb : b = a
      · have z' := (if_pos hb).symm.trans z
        cases z'
        subst hb
        exact ⟨ha, by rw [List.length_map]; exact hl, vs, _, rv, ha⟩
      · have z' := (if_neg hb).symm.trans z
        cases z'
    · by_cases hb : b = a
      · exact hb
      · exact absurd (if_neg hb) z
end L2

namespace L2
open PySem PySem.Spec PyProof.Rows

abbrev KOf {K : PySem.W.Frag} {h : Heap} (_ : K.In h) : PySem.W.Frag := K

theorem walk_of {l : PySem.W.OpenLaw} {n k : Nat} {q : Program} {loose : List Str} {XP : (Str → Option Value) → Heap → Prop} {YP : World → Heap → Prop} {d : DefRec} {K : Params → PySem.W.Frag} {CX : World → CXT} {sp : World → Sp} {x : Str}
    (hn : l.most = some n) (hn2 : n ≤ sizeLine) (hdf : d.params.defaults = []) (hr : Room k callerA)
    (hY : ∀ (w : World) (h : Heap), YP w h → (K w.params).In h)
    (F : ∀ (w : World) (mg : Str → Option Value) (fa : Addr) (h : Heap), (K w.params).In h → h.Ns mainGlobals mg → mg d.name = some (.ref fa) →
      ∃ fd : FuncData, (∀ (s : Shared) (u : Value), BindsTo s fd ⟨[u], []⟩ [(x, u)]) ∧
        ∀ base : Heap, (K w.params).In base → base.Ns mainGlobals mg → FnOk l.prog w (K w.params) mg base (CX w) k fa fd [x] (sp w))
    (hsp : ∀ (w : World) (H : Hp) (a : Addr) (ns : List Int), ns.length ≤ n → Only H → SqL (K w.params) H a (ns.map V.int) → sp w [.ref a] H (fun v _ => v = .bl true) fun _ _ _ => False)
    (hCX : ∀ (w : World) (H : Hp) (s : Shared) (e : Value) (s' : Shared), CX w [] H s (fun _ _ _ => False) e s' → False) :
    PySem.W.WalkO q loose XP YP l.row.toRowW d [] (fun f vs => PySem.call f vs) := by
  refine Att.attach_call hn hdf fun w s₀ s₁ mg mb fa o pm cd doc a vs ns G Y ho hd hcd hmg hobj hints hlen hg => ?_
  have KX := hY w _ Y
  obtain ⟨fd, hb, hF⟩ := F w mg fa _ KX G.T.g hmg
  exact law_call KX G.T.g G.T.b G.T.builtins G.T.nolimit hg hobj hints (Nat.le_trans hlen hn2) hr hF hb (fun H hO hS => hsp w H a ns hlen hO hS) fun H e s' => hCX w H s₁ e s'
end L2

/- THE LAST THEOREM (shape; LID, My.* are yours):
   My.Adr: a structure of the addresses that your layer names (classes, functions); My.Txt K t: a structure (Prop) of the equations over K;
   My.txt_mk : {K} {implicit addresses ..} (e1 : nsIn K mainGlobals "law" = some (some (.ref f))) (e2 : K.lookup f = some ⟨oc, od, .func (fnOf "law" "law" params body scope dV kV doc pm an cdv ct), sl⟩) (e3 : codeIn K cdv "law" = true) .. : ∃ t, My.Txt K t

set_option maxRecDepth 100000 in
set_option maxHeartbeats 0 in
theorem PySem.Challenge.cw_LID_holds : PySem.Challenge.rw_LID.Holds := by
  w_on; o_law; k_head; (case hw => w_witness2)
  k_fill
  refine L2.walk_of (l := PySem.Challenge.rw_LID) (n := 63) (k := 40) (x := "script") (CX := fun w => ..) (sp := fun _ => My.sp_law) rfl (by decide) rfl ⟨rfl, by decide, by decide⟩ (fun w h Y => PySem.W.kIn_of Y) ?F ?S ?C
  case F =>
    intro w mg fa h KX G hmg
    have T : ∃ t, My.Txt (L2.KOf KX) t := by
      dsimp only [L2.KOf]                          -- K must stand as «<heap const> w.params» for k_is
      refine' My.txt_mk ?e1 ?e2 ?e3 ..
      (case e1 => PySem.W.k_is)                    -- in the order: a name -> its address -> its object -> its parts
      (case e2 => PySem.W.k_is)
      ..
    obtain ⟨t, T⟩ := T
    have e0 := hmg.symm.trans (PySem.W.mg_of KX G T.law)
    cases e0                                       -- fa is the law's own address
    exact ⟨_, fun s u => .of_eq rfl, fun base kb nb => My.law_fn T kb nb⟩     -- if «.of_eq rfl» comes too early: refine' ⟨_, ?b, fun base kb nb => My.law_fn T kb nb⟩; exact fun s u => .of_eq rfl
  case S => exact fun w H a ns hl hO hS => ..
  case C => exact ..
(the tactic k_is has no namespace: write k_is) -/

/-! SHORT WORDS over the layer: a def of the text, its body, what a loop and a test want. -/
namespace L2
open PySem PySem.Spec PyProof.Rows

/-! ### the text by places -/
def inClass (s : Stmt) (j : Nat) : Stmt := match s with
  | .ClassDef _ _ _ body _ _ _ _ _ _ _ => body.getD j (.Pass ⟨0, 0, 0, 0⟩)
  | _ => .Pass ⟨0, 0, 0, 0⟩
def defArgs (s : Stmt) : Arguments := match s with
  | .FunctionDef _ a _ _ _ _ _ _ _ _ => a
  | _ => { posonlyargs := [], args := [], vararg := none, kwonlyargs := [], kw_defaults := [], kwarg := none, defaults := [] }
def defBody (s : Stmt) : List Stmt := match s with
  | .FunctionDef _ _ b _ _ _ _ _ _ _ => b
  | _ => []
def defScope (s : Stmt) : Scope := match s with
  | .FunctionDef _ _ _ _ _ _ sc _ _ _ => sc
  | _ => { kind := .function, names := [], isGenerator := false, isCoroutine := false }

/-! ### no exception leaves a def -/
abbrev CX0 : CXT := fun _ _ _ _ _ _ => False
abbrev E0 : XK := fun _ _ _ => False
theorem pass0 {X : Cx} : Passes CX0 X E0 := fun _ _ _ _ _ _ _ h => h.elim

/-! ### a def (or method) of the text as it stands behind the top -/
structure Fun (K : PySem.W.Frag) (x qual : Str) (st : Stmt) (f : Addr) (fd : FuncData) : Prop where
  ex : ∃ (oc : Value) (od : Option Addr) (kV doc pm : Value) (an : Option Addr) (cdv ct : Value) (osl : Array (Option Value)),
    fd = PySem.W.fnOf x qual (defArgs st) (defBody st) (defScope st) .none kV doc pm an cdv ct ∧ K.lookup f = some ⟨oc, od, .func fd, osl⟩ ∧ PySem.W.codeIn K cdv qual = true
  kp : PySem.W.keepIn K (.ref f) = true
section
variable {P : Program} {w : World} {K : PySem.W.Frag} {mg : Str → Option Value} {base : Heap}
theorem Fun.ok {x qual : Str} {st : Stmt} {f : Addr} {fd : FuncData} {N ps : List Str} {k : Nat} {sp : Sp} (F : Fun K x qual st f fd) (S : FnScope N ps (defScope st)) (len : ∀ vs H Q E, sp vs H Q E → vs.length = ps.length)
    (hbody : ∀ (cdv : Value) (A : Around) (outer : List Env) (s : Shared) (H : Hp) (vs : List V) (Q : VK) (E : XK), Room k (A.deeper (envOfC qual (defScope st) s.heap.objs.size f cdv)) → sp vs H Q E →
      ∃ t, PSs (cxOf CX0 P w K mg base N qual (defScope st) f cdv A outer s H E).nox (defBody st) t ∧ t { nx := fun _ H' => Q .non H', rt := Q } (start N vs) H) : FnOk P w K mg base CX0 (k + 1) f fd ps sp := by
  obtain ⟨oc, od, kV, doc, pm, an, cdv, ct, osl, rfl, lk, hcd⟩ := F.ex
  refine fn_of lk hcd S len fun A outer s H vs Q E hr hsp => ?_
  obtain ⟨t, h, q⟩ := hbody cdv A outer s H vs Q E hr hsp
  exact ⟨t, h.nox, q⟩
theorem Fun.binds {x qual : Str} {st : Stmt} {f : Addr} {fd : FuncData} {ps : List Str} (F : Fun K x qual st f fd)
    (h : ∀ (kV doc pm : Value) (an : Option Addr) (cdv ct : Value) (us : List Value), us.length = ps.length → bindArgs (PySem.W.fnOf x qual (defArgs st) (defBody st) (defScope st) .none kV doc pm an cdv ct) ⟨us, []⟩ = pure (ps.zip us)) : Binds K fd ps [] := by
  obtain ⟨oc, od, kV, doc, pm, an, cdv, ct, osl, rfl, lk, hcd⟩ := F.ex
  exact .all (h kV doc pm an cdv ct)
theorem fun_mk {x qual : Str} {st : Stmt} {f : Addr} {oc : Value} {od an : Option Addr} {osl : Array (Option Value)} {kV doc pm cdv ct : Value} (l : K.lookup f = some ⟨oc, od, .func (PySem.W.fnOf x qual (defArgs st) (defBody st) (defScope st) .none kV doc pm an cdv ct), osl⟩)
    (c : PySem.W.codeIn K cdv qual = true) (k : PySem.W.keepIn K (.ref f) = true) : Fun K x qual st f (PySem.W.fnOf x qual (defArgs st) (defBody st) (defScope st) .none kV doc pm an cdv ct) := ⟨⟨oc, od, kV, doc, pm, an, cdv, ct, osl, rfl, l, c⟩, k⟩
end
/-! ### expressions in short: the name that stands in the i-th slot -/
section
variable {X : Cx}
end

/-! ### tests -/
/-! ### heaps -/
def Same (H H' : Hp) : Prop := ∀ b o, H b = some o → H' b = some o
theorem Same.refl (H : Hp) : Same H H := fun _ _ h => h
theorem Same.trans {H H1 H2 : Hp} (a : Same H H1) (b : Same H1 H2) : Same H H2 := fun c o h => b c o (a c o h)
theorem Same.free {H H' : Hp} (e : Same H H') {l : Addr} (h : H' l = Option.none) : H l = Option.none := by
  cases q : H l with
  | none => rfl
  | some o =>
    rw [e l o q] at h
    cases h
theorem Same.seq {K : PySem.W.Frag} {H H' : Hp} {a : Addr} {xs : List V} (e : Same H H') (h : SqL K H a xs) : SqL K H' a xs := by
  rcases h with (h | ⟨o, h⟩) | h
  · exact .inl (.inl (e _ _ h))
  · exact .inl (.inr ⟨o, e _ _ h⟩)
  · exact .inr h

end L2


set_option Elab.async false
set_option linter.all false
set_option maxRecDepth 100000
namespace L2
open PySem PySem.Spec PyProof.Rows
section
variable {X : Cx}
def clsOf : V → Value
  | .ref a => .ref a
  | .ty n => .type n
  | _ => .none
def isC : V → Bool
  | .ref _ => true
  | .ty _ => true
  | _ => false
theorem RelV.cls {c : V} {u : Value} (r : RelV c u) (h : isC c = true) : u = clsOf c := by
  cases c with
  | ref a => exact r
  | ty n => exact r
  | _ => cases h
end
structure TopFn (K : PySem.W.Frag) (mg : Str → Option Value) (x : Str) (st : Stmt) : Prop where
  ex : ∃ f fd, Fun K x x st f fd ∧ mg x = some (.ref f)
structure Def (P : Program) (w : World) (K : PySem.W.Frag) (mg : Str → Option Value) (base : Heap) (k : Nat) (x : Str) (ps : List Str) (sp : Sp) : Prop where
  ex : ∃ f fd, FnOk P w K mg base CX0 k f fd ps sp ∧ mg x = some (.ref f) ∧ PySem.W.keepIn K (.ref f) = true ∧ Binds K fd ps []
section
variable {P : Program} {w : World} {K : PySem.W.Frag} {mg : Str → Option Value} {base : Heap}
theorem topFn_mk {h : Heap} {x : Str} {st : Stmt} {f : Addr} {oc : Value} {od an : Option Addr} {osl : Array (Option Value)} {kV doc pm cdv ct : Value} (X : K.In h) (G : h.Ns mainGlobals mg)
    (a : PySem.W.nsIn K mainGlobals x = some (some (.ref f))) (l : K.lookup f = some ⟨oc, od, .func (PySem.W.fnOf x x (defArgs st) (defBody st) (defScope st) .none kV doc pm an cdv ct), osl⟩)
    (c : PySem.W.codeIn K cdv x = true) (k : PySem.W.keepIn K (.ref f) = true) : TopFn K mg x st := ⟨f, _, fun_mk l c k, PySem.W.mg_of X G a⟩
theorem TopFn.mk_def {x : Str} {st : Stmt} {N ps : List Str} {k : Nat} {sp : Sp} (F : TopFn K mg x st) (S : FnScope N ps (defScope st))
    (hb : ∀ (kV doc pm : Value) (an : Option Addr) (cdv ct : Value) (us : List Value), us.length = ps.length → bindArgs (PySem.W.fnOf x x (defArgs st) (defBody st) (defScope st) .none kV doc pm an cdv ct) ⟨us, []⟩ = pure (ps.zip us))
    (len : ∀ vs H Q E, sp vs H Q E → vs.length = ps.length)
    (hbody : ∀ (f : Addr) (cdv : Value) (A : Around) (outer : List Env) (s : Shared) (H : Hp) (vs : List V) (Q : VK) (E : XK), Room k (A.deeper (envOfC x (defScope st) s.heap.objs.size f cdv)) → sp vs H Q E →
      ∃ t, PSs (cxOf CX0 P w K mg base N x (defScope st) f cdv A outer s H E).nox (defBody st) t ∧ t { nx := fun _ H' => Q .non H', rt := Q } (start N vs) H) : Def P w K mg base (k + 1) x ps sp := by
  obtain ⟨f, fd, F, m⟩ := F.ex
  exact ⟨f, fd, F.ok S len (hbody f), m, F.kp, F.binds hb⟩
end
theorem pe_def {X : Cx} {k : Nat} {x : Str} {ps : List Str} {sp : Sp} {p pos : Pos} {e : Expr} {es : List Expr} {t : TA} (D : Def X.prog X.w X.K X.mg X.base k x ps sp) (hr : Room k X.A) (hg : Gl X x) (ha : PA X (e :: es) t) (hdb : (x == ("__debug__" : Str)) = false := by decide)
    (he : starEach (e :: es) X.env = (false, eval e X.env) :: starEach es X.env := by rfl) (hpl : (backTo pos (starEach es X.env)).any (·.1) = false := by rfl) : PE X (.Call (.Name x p) (e :: es) [] pos) (tCall sp [] E0 t) := by
  obtain ⟨f, fd, F, m, kp, b⟩ := D.ex
  exact pe_call F hr hg m kp b .nil pass0 ha hdb he hpl
end L2


set_option Elab.async false
set_option linter.all false
set_option maxRecDepth 100000
namespace L2
open PySem PySem.Spec PyProof.Rows
/-! ### readings by functions, for simp -/
theorem upd_ne' {H : Hp} {p q : Addr} {o : HO} (h1 : (H q).isSome = true) (h2 : H p = none) : upd H p o q = H q := upd_ne (by intro z; rw [z, h2] at h1; cases h1)
abbrev Ext (H H' : Hp) : Prop := ∀ b, (H b).isSome = true → H' b = H b
theorem Ext.refl (H : Hp) : Ext H H := fun _ _ => rfl
theorem Ext.upd {H : Hp} {p : Addr} (o : HO) (h : H p = none) : Ext H (upd H p o) := fun _ hb => upd_ne' hb h
theorem Ext.trans {H H1 H2 : Hp} (a : Ext H H1) (b : Ext H1 H2) : Ext H H2 := fun c hc => by
  have e := a c hc
  rw [b c (by rw [e]; exact hc), e]

section
variable {X : Cx} {a b : Expr} {ta tb : TE} {pos : Pos}
end
/-! ### isinstance, by functions -/
structure InsOk (K : PySem.W.Frag) (C : Addr) : Prop where
  cl : Cls K C
  ha : PySem.W.findIn K (.ref C) "__class__" = some (some (.builtin "object.__class__"))
  hn : PySem.W.specialIn K (.builtin "object.__class__") "__get__" = some (some (.builtin "getset_descriptor.__get__"))
  htk : PySem.W.takesIn K (.builtin "object.__class__") = some true
  hm : PySem.W.mroIn K C (.type "object") = some true
/-! ### range, max, min, int by matching -/
def rMax2 : List V → Hp → VK → Prop := fun xs H Q => match xs with
  | [.int i, .int j] => Q (.int (if j > i then j else i)) H
  | _ => False
def rMin2 : List V → Hp → VK → Prop := fun xs H Q => match xs with
  | [.int i, .int j] => Q (.int (if j < i then j else i)) H
  | _ => False
theorem call_max2F {X : Cx} (hc : X.calm = true) : CallR X (.builtin "max") rMax2 := by
  intro pins s σ H xs us Q I r h
  match xs, h with
  | [.int i, .int j], h => exact call_max2 hc pins s σ H _ us Q I r ⟨i, j, rfl, h⟩
theorem call_min2F {X : Cx} (hc : X.calm = true) : CallR X (.builtin "min") rMin2 := by
  intro pins s σ H xs us Q I r h
  match xs, h with
  | [.int i, .int j], h => exact call_min2 hc pins s σ H _ us Q I r ⟨i, j, rfl, h⟩
/-! ### truth -/
/-! ### the script: tracked, or an object of the module -/
def Scr (K : PySem.W.Frag) (H : Hp) (x : V) (ns : List Int) : Prop := ∃ a, x = .ref a ∧ SqL K H a (ns.map V.int)
theorem Scr.ext {K : PySem.W.Frag} {H H' : Hp} {x : V} {ns : List Int} (h : Scr K H x ns) (e : Ext H H') : Scr K H' x ns := by
  obtain ⟨a, rfl, h⟩ := h
  refine ⟨a, rfl, ?_⟩
  rcases h with (h | ⟨o, h⟩) | h
  · exact .inl (.inl (by rw [e a (by rw [h]; rfl), h]))
  · exact .inl (.inr ⟨o, by rw [e a (by rw [h]; rfl), h]⟩)
  · exact .inr h
theorem Scr.upd {K : PySem.W.Frag} {H : Hp} {x : V} {ns : List Int} {p : Addr} {o : HO} (hp : H p = none) (h : Scr K H x ns) : Scr K (upd H p o) x ns := h.ext (Ext.upd o hp)
section
variable {X : Cx}
end
/-! ### a cell of the script -/
def mixV (c k : Int) : Int :=
  ((c % 2147483647 * (c % 2147483647) % 2147483629) * (c % 2147483647 * (c % 2147483647) % 2147483629) + 69621 * (c % 2147483647 * (c % 2147483647) % 2147483629) + k) % 2147483587
def cellV (ns : List Int) (k : Int) : Int :=
  mixV (if ns = [] then 7919 * k + 11 else ns.getD (k % ns.length).toNat 0 * 48271 + 104729 * k + k / ns.length * 7919) k
def sp_law (K : PySem.W.Frag) : Sp := fun vs H Q _ => match vs with
  | [x] => ∃ ns, Scr K H x ns ∧ ns.length ≤ 63 ∧ ∀ H', Q (.bl true) H'
  | _ => False
/-! ### equations for simp -/
/-! ### loops -/
structure Is {α : Type} (a b : α) : Prop where
  eq : a = b
theorem room64 {A : Around} {k : Nat} (h : Room k A) : A.units + 64 < cLine := h.units
end L2


set_option Elab.async false
set_option linter.all false
set_option maxRecDepth 100000
set_option maxHeartbeats 4000000
namespace L2
open PySem PySem.Spec PyProof.Rows PySem.W
/-! ### own exceptions, under ValueError -/
def excBM : List Value := [.type "ValueError", .type "Exception", .type "BaseException", .type "object"]
def excCls (K : Frag) (C : Addr) : Bool := match K.lookup C with
  | some ⟨.type "type", _, .cls cd, sl⟩ => (match cd.mro, sl.toList with
    | .ref C' :: bm, [_, _, _, _, some (.builtin n), _] => C' == C && n == "ValueError.__new__" && !cd.hasDel && cd.hasDict && tailIn K excBM bm && nsOkIn K cd.ns
    | _, _ => false)
  | _ => false
theorem exc_obj {K : Frag} {h : Heap} {C : Addr} (X : K.In h) (q : excCls K C = true) : ∃ bm N nm qn bs sn sub ab col dd k0 k1 k2 k3 k5,
    h.get? C = some (excClassObj nm qn C N bs bm true sn sub ab col dd k0 k1 k2 k3 k5 "ValueError.__new__") ∧ OwnTail h excBM bm ∧ clsIn K C = some { name := nm, bases := bs, mro := .ref C :: bm, ns := N, qualname := qn, hasDict := true, slotNames := sn, subclasses := sub, abstract := ab, collection := col, hasDel := false } := by
  unfold excCls at q
  split at q
  · rename_i dd cd sl ho
    split at q
    · rename_i C' bm k0 k1 k2 k3 n k5 hm hs
      simp only [Bool.and_eq_true, beq_iff_eq, Bool.not_eq_true'] at q
      obtain ⟨⟨⟨⟨⟨rfl, rfl⟩, hdel⟩, hhd⟩, ht⟩, hok⟩ := q
      obtain ⟨nm, bs, mro, ns, qn, hd, sn, sub, ab, col, del⟩ := cd
      dsimp only at hm hdel hok hhd
      subst hm hdel hhd
      have hsl : sl = #[k0, k1, k2, k3, some (.builtin "ValueError.__new__"), k5] := by
        obtain ⟨l⟩ := sl
        simp only at hs
        rw [hs]
      subst hsl
      exact ⟨bm, ns, nm, qn, bs, sn, sub, ab, col, dd, k0, k1, k2, k3, k5, X _ _ ho, tail_of_in X ht, by unfold clsIn; rw [ho]⟩
    · cases q
  · cases q
abbrev tupObj (vs : List Value) : Obj := { cls := .type "tuple", data := .seq vs.toArray }
abbrev excObj (C t : Addr) : Obj := { cls := .ref C, data := .fields #[.ref t, .none, .none, .none, .bool false, .none] }
section
variable {prog : Program} {w : World} {A : Around} {R : Result → Shared → Prop} {h : Heap} {g : Array GenState} {d : Drawn} {t : Nat} {os : OsState} {K : Frag} {C : Addr}
end
structure ExcAt (K : Frag) (C : Addr) : Prop where
  cl : excCls K C = true
  sa : findIn K (.ref C) "__setattr__" = some (some (.builtin "object.__setattr__"))
  ga : findIn K (.ref C) "__getattribute__" = some (some (.builtin "BaseException.__getattribute__"))
  gt : findIn K (.ref C) "__getattr__" = some none
section
variable {prog : Program} {w : World} {A : Around} {R : Result → Shared → Prop} {K : Frag} {C x : Addr} {s : Shared}
theorem exc_mro {h : Heap} {M : Model} (X : K.In h) (q : excCls K C = true) {b : Value} {T : String} (e : b = .type T) (hb : excBM.contains (.type T) = true) : Looks M h (isSubtype (.ref C) b) true := by
  obtain ⟨bm, N, nm, qn, bs, sn, sub, ab, col, dd, k0, k1, k2, k3, k5, hC, T', hcl⟩ := exc_obj X q
  subst e
  refine looks_mroIn X ?_
  unfold mroIn
  rw [hcl, Option.bind_some]
  show (if (Value.ref C :: bm).isEmpty = true then none else some ((Value.ref C :: bm).contains (.type T))) = some true
  rw [if_neg (by simp), List.contains_cons, T'.hasType hb, Bool.or_true]
end
section
variable {X : Cx} {pins : List (Addr × Obj)} {σ : St} {H : Hp} {s : Shared} {a C : Addr} {dx : Option Addr} {fs : List (Str × V)} {f : Str} {v : V} {A : Around} {E : Value → Shared → Prop}
theorem exc_get (I : Inv X pins σ H s) (e : H a = some (.exc C dx fs)) : ∃ o vs, s.heap.get? a = some o ∧ o.cls = .ref C ∧ o.dict = dx ∧ o.data = .fields vs ∧ fs.length ≤ 1000 ∧ (∀ d, dx = some d → H d = some (.own a) ∧ d ≠ a) ∧
    ∃ mA, NsO s.heap dx mA ∧ (∀ f, RelO (fs.lookup f) (mA f)) ∧ PySem.Within mA (fs.map (·.1)) :=
  (show ObjOk X.prog X.w H s.heap a (.exc C dx fs) from I.hok a _ e)
theorem exc_look (I : Inv X pins σ H s) (e : H a = some (.exc C dx fs)) : ∃ ox od, InstAt s.heap a ox C od ∧ ox.dict = dx ∧ (∃ vs, ox.data = .fields vs) ∧ (∀ name, RelO (fs.lookup name) ((match od with | some o => lookIn name o | none => some none).getD none)) ∧ (∀ name, (match od with | some o => lookIn name o | none => some none).isSome = true) ∧ s.heap.get? a = some ox := by
  obtain ⟨o, vs, ho, hc, hd, hv, hl, hw, mA, hm, r, wi⟩ := exc_get I e
  cases dx with
  | none =>
    refine ⟨o, none, ⟨ho, hc, by unfold notCls; rw [hv], by rw [hd]; exact True.intro⟩, hd, ⟨vs, hv⟩, fun name => ?_, fun _ => rfl, ho⟩
    have := r name
    rw [hm name] at this
    exact this
  | some d =>
    obtain ⟨od, hod, hlk⟩ := lookIn_ns hm
    refine ⟨o, some od, ⟨ho, hc, by unfold notCls; rw [hv], by rw [hd]; exact hod⟩, hd, ⟨vs, hv⟩, fun name => ?_, fun name => ?_, ho⟩
    · show RelO (fs.lookup name) ((lookIn name od).getD none)
      rw [hlk name]; exact r name
    · show (lookIn name od).isSome = true
      rw [hlk name]; rfl
end
structure ExcIs (K : Frag) (C : Addr) : Prop extends ExcAt K C where
  ha : findIn K (.ref C) "__class__" = some (some (.builtin "object.__class__"))
  hn : specialIn K (.builtin "object.__class__") "__get__" = some (some (.builtin "getset_descriptor.__get__"))
  htk : takesIn K (.builtin "object.__class__") = some true
theorem exc_class {K : Frag} {C a : Addr} {ox : Obj} {od : Option Obj} {prog : Program} {w : World} {A : Around} {E : Value → Shared → Prop} {Q : Option Value → Shared → Prop} {s : Shared} (c : ExcIs K C) (KX : K.In s.heap) (J : InstAt s.heap a ox C od) (h : Q (some (.ref C)) { s with toks := s.toks + 1 }) :
    wpAny (model prog w) A (getAttr? (.ref a) "__class__") Q E s := by
  have Lt : Looks (model prog w) s.heap (typeOf (.ref a)) (.ref C) := J.type
  have Lf := looks_findIn (M := model prog w) KX c.ha
  have Lga := looks_findIn (M := model prog w) KX c.ga
  have Lgt := looks_findIn (M := model prog w) KX c.gt
  have Lg := looks_specialIn (M := model prog w) KX c.hn
  have Ltk := looks_takesIn (M := model prog w) KX c.htk
  have hm : mroIn K C (.type "object") = some true := by
    obtain ⟨bm, N, nm, qn, bs, sn, sub, ab, col, dd, k0, k1, k2, k3, k5, hC, T', hcl⟩ := exc_obj KX c.cl
    unfold mroIn
    rw [hcl, Option.bind_some]
    show (if (Value.ref C :: bm).isEmpty = true then none else some ((Value.ref C :: bm).contains (.type "object"))) = some true
    rw [if_neg (by simp), List.contains_cons, T'.hasType (show excBM.contains (.type "object") = true by decide), Bool.or_true]
  obtain ⟨hp, g, d, tk, os⟩ := s
  dsimp only at *
  have FB := PySem.F.attrBase_ValueError
  have f3 := FB.ga.bind (.ref a)
  have hx2 : (Value.builtin "BaseException.__getattribute__" == Value.builtin "object.__getattribute__") = false := by decide +kernel
  have hx1 : (onTheHeap (Value.ref C) && Value.builtin "BaseException.__getattribute__" == Value.builtin "object.__getattribute__") = false := by rw [hx2]; rfl
  unfold getAttr? getAttrBy?
  repeat (any_goals (first | assumption | with_reducible refine Lt.at ?_ | with_reducible refine Lga.at ?_ | with_reducible refine Lgt.at ?_ | wp_step))
  have sub : Looks (model prog w) hp (isInstance (.ref a) (.type "BaseException")) true := Lt.andThen (exc_mro KX c.cl rfl (by decide))
  refine codeAny_call_builtin FB.ga.plain PySem.F.entry_bexc_ga (@check_slot (model prog w) _ _ ⟨hp, g, d, tk + 1, os⟩ "BaseException.__getattribute__" "BaseException" "__getattribute__" (.ref a) [.str "__class__" tk] [] _ (by decide +kernel) (by decide +kernel) sub (PySem.F.args_bexc_ga _ _) ?_)
  show wpAny _ _ (Builtin.«object.__getattribute__» ⟨[.ref a, .str "__class__" tk], []⟩) _ _ _
  unfold Builtin.«object.__getattribute__» Builtin.ObjectAttr.find
  repeat (any_goals (first | assumption | with_reducible refine Lt.at ?_ | with_reducible refine Lf.at ?_ | with_reducible refine Lg.at ?_ | with_reducible refine Ltk.at ?_ | wp_step))
  refine class_get (s := ⟨hp, g, d, tk + 1, os⟩) KX J hm ?_
  repeat (any_goals (first | assumption | wp_step))
section
variable {X : Cx} {pins : List (Addr × Obj)} {σ : St} {H : Hp} {s : Shared} {a C : Addr} {dx : Option Addr} {fs : List (Str × V)} {f : Str} {v : V} {A : Around} {E : Value → Shared → Prop}
structure Exc0 (K : Frag) (mg : Str → Option Value) (x : Str) (C : Addr) : Prop where
  at_ : mg x = some (.ref C)
  ex : excIn K C excBM "ValueError.__new__" = true
  kp : keepIn K (.ref C) = true
structure Exc1 (K : Frag) (mg : Str → Option Value) (x : Str) (C f : Addr) : Prop where
  at_ : mg x = some (.ref C)
  ex : excCls K C = true
  kp : keepIn K (.ref C) = true
  init : findIn K (.ref C) "__init__" = some (some (.ref f))
  fn : isFn K (.ref f) = true
end
end L2


set_option Elab.async false
set_option linter.all false
set_option maxRecDepth 100000
set_option maxHeartbeats 4000000
namespace L2
open PySem PySem.Spec PyProof.Rows
/-! ### list comprehensions -/
abbrev capL (X : Cx) (cs : List Str) : List (Str × Addr) := cs.map fun y => (y, (X.env.cells.lookup y).getD 0)
structure Cap (X : Cx) (scope : Scope) (cs : List Str) : Prop where
  clos : closureFor scope X.env = pure (capL X cs)
  some_ : ∀ y ∈ cs, (X.env.cells.lookup y).isSome = true
  kc : ∀ y ∈ cs, X.env.scope.names.lookup y = some .cell ∧ (relabel scope X.env).names.lookup y = some .cell
  kind : scope.kind = .function
  nocell : ∀ y ∈ scope.names, y.2 ≠ .cell
  names : ∀ y ∈ scope.names, y.2 = .local → scope.names.lookup y.1 = some .local
  has : ∀ y ∈ (relabel scope X.env).names, y.2 = .cell ∨ y.2 = .free → y.1 ∈ cs
theorem cap_mk {X : Cx} {scope : Scope} (cs : List Str) (h1 : closureFor scope X.env = pure (capL X cs)) (h2 : cs.all (fun y => (X.env.cells.lookup y).isSome) = true)
    (h3 : cs.all (fun y => X.env.scope.names.lookup y == some .cell && (relabel scope X.env).names.lookup y == some .cell) = true) (h4 : scope.kind = .function) (h5 : ∀ y ∈ scope.names, y.2 ≠ .cell)
    (h6 : ∀ y ∈ scope.names, y.2 = .local → scope.names.lookup y.1 = some .local) (h7 : (relabel scope X.env).names.all (fun y => (y.2 != .cell && y.2 != .free) || cs.contains y.1) = true) : Cap X scope cs where
  clos := h1
  some_ := fun y hy => List.all_eq_true.mp h2 y hy
  kc := fun y hy => by
    have := List.all_eq_true.mp h3 y hy
    simp only [Bool.and_eq_true, beq_iff_eq] at this
    exact this
  kind := h4
  nocell := h5
  names := h6
  has := fun y hy hk => by
    have := List.all_eq_true.mp h7 y hy
    simp only [Bool.or_eq_true, Bool.and_eq_true, bne_iff_ne, List.contains_iff_mem] at this
    rcases this with ⟨n1, n2⟩ | h
    · rcases hk with k | k
      · exact absurd k n1
      · exact absurd k n2
    · exact h
theorem lookup_mem {β : Type} : ∀ {l : List (Str × β)} {y : Str} {k : β}, l.lookup y = some k → (y, k) ∈ l
  | [], _, _, h => by cases h
  | (z, b) :: r, y, k, h => by
    rw [List.lookup_cons] at h
    split at h
    · rename_i e
      cases h
      rw [beq_iff_eq.mp e]
      exact List.mem_cons_self
    · exact List.mem_cons_of_mem _ (lookup_mem h)
theorem cap_look {X : Cx} : ∀ {cs : List Str} {y : Str}, y ∈ cs → (capL X cs).lookup y = some ((X.env.cells.lookup y).getD 0)
  | z :: r, y, h => by
    show List.lookup y ((z, (X.env.cells.lookup z).getD 0) :: capL X r) = _
    rw [List.lookup_cons]
    split
    · rename_i e
      rw [beq_iff_eq.mp e]
    · rename_i e
      rcases List.mem_cons.mp h with q | q
      · subst q
        simp at e
      · exact cap_look q
section
variable {X : Cx} {scope : Scope} {cs : List Str} {pins : List (Addr × Obj)} {σ : St} {H : Hp} {s : Shared} {fp : List Addr}
theorem Cap.sub (c : Cap X scope cs) {y : Str} {a : Addr} (h : (capL X cs).lookup y = some a) : X.env.cells.lookup y = some a ∧ y ∈ cs := by
  have m := lookup_mem h
  obtain ⟨z, hz, e⟩ := List.mem_map.mp m
  injection e with e1 e2
  subst e1
  refine ⟨?_, hz⟩
  have := c.some_ z hz
  cases q : X.env.cells.lookup z with
  | none => rw [q] at this; cases this
  | some b => rw [q] at e2; rw [← e2]; rfl
def cxComp (X : Cx) (scope : Scope) (cs N' : List Str) (s₀ : Shared) (H₀ : Hp) (ex : List Addr) : Cx where
  prog := X.prog
  w := X.w
  K := X.K
  mg := X.mg
  base := X.base
  A := X.A
  N := N'
  s₀ := s₀
  H₀ := H₀
  env := compEnvC scope (capL X cs) s₀.heap.objs.size X.env
  outer := X.stack
  stack := X.stack
  ex := ex
  fn := fun _ => false
  calm := X.calm
  pn := []
  xe := fun _ _ => False
theorem comp_ok (c : Cap X scope cs) (I : Inv X pins σ H s) (hf : ∀ b ∈ fp, FpOk X pins H b) (ho : ∀ b ∈ fp, ∃ o, s.heap.get? b = some o) (N' : List Str) : (cxComp X scope cs N' s H fp).Ok where
  mod := I.ok.mod
  kind := c.kind
  glob := I.ok.glob
  blt := I.ok.blt
  above := Nat.le_refl _
  inj := fun x y a h1 h2 => I.ok.inj x y a (c.sub h1).1 (c.sub h2).1
  has := fun x h => by
    have m : x ∈ cs := by
      rcases h with h | h
      · exact c.has _ (lookup_mem h) (.inl rfl)
      · exact c.has _ (lookup_mem h) (.inr rfl)
    exact ⟨_, cap_look m⟩
  cab := fun _ _ h => nomatch h
  hd := I.ok.hd
  frames := I.ok.frames
  stk := .inl rfl
  exf := fun b hb => by
    obtain ⟨o, e⟩ := ho b hb
    exact ⟨Nat.ne_of_lt (Heap.lt_size e), fun x a h => (hf b hb).2.2.2.2.1 x a (c.sub h).1⟩
  bs := fun b o e => I.bs b o e
  bsz := Nat.le_trans I.ok.bsz I.sz
  noex := fun b o e hb => by
    rcases (hf b hb).2.2.2.1 with z | z
    · exact I.ok.noex b o e z
    · exact absurd (Nat.lt_of_lt_of_le (Nat.lt_of_lt_of_le (Heap.lt_size e) I.ok.bsz) z) (Nat.lt_irrefl _)
  exfs := fun b hb hs => by
    rcases List.mem_cons.mp (I.stkSub b hs) with z | z
    · exact (hf b hb).2.1 z
    · exact (hf b hb).2.2.1 z
  funs := I.stack
  frf := I.stkFree
def capS (js : List Nat) (σ : St) : St := none :: js.map fun j => (σ[j]?).getD none
theorem comp_end {N' : List Str} {σ' : St} {H' : Hp} {s' : Shared} {h' : Heap} {pl : List (Addr × Obj)} (c : Cap X scope cs) (I : Inv X pins σ H s) (hf : ∀ b ∈ fp, FpOk X pins H b) (J : Inv (cxComp X scope cs N' s H fp) pl σ' H' s') (hs : Heap.SameBut s.heap.objs.size s'.heap h') :
    Inv X pins σ H' { s' with heap := h' } := by
  have hL : H' s.heap.objs.size = none := J.free
  have u := J.base
  have ne : ∀ b o, s.heap.get? b = some o → b ≠ s.heap.objs.size := fun b o e => Nat.ne_of_lt (Heap.lt_size e)
  have neT : ∀ b o, H' b = some o → b ≠ s.heap.objs.size := fun b o e z => by rw [z, hL] at e; cases e
  refine Inv.call' (s' := { s' with heap := h' }) (ch := fp) I J.os ?_ ?_ J.bare fun b hb => ⟨(hf b hb).2.2.2.1, (hf b hb).2.1, (hf b hb).2.2.2.2.1, (hf b hb).2.2.2.2.2⟩
  · exact ⟨fun b o q n hb hx => (hs.2 b (ne b o q)).trans (u.keep b o q n hb hx), fun b o q n hb hx => by
      obtain ⟨sl, e⟩ := u.slot b o q n hb hx
      exact ⟨sl, (hs.2 b (ne b o q)).trans e⟩, u.free, fun b o q hx => by
      obtain ⟨o', e⟩ := u.there b o q hx
      exact ⟨o', (hs.2 b (ne b o q)).trans e⟩, u.tups, u.frzs, u.tbls⟩
  · intro a o e
    exact (J.hok a o e).stay (fun b v hb q => (hs.2 b (by
      rcases hb with rfl | hb
      · exact neT _ _ e
      · exact neT _ _ hb)).trans q) (fun _ q => q) fun _ _ q => q
end
/-! ### a comprehension over a range whose element makes nothing -/
/-! ### deep equality of data -/
section
variable {X : Cx} {pins : List (Addr × Obj)} {σ : St} {H : Hp} {s : Shared}
end
end L2


set_option Elab.async false
set_option linter.all false
set_option maxRecDepth 100000
set_option maxHeartbeats 4000000
namespace L2
open PySem PySem.Spec PyProof.Rows PySem.W
/-! ### what is known of the heap, as a list -/
def Kn (H : Hp) (L : List (Addr × HO)) : Prop := ∀ p ∈ L, H p.1 = some p.2
theorem Kn.at_ {H : Hp} {L : List (Addr × HO)} (h : Kn H L) (i : Nat) {a : Addr} {o : HO} (e : L[i]? = some (a, o)) : H a = some o := h (a, o) (List.mem_of_getElem? e)
theorem Kn.ext {H H' : Hp} {L : List (Addr × HO)} (h : Kn H L) (e : Ext H H') : Kn H' L := fun p hp => by
  rw [e p.1 (by rw [h p hp]; rfl)]
  exact h p hp
theorem Kn.new {H : Hp} {L : List (Addr × HO)} {a : Addr} {o : HO} (h : Kn H L) (e : H a = none) : Kn (upd H a o) ((a, o) :: L) := fun p hp => by
  rcases List.mem_cons.mp hp with rfl | hp
  · exact upd_same
  · rw [upd_ne (ne_of_none (h p hp) e)]
    exact h p hp
theorem Kn.nil (H : Hp) : Kn H [] := fun _ h => by cases h
section
variable {H H1 : Hp} {L : List (Addr × HO)} {σ : St} {i : Nat} {v : V} {C : Addr} {Q : VK}
end
/-! ### methods of the text's classes -/
structure MethFn (K : Frag) (C : Addr) (m qual : Str) (st : Stmt) : Prop where
  ex : ∃ f fd, Fun K m qual st f fd ∧ findIn K (.ref C) m = some (some (.ref f)) ∧ isFn K (.ref f) = true
structure MDef (P : Program) (w : World) (K : Frag) (mg : Str → Option Value) (base : Heap) (k : Nat) (C : Addr) (m : Str) (ps : List Str) (sp : Sp) : Prop where
  ex : ∃ f fd, FnOk P w K mg base CX0 k f fd ps sp ∧ findIn K (.ref C) m = some (some (.ref f)) ∧ isFn K (.ref f) = true ∧ keepIn K (.ref f) = true ∧ Binds K fd ps []
theorem MethFn.mk_def {P : Program} {w : World} {K : Frag} {mg : Str → Option Value} {base : Heap} {C : Addr} {m qual : Str} {st : Stmt} {N ps : List Str} {k : Nat} {sp : Sp} (F : MethFn K C m qual st) (S : FnScope N ps (defScope st))
    (hb : ∀ (kV doc pm : Value) (an : Option Addr) (cdv ct : Value) (us : List Value), us.length = ps.length → bindArgs (PySem.W.fnOf m qual (defArgs st) (defBody st) (defScope st) .none kV doc pm an cdv ct) ⟨us, []⟩ = pure (ps.zip us))
    (len : ∀ vs H Q E, sp vs H Q E → vs.length = ps.length)
    (hbody : ∀ (f : Addr) (cdv : Value) (A : Around) (outer : List Env) (s : Shared) (H : Hp) (vs : List V) (Q : VK) (E : XK), Room k (A.deeper (envOfC qual (defScope st) s.heap.objs.size f cdv)) → sp vs H Q E →
      ∃ t, PSs (cxOf CX0 P w K mg base N qual (defScope st) f cdv A outer s H E).nox (defBody st) t ∧ t { nx := fun _ H' => Q .non H', rt := Q } (start N vs) H) : MDef P w K mg base (k + 1) C m ps sp := by
  obtain ⟨f, fd, F, a, n⟩ := F.ex
  exact ⟨f, fd, F.ok S len (hbody f), a, n, F.kp, F.binds hb⟩
structure ExcC (K : Frag) (mg : Str → Option Value) (x : Str) (C : Addr) : Prop where
  at_ : mg x = some (.ref C)
  ex : excCls K C = true
  kp : keepIn K (.ref C) = true
end L2


set_option Elab.async false
set_option linter.all false
namespace HL
open PySem (Str)
/-! A small interpreter: values, a heap as a list, statements; what the program does, reckoned. -/
inductive W where
  | non | bl (b : Bool) | int (i : Int) | str (s : Str) | ref (i : Nat) | ty (n : String) | gl (x : Str)
  deriving DecidableEq, Repr, Inhabited
inductive SO where
  | lst (xs : List W) | rol (xs : List W) | tup (xs : List W) | ins (c : Str) (fs : List (Str × W)) | exc (c : Str) (fs : List (Str × W))
  deriving DecidableEq, Repr, Inhabited
abbrev Sh := List SO
inductive R (α : Type) where
  | ok (a : α) (h : Sh) | ex (e : Nat) (h : Sh) | er
  deriving Repr
def R.bind {α β : Type} (r : R α) (f : α → Sh → R β) : R β := match r with
  | .ok a h => f a h
  | .ex e h => .ex e h
  | .er => .er
inductive OR where
  | er | val (v : W) | new (o : SO)
def OR.fin (o : OR) (h : Sh) : R W := match o with
  | .er => .er
  | .val v => .ok v h
  | .new o => .ok (.ref h.length) (h ++ [o])
abbrev Sg := List (Option W)
inductive C where
  | nx (s : Sg) (h : Sh) | rt (v : W) (h : Sh) | bk (s : Sg) (h : Sh) | ct (s : Sg) (h : Sh) | ex (e : Nat) (h : Sh) | er
  deriving Repr
abbrev DE := Sg → Sh → R W
abbrev DT := Sg → Sh → R Bool
abbrev DA := Sg → Sh → R (List W)
abbrev DS := Sg → Sh → C
abbrev Fn := List W → Sh → R W
def LIM : Nat := 100000
/-! ### what is read -/
def lstW (h : Sh) (x : W) : Option (List W) := match x with
  | .ref i => (match h[i]? with
    | some (.lst xs) => some xs
    | some (.rol xs) => some xs
    | _ => none)
  | _ => none
def tupW (h : Sh) (x : W) : Option (List W) := match x with
  | .ref i => (match h[i]? with
    | some (.tup xs) => some xs
    | _ => none)
  | _ => none
def seqW (h : Sh) (x : W) : Option (List W) := (lstW h x).or (tupW h x)
/-! ### deep data -/
inductive D where
  | non | bl (b : Bool) | int (i : Int) | str (s : Str) | lst (xs : List D) | tup (xs : List D)
mutual
def D.eq : D → D → Bool
  | .non, y => (match y with | .non => true | _ => false)
  | .bl a, y => (match y with | .bl b => a == b | .int j => (if a then 1 else 0) == j | _ => false)
  | .int i, y => (match y with | .bl b => i == (if b then 1 else 0) | .int j => i == j | _ => false)
  | .str a, y => (match y with | .str b => a == b | _ => false)
  | .lst xs, y => (match y with | .lst ys => D.eqs xs ys | _ => false)
  | .tup xs, y => (match y with | .tup ys => D.eqs xs ys | _ => false)
def D.eqs : List D → List D → Bool
  | [], ys => ys.isEmpty
  | x :: xs, ys => (match ys with | [] => false | y :: ys => D.eq x y && D.eqs xs ys)
end
def dats (f : W → Option D) : List W → Option (List D)
  | [] => some []
  | x :: r => (f x).bind fun d => (dats f r).map (d :: ·)
def sOk (s : Str) : Bool := decide (s.length ≤ LIM) && s.cps.toList.all fun c => decide (c < 1114112)
def dat : Nat → Sh → W → Option D
  | _, _, .non => some .non
  | _, _, .bl b => some (.bl b)
  | _, _, .int i => some (.int i)
  | _, _, .str x => if sOk x then some (.str x) else none
  | n + 1, h, .ref i => (match h[i]? with
    | some (.lst xs) => (dats (dat n h) xs).map .lst
    | some (.rol xs) => (dats (dat n h) xs).map .lst
    | some (.tup xs) => (dats (dat n h) xs).map .tup
    | _ => none)
  | _, _, _ => none
def DEEP : Nat := 8
/-! ### operations on values -/
abbrev O1 := W → Sh → OR
abbrev O2 := W → W → Sh → OR
def mulOk (i j : Int) : Bool := decide (i.natAbs < 2 ^ 64) || decide (j.natAbs < 2 ^ 64)
def oAdd : O2 := fun x y h => match x, y with
  | .int i, .int j => .val (.int (i + j))
  | .str s, .str t => if s.length + t.length ≤ LIM then .val (.str (s ++ t)) else .er
  | .ref i, .ref j => (match h[i]?, h[j]? with
    | some (.lst xs), some (.lst ys) => if xs.length + ys.length ≤ LIM then .new (.lst (xs ++ ys)) else .er
    | some (.tup xs), some (.tup ys) => if xs.length + ys.length ≤ LIM ∧ xs ≠ [] then (if ys = [] then .val x else .new (.tup (xs ++ ys))) else .er
    | _, _ => .er)
  | _, _ => .er
def oInt (c : Int → Int → Bool) (f : Int → Int → Int) : O2 := fun x y _ => match x, y with
  | .int i, .int j => if c i j then .val (.int (f i j)) else .er
  | _, _ => .er
def oSub : O2 := oInt (fun _ _ => true) fun i j => i - j
def oMul : O2 := fun x y h => match x, y with
  | .int i, .int j => if mulOk i j then .val (.int (i * j)) else .er
  | .ref i, .int k => (match h[i]? with
    | some (.lst xs) => if k < 2 ^ 20 ∧ -(2 ^ 20) < k ∧ xs.length * k.toNat ≤ LIM then .new (.lst (List.replicate k.toNat xs).flatten) else .er
    | _ => .er)
  | _, _ => .er
def oDiv : O2 := oInt (fun _ j => decide (0 < j) && decide (j < 1073741824)) fun i j => i / j
def oMod : O2 := oInt (fun _ j => decide (0 < j)) fun i j => i % j
def oCmp (p : Int → Int → Bool) : O2 := fun x y _ => match x, y with
  | .int i, .int j => .val (.bl (p i j))
  | _, _ => .er
def oLt : O2 := oCmp fun i j => decide (i < j)
def oLe : O2 := oCmp fun i j => decide (i ≤ j)
def oGe : O2 := oCmp fun i j => decide (j ≤ i)
def eqH (x y : W) (h : Sh) : Option Bool := match x, y with
  | .str a, .str b => some (decide (a = b))
  | .int a, .int b => some (decide (a = b))
  | x, y => (match dat DEEP h x, dat DEEP h y with
    | some a, some b => some (D.eq a b)
    | _, _ => none)
def oEq : O2 := fun x y h => match eqH x y h with
  | some b => .val (.bl b)
  | none => .er
def oNe : O2 := fun x y h => match eqH x y h with
  | some b => .val (.bl (!b))
  | none => .er
def oIs : O2 := fun x y _ => match y with
  | .non => .val (.bl (decide (x = .non)))
  | _ => .er
def oIsNot : O2 := fun x y _ => match y with
  | .non => .val (.bl (!decide (x = .non)))
  | _ => .er
def ixW (n : Nat) (i : Int) : Option Nat := if 0 ≤ i then (if i < n then some i.toNat else none) else if -(n : Int) ≤ i then some (i + n).toNat else none
def atW (xs : List W) (i : Int) : Option W := (ixW xs.length i).bind fun j => xs[j]?
def oIx : O2 := fun x y h => match seqW h x, y with
  | some xs, .int i => (match atW xs i with
    | some v => .val v
    | none => .er)
  | _, _ => .er
def truW (x : W) (h : Sh) : Option Bool := match x with
  | .non => some false
  | .bl b => some b
  | .int i => some (i != 0)
  | .str s => if s.length ≤ LIM then some ((s.length : Int) != 0) else none
  | .ref i => (match h[i]? with
    | some (.lst xs) => some (!xs.isEmpty)
    | some (.rol xs) => some (!xs.isEmpty)
    | some (.tup xs) => some (!xs.isEmpty)
    | _ => none)
  | _ => none
/-! ### expressions -/
def dVar (i : Nat) : DE := fun s h => match s[i]? with
  | some (some v) => .ok v h
  | _ => .er
def dC (v : W) : DE := fun _ h => .ok v h
def dOp (f : O2) (a b : DE) : DE := fun s h => (a s h).bind fun x h => (b s h).bind fun y h => (f x y h).fin h
def dNil : DA := fun _ h => .ok [] h
def dCons (a : DE) (r : DA) : DA := fun s h => (a s h).bind fun x h => (r s h).bind fun xs h => .ok (x :: xs) h
def dB (f : List W → Sh → OR) (as : DA) : DE := fun s h => (as s h).bind fun xs h => (f xs h).fin h
def bLst : List W → Sh → OR := fun xs _ => if xs.length ≤ LIM then .new (.lst xs) else .er
def bTup : List W → Sh → OR := fun xs _ => if xs.length ≤ LIM then .new (.tup xs) else .er
def dT (a : DE) : DT := fun s h => (a s h).bind fun x h => match truW x h with
  | some b => .ok b h
  | none => .er
def tNot (a : DT) : DT := fun s h => (a s h).bind fun b h => .ok (!b) h
def tAnd (a b : DT) : DT := fun s h => (a s h).bind fun c h => if c = true then b s h else .ok false h
def tOr (a b : DT) : DT := fun s h => (a s h).bind fun c h => if c = true then .ok true h else b s h
def dAnd (a b : DE) : DE := fun s h => (a s h).bind fun x h => match x with
  | .bl c => if c = true then b s h else .ok (.bl false) h
  | _ => .er
def dNot (a : DE) : DE := fun s h => (a s h).bind fun x h => match x with
  | .bl c => .ok (.bl (!c)) h
  | _ => .er
def dIf (c : DT) (a b : DE) : DE := fun s h => (c s h).bind fun k h => if k = true then a s h else b s h
def dChain (f g : O2) (a b c : DE) : DE := fun s h => (a s h).bind fun x h => (b s h).bind fun y h => ((f x y h).fin h).bind fun z h => match z with
  | .bl k => if k = true then (c s h).bind fun w h => (g y w h).fin h else .ok (.bl false) h
  | _ => .er
def dCall (f : Fn) (as : DA) : DE := fun s h => (as s h).bind fun xs h => f xs h
def start (n : Nat) (vs : List W) : Sg := vs.map some ++ List.replicate (n - vs.length) none
def fnOf (p n : Nat) (b : DS) : Fn := fun vs h => if vs.length = p then (match b (start n vs) h with
  | .nx _ h => .ok .non h
  | .rt v h => .ok v h
  | .ex e h => .ex e h
  | _ => .er) else .er
abbrev DO := Sg → Sh → R (Option Int)
def sIx (n d : Nat) : Option Int → Nat
  | none => d
  | some i => if i < 0 then (i + (n : Int)).toNat else min i.toNat n
/-! ### statements -/
def sNx : DS := fun s h => .nx s h
def sSeq (a b : DS) : DS := fun s h => match a s h with
  | .nx s h => b s h
  | c => c
def sSet (i : Nat) (e : DE) : DS := fun s h => match e s h with
  | .ok v h => .nx (s.set i (some v)) h
  | .ex e h => .ex e h
  | .er => .er
def sRet (e : DE) : DS := fun s h => match e s h with
  | .ok v h => .rt v h
  | .ex e h => .ex e h
  | .er => .er
def sDrop (e : DE) : DS := fun s h => match e s h with
  | .ok _ h => .nx s h
  | .ex e h => .ex e h
  | .er => .er
def sIf (c : DT) (a b : DS) : DS := fun s h => match c s h with
  | .ok k h => if k = true then a s h else b s h
  | .ex e h => .ex e h
  | .er => .er
def sNever : DS := fun _ _ => .er
def sSub (o i e : DE) : DS := fun s h => match ((e s h).bind fun v h => (o s h).bind fun x h => (i s h).bind fun y h => (match x, y with
    | .ref p, .int k => (match h[p]? with
      | some (.lst xs) => (match ixW xs.length k with
        | some j => R.ok W.non (h.set p (.lst (xs.set j v)))
        | none => .er)
      | _ => .er)
    | _, _ => .er)) with
  | .ok _ h => .nx s h
  | .ex e h => .ex e h
  | .er => .er
/-! ### loops -/
inductive It where
  | fix (xs : List W) | lst (i : Nat) (xs : List W) | tup (i : Nat) (xs : List W)
def It.items : It → List W
  | .fix xs => xs
  | .lst _ xs => xs
  | .tup _ xs => xs
def It.stays : It → Sh → Prop
  | .fix _, _ => True
  | .lst i xs, h => lstW h (.ref i) = some xs
  | .tup i xs, h => tupW h (.ref i) = some xs
instance (t : It) (h : Sh) : Decidable (t.stays h) := by cases t <;> unfold It.stays <;> infer_instance
abbrev DI := Sg → Sh → R It
def iSeq (a : DE) : DI := fun s h => (a s h).bind fun x h => match x with
  | .ref i => (match lstW h (.ref i) with
    | some xs => .ok (.lst i xs) h
    | none => (match tupW h (.ref i) with
      | some xs => .ok (.tup i xs) h
      | none => .er))
  | _ => .er
def rangeW (lo : Int) (n : Nat) : List W := (List.range n).map fun (k : Nat) => .int (lo + (k : Int))
def iRange1 (a : DE) : DI := fun s h => (a s h).bind fun x h => match x with
  | .int j => if -(2 ^ 62) ≤ j ∧ j < 2 ^ 62 then .ok (.fix (rangeW 0 j.toNat)) h else .er
  | _ => .er
abbrev DG := W → Sg → Sh → Option Sg
def gName (i : Nat) : DG := fun v s _ => some (s.set i (some v))
def forW (t : It) (g : DG) (b : DS) : List W → DS
  | [], s, h => .nx s h
  | x :: xs, s, h => match g x s h with
    | none => .er
    | some s1 => match b s1 h with
      | .nx s2 h2 => if t.stays h2 then forW t g b xs s2 h2 else .er
      | .ct s2 h2 => if t.stays h2 then forW t g b xs s2 h2 else .er
      | .bk s2 h2 => .nx s2 h2
      | c => c
def sFor (i : DI) (g : DG) (b : DS) : DS := fun s h => match i s h with
  | .ok t h => forW t g b t.items s h
  | .ex e h => .ex e h
  | .er => .er
def compW (t : It) (g : DG) (c : DT) (e : DE) (acc : Nat) : List W → Sg → Sh → R W
  | [], _, h => .ok (.ref acc) h
  | x :: xs, s, h => match g x s h with
    | none => .er
    | some s1 => (c s1 h).bind fun k h1 => if k = true then (e s1 h1).bind fun v h2 => (match h2[acc]? with
        | some (.lst ys) => if ys.length < LIM ∧ t.stays h2 ∧ acc < h2.length then compW t g c e acc xs s1 (h2.set acc (.lst (ys ++ [v]))) else .er
        | _ => .er)
      else if t.stays h1 then compW t g c e acc xs s1 h1 else .er
def capS (n : Nat) (js : List Nat) (s : Sg) : Sg := List.replicate n none ++ js.map fun j => (s[j]?).getD none
def dComp (i : DI) (n : Nat) (js : List Nat) (g : DG) (c : DT) (e : DE) : DE := fun s h => (i s h).bind fun t h => compW t g c e h.length t.items (capS n js s) (h ++ [.lst []])
def tTrue : DT := fun _ h => .ok true h
/-! ### built-in functions -/
def bLen : List W → Sh → OR := fun xs h => match xs with
  | [.str s] => if s.length ≤ LIM then .val (.int s.length) else .er
  | [x] => (match seqW h x with
    | some ys => .val (.int ys.length)
    | none => .er)
  | _ => .er
def bMax2 : List W → Sh → OR := fun xs _ => match xs with
  | [.int i, .int j] => .val (.int (if j > i then j else i))
  | _ => .er
def bMin2 : List W → Sh → OR := fun xs _ => match xs with
  | [.int i, .int j] => .val (.int (if j < i then j else i))
  | _ => .er
def bList : List W → Sh → OR := fun xs h => match xs with
  | [x] => (match seqW h x with
    | some ys => .new (.lst ys)
    | none => .er)
  | _ => .er
def bTuple : List W → Sh → OR := fun xs h => match xs with
  | [x] => (match lstW h x with
    | some ys => .new (.tup ys)
    | none => (match tupW h x with
      | some _ => .val x
      | none => .er))
  | _ => .er
/-! ### methods of lists -/
inductive Ty where
  | bi (n : String) | own (x : Bool) (c : Str)
  deriving DecidableEq
def tyW (h : Sh) (x : W) : Option Ty := match x with
  | .non => some (.bi "NoneType")
  | .bl _ => some (.bi "bool")
  | .int _ => some (.bi "int")
  | .str _ => some (.bi "str")
  | .ref i => (match h[i]? with
    | some (.lst _) => some (.bi "list")
    | some (.rol _) => some (.bi "list")
    | some (.tup _) => some (.bi "tuple")
    | some (.ins c _) => some (.own false c)
    | some (.exc c _) => some (.own true c)
    | none => none)
  | _ => none
def biN : List String := ["int", "bool", "str", "list", "tuple", "dict"]
def subB (a b : String) : Bool := a == b || (a == "bool" && b == "int")
abbrev CT := List (Str × List W)
def isi1 (T : CT) (t : Ty) (c : W) : Option Bool := match t, c with
  | .bi a, .ty b => if biN.contains b then some (subB a b) else none
  | .bi _, .gl x => if (T.lookup x).isSome then some false else none
  | .own k a, c => (match T.lookup a with
    | some l => if l.contains (.ty "ValueError") = k then (match c with
        | .ty b => if biN.contains b then some (l.contains (.ty b)) else none
        | .gl x => if (T.lookup x).isSome then some (l.contains (.gl x)) else none
        | _ => none) else none
    | none => none)
  | _, _ => none
def isCl : W → Bool
  | .ty _ => true
  | .gl _ => true
  | _ => false
def isiN (T : CT) (t : Ty) : List W → Option Bool
  | [] => some false
  | c :: cs => match isi1 T t c with
    | some true => some true
    | some false => isiN T t cs
    | none => none
def isi (T : CT) (h : Sh) (x c : W) : Option Bool := match tyW h x with
  | none => none
  | some t => (match c with
    | .ref i => (match h[i]? with
      | some (.tup cs) => if cs.all isCl && !cs.isEmpty then isiN T t cs else none
      | _ => none)
    | c => isi1 T t c)
def bIsi (T : CT) : List W → Sh → OR := fun xs h => match xs with
  | [x, c] => (match isi T h x c with
    | some b => .val (.bl b)
    | none => .er)
  | _ => .er
end HL


set_option Elab.async false
set_option linter.all false
namespace HL
open PySem (Str)
/-! ### own classes -/
def getF (cs : List Str) (f : Str) (x : W) (h : Sh) : Option W := match x with
  | .ref i => (match h[i]? with
    | some (.ins c fs) => if cs.contains c = true then fs.lookup f else none
    | _ => none)
  | _ => none
def dFld (cs : List Str) (f : Str) (a : DE) : DE := fun s h => (a s h).bind fun x h => match getF cs f x h with
  | some v => .ok v h
  | none => .er
def putW (f : Str) (v : W) : List (Str × W) → List (Str × W)
  | [] => [(f, v)]
  | (g, x) :: r => if g = f then (g, v) :: r else (g, x) :: putW f v r
def setF (cs : List Str) (f : Str) (x v : W) (h : Sh) : R W := match x with
  | .ref i => (match h[i]? with
    | some (.ins c fs) => if cs.contains c = true ∧ fs.length < 1000 then .ok .non (h.set i (.ins c (putW f v fs))) else .er
    | _ => .er)
  | _ => .er
def sFld (cs : List Str) (f : Str) (o e : DE) : DS := fun s h => match ((e s h).bind fun v h => (o s h).bind fun x h => setF cs f x v h) with
  | .ok _ h => .nx s h
  | .ex e h => .ex e h
  | .er => .er
def findM (tb : List (Str × Fn)) (m : Str) (x : W) (h : Sh) : Option Fn := match x with
  | .ref i => (match h[i]? with
    | some (.ins c fs) => if fs.lookup m = none then tb.lookup c else none
    | _ => none)
  | _ => none
def dMeth (tb : List (Str × Fn)) (m : Str) (o : DE) (as : DA) : DE := fun s h => (o s h).bind fun x h => match findM tb m x h with
  | some f => (as s h).bind fun xs h => f (x :: xs) h
  | none => .er
def dNew (c : Str) (f : Fn) (ds : List W) (as : DA) : DE := fun s h => (as s h).bind fun xs h1 => (f (.ref h1.length :: (xs ++ ds)) (h1 ++ [.ins c []])).bind fun v h2 => if v = .non then .ok (.ref h1.length) h2 else .er
end HL


set_option Elab.async false
set_option linter.all false
set_option maxRecDepth 100000
set_option maxHeartbeats 4000000
namespace L2
open PySem PySem.Spec PyProof.Rows
open HL (W SO Sh Sg OR)
/-! ### the interpreter's heap lies in the tracked one -/
def RoL (K : PySem.W.Frag) (H : Hp) (a : Addr) (xs : List V) : Prop := (∃ o, H a = some (.frz o (.lst xs))) ∨
    ∃ (o : Obj) (its : Array Value) (n : Nat), K.lookup a = some o ∧ o.cls = .type "list" ∧ o.dict = none ∧ o.data = .seq its n ∧ its.size ≤ sizeLine ∧ Vals xs its.toList
theorem RoL.sq {K : PySem.W.Frag} {H : Hp} {a : Addr} {xs : List V} (h : RoL K H a xs) : SqL K H a xs := by
  rcases h with h | h
  · exact .inl (.inr h)
  · exact .inr h
section
variable (γ : Str → Addr) (ρ : Nat → Addr)
def renW : W → V
  | .non => .non
  | .bl b => .bl b
  | .int i => .int i
  | .str s => .str s
  | .ref i => .ref (ρ i)
  | .ty n => .ty n
  | .gl x => .ref (γ x)
def renS (s : Sg) : St := s.map (Option.map (renW γ ρ))
def renF (fs : List (Str × W)) : List (Str × V) := fs.map fun p => (p.1, renW γ ρ p.2)
def ObS (K : PySem.W.Frag) (H : Hp) (a : Addr) : SO → Prop
  | .lst xs => H a = some (.lst (xs.map (renW γ ρ)))
  | .rol xs => RoL K H a (xs.map (renW γ ρ))
  | .tup xs => SqT K H a (xs.map (renW γ ρ))
  | .ins c fs => ∃ dx, H a = some (.ins (γ c) dx (renF γ ρ fs))
  | .exc c fs => ∃ dx, H a = some (.exc (γ c) dx (renF γ ρ fs))
end
def wf (n : Nat) : W → Prop
  | .ref i => i < n
  | _ => True
def wfs (n : Nat) (xs : List W) : Prop := ∀ x ∈ xs, wf n x
def wfS (n : Nat) (s : Sg) : Prop := ∀ x, some x ∈ s → wf n x
def wfO (n : Nat) : SO → Prop
  | .lst xs => wfs n xs
  | .rol xs => wfs n xs
  | .tup xs => wfs n xs
  | .ins _ fs => ∀ p ∈ fs, wf n p.2
  | .exc _ fs => ∀ p ∈ fs, wf n p.2
def mutO : SO → Bool
  | .lst _ => true
  | .ins _ _ => true
  | .exc _ _ => true
  | _ => false
def Ag (n : Nat) (ρ ρ' : Nat → Addr) : Prop := ∀ i < n, ρ i = ρ' i
theorem wf.mono {n m : Nat} {x : W} (h : wf n x) (l : n ≤ m) : wf m x := by
  cases x with
  | ref i => exact Nat.lt_of_lt_of_le h l
  | _ => trivial
theorem wfs.mono {n m : Nat} {xs : List W} (h : wfs n xs) (l : n ≤ m) : wfs m xs := fun x hx => (h x hx).mono l
theorem wfS.mono {n m : Nat} {s : Sg} (h : wfS n s) (l : n ≤ m) : wfS m s := fun x hx => (h x hx).mono l
theorem wfO.mono {n m : Nat} {o : SO} (h : wfO n o) (l : n ≤ m) : wfO m o := by
  cases o with
  | lst xs => exact wfs.mono h l
  | rol xs => exact wfs.mono h l
  | tup xs => exact wfs.mono h l
  | ins c fs => exact fun p hp => (h p hp).mono l
  | exc c fs => exact fun p hp => (h p hp).mono l
theorem ren_ag {γ : Str → Addr} {ρ ρ' : Nat → Addr} {n : Nat} {x : W} (h : wf n x) (a : Ag n ρ ρ') : renW γ ρ x = renW γ ρ' x := by
  cases x with
  | ref i => exact congrArg V.ref (a i h)
  | _ => rfl
theorem rens_ag {γ : Str → Addr} {ρ ρ' : Nat → Addr} {n : Nat} {xs : List W} (h : wfs n xs) (a : Ag n ρ ρ') : xs.map (renW γ ρ) = xs.map (renW γ ρ') :=
  List.map_congr_left fun x hx => ren_ag (h x hx) a
theorem renF_ag {γ : Str → Addr} {ρ ρ' : Nat → Addr} {n : Nat} {fs : List (Str × W)} (h : ∀ p ∈ fs, wf n p.2) (a : Ag n ρ ρ') : renF γ ρ fs = renF γ ρ' fs :=
  List.map_congr_left fun p hp => by rw [ren_ag (h p hp) a]
theorem renS_ag {γ : Str → Addr} {ρ ρ' : Nat → Addr} {n : Nat} {s : Sg} (h : wfS n s) (a : Ag n ρ ρ') : renS γ ρ s = renS γ ρ' s := by
  refine List.map_congr_left fun x hx => ?_
  cases x with
  | none => rfl
  | some v => exact congrArg some (ren_ag (h v hx) a)
theorem Ag.refl (n : Nat) (ρ : Nat → Addr) : Ag n ρ ρ := fun _ _ => rfl
theorem Ag.trans {n m : Nat} {ρ ρ1 ρ2 : Nat → Addr} (a : Ag n ρ ρ1) (b : Ag m ρ1 ρ2) (l : n ≤ m) : Ag n ρ ρ2 := fun i hi => (a i hi).trans (b i (Nat.lt_of_lt_of_le hi l))
structure Nxt (h : Sh) (ρ : Nat → Addr) (h' : Sh) (ρ' : Nat → Addr) : Prop where
  le : h.length ≤ h'.length
  ag : Ag h.length ρ ρ'
theorem Nxt.refl (h : Sh) (ρ : Nat → Addr) : Nxt h ρ h ρ := ⟨Nat.le_refl _, Ag.refl _ _⟩
theorem Nxt.trans {h h1 h2 : Sh} {ρ ρ1 ρ2 : Nat → Addr} (a : Nxt h ρ h1 ρ1) (b : Nxt h1 ρ1 h2 ρ2) : Nxt h ρ h2 ρ2 := ⟨Nat.le_trans a.le b.le, a.ag.trans b.ag a.le⟩
structure SimH (K : PySem.W.Frag) (γ : Str → Addr) (ρ : Nat → Addr) (h : Sh) (H : Hp) : Prop where
  ob : ∀ (i : Nat) (o : SO), h[i]? = some o → ObS γ ρ K H (ρ i) o
  inj : ∀ (i j : Nat) (o u : SO), h[i]? = some o → h[j]? = some u → mutO o = true → mutO u = true → ρ i = ρ j → i = j
  wf : ∀ (i : Nat) (o : SO), h[i]? = some o → wfO h.length o
structure Sim (K : PySem.W.Frag) (γ : Str → Addr) (ρ : Nat → Addr) (s : Sg) (h : Sh) (σ : St) (H : Hp) : Prop where
  hp : SimH K γ ρ h H
  ws : wfS h.length s
  eq : σ = renS γ ρ s
section
variable {K : PySem.W.Frag} {γ : Str → Addr} {ρ ρ' : Nat → Addr} {s : Sg} {h h' : Sh} {σ : St} {H H' : Hp}
theorem Sim.next (S : Sim K γ ρ s h σ H) (n : Nxt h ρ h' ρ') (S' : SimH K γ ρ' h' H') : Sim K γ ρ' s h' σ H' := ⟨S', S.ws.mono n.le, S.eq.trans (renS_ag S.ws n.ag)⟩
theorem ObS.ren {a : Addr} {o : SO} (x : ObS γ ρ K H a o) {n : Nat} (w : wfO n o) (g : Ag n ρ ρ') : ObS γ ρ' K H a o := by
  cases o with
  | lst xs => show _ = _; rw [← rens_ag w g]; exact x
  | rol xs => show RoL _ _ _ _; rw [← rens_ag w g]; exact x
  | tup xs => show SqT _ _ _ _; rw [← rens_ag w g]; exact x
  | ins c fs => obtain ⟨dx, e⟩ := x; exact ⟨dx, by rw [← renF_ag w g]; exact e⟩
  | exc c fs => obtain ⟨dx, e⟩ := x; exact ⟨dx, by rw [← renF_ag w g]; exact e⟩
theorem SqL.at {a : Addr} {xs : List V} (h : SqL K H a xs) (e : H a ≠ none → H' a = H a) : SqL K H' a xs := by
  rcases h with (h | ⟨o, h⟩) | h
  · exact .inl (.inl (by rw [e (by rw [h]; exact nofun), h]))
  · exact .inl (.inr ⟨o, by rw [e (by rw [h]; exact nofun), h]⟩)
  · exact .inr h
theorem SqT.at {a : Addr} {xs : List V} (h : SqT K H a xs) (e : H a ≠ none → H' a = H a) : SqT K H' a xs := by
  rcases h with (h | ⟨o, h⟩) | h
  · exact .inl (.inl (by rw [e (by rw [h]; exact nofun), h]))
  · exact .inl (.inr ⟨o, by rw [e (by rw [h]; exact nofun), h]⟩)
  · exact .inr h
theorem RoL.at {a : Addr} {xs : List V} (h : RoL K H a xs) (e : H a ≠ none → H' a = H a) : RoL K H' a xs := by
  rcases h with ⟨o, h⟩ | h
  · exact .inl ⟨o, by rw [e (by rw [h]; exact nofun), h]⟩
  · exact .inr h
theorem ObS.at {a : Addr} {o : SO} (x : ObS γ ρ K H a o) (e : H a ≠ none → H' a = H a) : ObS γ ρ K H' a o := by
  cases o with
  | lst xs => have x' : H a = _ := x; show H' a = _; rw [e (by rw [x']; exact nofun)]; exact x'
  | rol xs => exact RoL.at x e
  | tup xs => exact SqT.at x e
  | ins c fs => obtain ⟨dx, q⟩ := x; exact ⟨dx, by rw [e (by rw [q]; exact nofun)]; exact q⟩
  | exc c fs => obtain ⟨dx, q⟩ := x; exact ⟨dx, by rw [e (by rw [q]; exact nofun)]; exact q⟩
def put (ρ : Nat → Addr) (n : Nat) (p : Addr) : Nat → Addr := fun i => if i = n then p else ρ i
theorem put_ag (ρ : Nat → Addr) (n : Nat) (p : Addr) : Ag n ρ (put ρ n p) := fun i hi => by unfold put; rw [if_neg (Nat.ne_of_lt hi)]
theorem put_at (ρ : Nat → Addr) (n : Nat) (p : Addr) : put ρ n p n = p := by unfold put; rw [if_pos rfl]
theorem getElem?_snoc {α : Type} (l : List α) (x : α) (i : Nat) : (l ++ [x])[i]? = if i < l.length then l[i]? else if i = l.length then some x else none := by
  by_cases h1 : i < l.length
  · rw [if_pos h1, List.getElem?_append_left h1]
  · rw [if_neg h1, List.getElem?_append_right (by omega)]
    by_cases h2 : i = l.length
    · rw [if_pos h2, h2, Nat.sub_self]; rfl
    · rw [if_neg h2]
      exact List.getElem?_eq_none_iff.mpr (by simp; omega)
theorem ObS.mut {a : Addr} {o : SO} (x : ObS γ ρ K H a o) (m : mutO o = true) : ∃ u, H a = some u ∧ (∀ xs, u ≠ .tup xs) ∧ ∀ ob t, u ≠ .frz ob t := by
  cases o with
  | lst xs => exact ⟨_, x, (fun _ z => nomatch z), fun _ _ z => nomatch z⟩
  | rol xs => cases m
  | tup xs => cases m
  | ins c fs => obtain ⟨dx, e⟩ := x; exact ⟨_, e, (fun _ z => nomatch z), fun _ _ z => nomatch z⟩
  | exc c fs => obtain ⟨dx, e⟩ := x; exact ⟨_, e, (fun _ z => nomatch z), fun _ _ z => nomatch z⟩
theorem ObS.still {a b : Addr} {o : SO} {u v : HO} (x : ObS γ ρ K H a o) (m : mutO o = false) (e : H b = some u) (n1 : ∀ xs, u ≠ .tup xs) (n2 : ∀ ob t, u ≠ .frz ob t) : ObS γ ρ K (upd H b v) a o := by
  cases o with
  | lst xs => cases m
  | ins c fs => cases m
  | exc c fs => cases m
  | rol xs =>
    rcases x with ⟨o, h⟩ | h
    · exact .inl ⟨o, by rw [upd_ne (ne_of h e (fun z => n2 _ _ z.symm))]; exact h⟩
    · exact .inr h
  | tup xs =>
    rcases x with (h | ⟨o, h⟩) | h
    · exact .inl (.inl (by rw [upd_ne (ne_of h e (fun z => n1 _ z.symm))]; exact h))
    · exact .inl (.inr ⟨o, by rw [upd_ne (ne_of h e (fun z => n2 _ _ z.symm))]; exact h⟩)
    · exact .inr h
theorem SimH.push {p : Addr} {o : SO} (S : SimH K γ ρ h H) (w : wfO h.length o) (E : Ext H H') (hp : H p = none) (n : ObS γ ρ K H' p o) : SimH K γ (put ρ h.length p) (h ++ [o]) H' where
  ob := fun i u e => by
    rw [getElem?_snoc] at e
    by_cases h1 : i < h.length
    · rw [if_pos h1] at e
      have x := (S.ob i u e).at (H' := H') fun z => E _ (by cases q : H (ρ i) with | none => exact absurd q z | some _ => rfl)
      rw [← put_ag ρ h.length p i h1]
      exact x.ren (S.wf i u e) (put_ag _ _ _)
    · rw [if_neg h1] at e
      by_cases h2 : i = h.length
      · rw [if_pos h2] at e
        cases e
        rw [h2, put_at]
        exact n.ren w (put_ag _ _ _)
      · rw [if_neg h2] at e; cases e
  inj := fun i j u v e1 e2 m1 m2 q => by
    rw [getElem?_snoc] at e1 e2
    have tr : ∀ k w, k < h.length → h[k]? = some w → mutO w = true → ρ k ≠ p := fun k w _ e m z => by
      obtain ⟨y, hy, _⟩ := (S.ob k w e).mut m
      rw [z, hp] at hy; cases hy
    by_cases h1 : i < h.length
    · rw [if_pos h1] at e1
      by_cases h2 : j < h.length
      · rw [if_pos h2] at e2
        rw [← put_ag ρ h.length p i h1, ← put_ag ρ h.length p j h2] at q
        exact S.inj i j u v e1 e2 m1 m2 q
      · rw [if_neg h2] at e2
        by_cases h3 : j = h.length
        · rw [h3, put_at, ← put_ag ρ h.length p i h1] at q
          exact absurd q (tr i u h1 e1 m1)
        · rw [if_neg h3] at e2; cases e2
    · rw [if_neg h1] at e1
      by_cases h3 : i = h.length
      · by_cases h2 : j < h.length
        · rw [if_pos h2] at e2
          rw [h3, put_at, ← put_ag ρ h.length p j h2] at q
          exact absurd q.symm (tr j v h2 e2 m2)
        · rw [if_neg h2] at e2
          by_cases h4 : j = h.length
          · rw [h3, h4]
          · rw [if_neg h4] at e2; cases e2
      · rw [if_neg h3] at e1; cases e1
  wf := fun i u e => by
    rw [getElem?_snoc] at e
    have le : h.length ≤ (h ++ [o]).length := by simp
    by_cases h1 : i < h.length
    · rw [if_pos h1] at e
      exact (S.wf i u e).mono le
    · rw [if_neg h1] at e
      by_cases h2 : i = h.length
      · rw [if_pos h2] at e; cases e; exact w.mono le
      · rw [if_neg h2] at e; cases e
theorem Nxt.push (h : Sh) (ρ : Nat → Addr) (o : SO) (p : Addr) : Nxt h ρ (h ++ [o]) (put ρ h.length p) := ⟨by simp, put_ag _ _ _⟩
theorem SimH.chg {i : Nat} {o u : SO} {v : HO} (S : SimH K γ ρ h H) (e : h[i]? = some o) (m : mutO o = true) (m' : mutO u = true) (w : wfO h.length u) (n : ObS γ ρ K (upd H (ρ i) v) (ρ i) u) : SimH K γ ρ (h.set i u) (upd H (ρ i) v) where
  ob := fun j t q => by
    rw [List.getElem?_set] at q
    have hi : i < h.length := by
      rcases Nat.lt_or_ge i h.length with z | z
      · exact z
      · rw [List.getElem?_eq_none_iff.mpr z] at e; cases e
    by_cases hj : i = j
    · rw [if_pos hj, if_pos hi] at q
      cases q
      rw [← hj]; exact n
    · rw [if_neg hj] at q
      obtain ⟨y, hy, n1, n2⟩ := (S.ob i o e).mut m
      cases c : mutO t with
      | true =>
        have ne : ρ j ≠ ρ i := fun z => hj (S.inj i j o t e q m c z.symm)
        exact (S.ob j t q).at fun _ => upd_ne ne
      | false => exact (S.ob j t q).still c hy n1 n2
  inj := fun j k t r e1 e2 m1 m2 q => by
    rw [List.getElem?_set] at e1 e2
    have g : ∀ j t, (if i = j then if i < h.length then some u else none else h[j]?) = some t → mutO t = true → ∃ t', h[j]? = some t' ∧ mutO t' = true := fun j t e1 m1 => by
      by_cases hj : i = j
      · rw [← hj]; exact ⟨o, e, m⟩
      · rw [if_neg hj] at e1; exact ⟨t, e1, m1⟩
    obtain ⟨t1, f1, g1⟩ := g j t e1 m1
    obtain ⟨t2, f2, g2⟩ := g k r e2 m2
    exact S.inj j k t1 t2 f1 f2 g1 g2 q
  wf := fun j t q => by
    rw [List.getElem?_set] at q
    rw [List.length_set]
    by_cases hj : i = j
    · rw [if_pos hj] at q
      by_cases hi : i < h.length
      · rw [if_pos hi] at q; cases q; exact w
      · rw [if_neg hi] at q; cases q
    · rw [if_neg hj] at q; exact S.wf j t q
theorem Nxt.chg (h : Sh) (ρ : Nat → Addr) (i : Nat) (u : SO) : Nxt h ρ (h.set i u) ρ := ⟨by simp, Ag.refl _ _⟩
end
end L2


set_option Elab.async false
set_option linter.all false
set_option maxRecDepth 100000
set_option maxHeartbeats 4000000
namespace L2
open PySem PySem.Spec PyProof.Rows
open HL (W SO Sh Sg OR DE DT DA DS Fn)
/-! ### what the interpreter says, as a reading -/
section
variable (K : PySem.W.Frag) (γ : Str → Addr)
def GoodR {α β : Type} (g : (Nat → Addr) → α → β) (w : Nat → α → Prop) (ρ : Nat → Addr) (h : Sh) (r : HL.R α) (Q : β → Hp → Prop) : Prop := match r with
  | .ok a h' => ∀ ρ' H', Nxt h ρ h' ρ' → SimH K γ ρ' h' H' → w h'.length a → Q (g ρ' a) H'
  | _ => False
abbrev GoodV := GoodR K γ (renW γ) wf
abbrev GoodL := GoodR K γ (fun ρ (vs : List W) => vs.map (renW γ ρ)) wfs
abbrev GoodB := GoodR K γ (fun _ (b : Bool) => b) (fun _ _ => True)
abbrev GoodO := GoodR K γ (fun _ (b : Option Int) => b) (fun _ _ => True)
def eE (d : DE) : TE := fun σ H Q => ∃ ρ s h, Sim K γ ρ s h σ H ∧ GoodV K γ ρ h (d s h) Q
def eA (d : DA) : TA := fun σ H Q => ∃ ρ s h, Sim K γ ρ s h σ H ∧ GoodL K γ ρ h (d s h) Q
def eT (d : DT) : TT := fun σ H Q => ∃ ρ s h, Sim K γ ρ s h σ H ∧ GoodB K γ ρ h (d s h) Q
def eO (d : HL.DO) : TO := fun σ H Q => ∃ ρ s h, Sim K γ ρ s h σ H ∧ GoodO K γ ρ h (d s h) Q
def GoodC (ρ : Nat → Addr) (h : Sh) (c : HL.C) (D : Ends) : Prop := match c with
  | .nx s' h' => ∀ ρ' H', Nxt h ρ h' ρ' → SimH K γ ρ' h' H' → wfS h'.length s' → D.nx (renS γ ρ' s') H'
  | .rt v h' => ∀ ρ' H', Nxt h ρ h' ρ' → SimH K γ ρ' h' H' → wf h'.length v → D.rt (renW γ ρ' v) H'
  | .bk s' h' => ∀ ρ' H', Nxt h ρ h' ρ' → SimH K γ ρ' h' H' → wfS h'.length s' → D.bk (renS γ ρ' s') H'
  | .ct s' h' => ∀ ρ' H', Nxt h ρ h' ρ' → SimH K γ ρ' h' H' → wfS h'.length s' → D.ct (renS γ ρ' s') H'
  | _ => False
def eS (d : DS) : TS := fun D σ H => ∃ ρ s h, Sim K γ ρ s h σ H ∧ GoodC K γ ρ h (d s h) D
end
section
variable {K : PySem.W.Frag} {γ : Str → Addr} {ρ ρ' : Nat → Addr} {s : Sg} {h h' : Sh} {σ : St} {H H' : Hp}
theorem GoodR.later {α β : Type} {g : (Nat → Addr) → α → β} {w : Nat → α → Prop} {r : HL.R α} {Q : β → Hp → Prop} (x : GoodR K γ g w ρ h r Q) (n : Nxt h ρ h' ρ') : GoodR K γ g w ρ' h' r Q := by
  cases r with
  | ok a h2 => exact fun ρ2 H2 n2 => x ρ2 H2 (n.trans n2)
  | ex e h2 => exact x.elim
  | er => exact x.elim
theorem GoodC.later {c : HL.C} {D : Ends} (x : GoodC K γ ρ h c D) (n : Nxt h ρ h' ρ') : GoodC K γ ρ' h' c D := by
  cases c with
  | nx s2 h2 => exact fun ρ2 H2 n2 => x ρ2 H2 (n.trans n2)
  | rt v h2 => exact fun ρ2 H2 n2 => x ρ2 H2 (n.trans n2)
  | bk s2 h2 => exact fun ρ2 H2 n2 => x ρ2 H2 (n.trans n2)
  | ct s2 h2 => exact fun ρ2 H2 n2 => x ρ2 H2 (n.trans n2)
  | ex e h2 => exact x.elim
  | er => exact x.elim
theorem GoodR.bind {α α' β β' : Type} {g : (Nat → Addr) → α → β} {w : Nat → α → Prop} {g' : (Nat → Addr) → α' → β'} {w' : Nat → α' → Prop} {r : HL.R α} {f : α → Sh → HL.R α'} {Q : β' → Hp → Prop} (x : GoodR K γ g' w' ρ h (r.bind f) Q) {R : β → Hp → Prop}
    (k : ∀ a h1 ρ1 H1, r = .ok a h1 → Nxt h ρ h1 ρ1 → SimH K γ ρ1 h1 H1 → w h1.length a → GoodR K γ g' w' ρ1 h1 (f a h1) Q → R (g ρ1 a) H1) : GoodR K γ g w ρ h r R := by
  cases r with
  | ok a h1 => exact fun ρ1 H1 n1 S1 wa => k a h1 ρ1 H1 rfl n1 S1 wa (x.later n1)
  | ex e h2 => exact x.elim
  | er => exact x.elim
def OrQ (K : PySem.W.Frag) (γ : Str → Addr) (ρ : Nat → Addr) (h : Sh) (H : Hp) (o : OR) (Q : VK) : Prop := match o with
  | .er => False
  | .val v => wf h.length v → Q (renW γ ρ v) H
  | .new (.lst xs) => wfs h.length xs → ∀ p, H p = none → Q (.ref p) (upd H p (.lst (xs.map (renW γ ρ))))
  | .new (.tup xs) => wfs h.length xs → ∀ p, H p = none → Q (.ref p) (upd H p (.tup (xs.map (renW γ ρ))))
  | .new _ => False
def newOk : OR → Bool
  | .new (.lst _) => true
  | .new (.tup _) => true
  | .new _ => false
  | _ => true
theorem fin_q {o : OR} {Q : VK} (S : SimH K γ ρ h H) (b : newOk o = true) (x : GoodV K γ ρ h (o.fin h) Q) : OrQ K γ ρ h H o Q := by
  cases o with
  | er => exact x.elim
  | val v => exact fun w => x ρ H (Nxt.refl _ _) S w
  | new o =>
    cases o with
    | lst xs =>
      intro w p hp
      have q := x (put ρ h.length p) (upd H p (.lst (xs.map (renW γ ρ)))) (Nxt.push _ _ _ _) (S.push (o := .lst xs) w (Ext.upd _ hp) hp upd_same) (by show h.length < (h ++ [_]).length; simp)
      rw [show renW γ (put ρ h.length p) (.ref h.length) = V.ref p from congrArg V.ref (put_at _ _ _)] at q
      exact q
    | tup xs =>
      intro w p hp
      have q := x (put ρ h.length p) (upd H p (.tup (xs.map (renW γ ρ)))) (Nxt.push _ _ _ _) (S.push (o := .tup xs) w (Ext.upd _ hp) hp (SqT.of upd_same)) (by show h.length < (h ++ [_]).length; simp)
      rw [show renW γ (put ρ h.length p) (.ref h.length) = V.ref p from congrArg V.ref (put_at _ _ _)] at q
      exact q
    | _ => cases b
theorem lstW_sq {x : W} {xs : List W} (S : SimH K γ ρ h H) (e : HL.lstW h x = some xs) : ∃ i, x = .ref i ∧ SqL K H (ρ i) (xs.map (renW γ ρ)) ∧ wfs h.length xs := by
  cases x with
  | ref i =>
    unfold HL.lstW at e
    simp only at e
    cases q : h[i]? with
    | none => rw [q] at e; cases e
    | some o =>
      rw [q] at e
      cases o with
      | lst ys => cases e; exact ⟨i, rfl, SqL.of (S.ob i _ q), S.wf i _ q⟩
      | rol ys => cases e; exact ⟨i, rfl, (show RoL K H (ρ i) _ from S.ob i _ q).sq, S.wf i _ q⟩
      | _ => cases e
  | _ => cases e
theorem tupW_sq {x : W} {xs : List W} (S : SimH K γ ρ h H) (e : HL.tupW h x = some xs) : ∃ i, x = .ref i ∧ SqT K H (ρ i) (xs.map (renW γ ρ)) ∧ wfs h.length xs := by
  cases x with
  | ref i =>
    unfold HL.tupW at e
    simp only at e
    cases q : h[i]? with
    | none => rw [q] at e; cases e
    | some o =>
      rw [q] at e
      cases o with
      | tup ys => cases e; exact ⟨i, rfl, S.ob i _ q, S.wf i _ q⟩
      | _ => cases e
  | _ => cases e
theorem seqW_sq {x : W} {xs : List W} (S : SimH K γ ρ h H) (e : HL.seqW h x = some xs) : ∃ i, x = .ref i ∧ (SqL K H (ρ i) (xs.map (renW γ ρ)) ∨ SqT K H (ρ i) (xs.map (renW γ ρ))) ∧ wfs h.length xs := by
  unfold HL.seqW at e
  cases q : HL.lstW h x with
  | some ys =>
    rw [q] at e
    cases e
    obtain ⟨i, a, b, c⟩ := lstW_sq S q
    exact ⟨i, a, .inl b, c⟩
  | none =>
    rw [q] at e
    obtain ⟨i, a, b, c⟩ := tupW_sq S (show HL.tupW h x = some xs by simpa using e)
    exact ⟨i, a, .inr b, c⟩
theorem wf_get {n i : Nat} {xs : List W} {v : W} (w : wfs n xs) (e : xs[i]? = some v) : wf n v := w v (List.mem_of_getElem? e)
end
/-! ### the judgements -/
theorem PE.imp {X : Cx} {e : Expr} {t t' : TE} (h : PE X e t) (i : ∀ σ H Q, t' σ H Q → t σ H Q) : PE X e t' := fun pins s σ H Q I hw => h pins s σ H Q I (i _ _ _ hw)
theorem PT.imp {X : Cx} {e : Expr} {t t' : TT} (h : PT X e t) (i : ∀ σ H Q, t' σ H Q → t σ H Q) : PT X e t' := fun pins s σ H Q I hw => h pins s σ H Q I (i _ _ _ hw)
theorem PW.imp {X : Cx} {e : Expr} {t t' : TT} (h : PW X e t) (i : ∀ σ H Q, t' σ H Q → t σ H Q) : PW X e t' := fun w pins s σ H Q I hw => h w pins s σ H Q I (i _ _ _ hw)
theorem PA.imp {X : Cx} {e : List Expr} {t t' : TA} (h : PA X e t) (i : ∀ σ H Q, t' σ H Q → t σ H Q) : PA X e t' := fun pos pins s σ H Q I hw => h pos pins s σ H Q I (i _ _ _ hw)
theorem PO.imp {X : Cx} {e : Option Expr} {t t' : TO} (h : PO X e t) (i : ∀ σ H Q, t' σ H Q → t σ H Q) : PO X e t' := fun pins s σ H Q I hw => h pins s σ H Q I (i _ _ _ hw)
theorem PS.imp {X : Cx} {e : Stmt} {t t' : TS} (h : PS X e t) (i : ∀ D σ H, t' D σ H → t D σ H) : PS X e t' := fun pins s σ H D I hw => h pins s σ H D I (i _ _ _ hw)
theorem PSs.imp {X : Cx} {e : List Stmt} {t t' : TS} (h : PSs X e t) (i : ∀ D σ H, t' D σ H → t D σ H) : PSs X e t' := fun pins s σ H D I hw => h pins s σ H D I (i _ _ _ hw)
abbrev QE (γ : Str → Addr) (X : Cx) (e : Expr) (d : DE) : Prop := PE X e (eE X.K γ d)
abbrev QT (γ : Str → Addr) (X : Cx) (e : Expr) (d : DT) : Prop := PT X e (eT X.K γ d)
abbrev QW (γ : Str → Addr) (X : Cx) (e : Expr) (d : DT) : Prop := PW X e (eT X.K γ d)
abbrev QA (γ : Str → Addr) (X : Cx) (e : List Expr) (d : DA) : Prop := PA X e (eA X.K γ d)
abbrev QO (γ : Str → Addr) (X : Cx) (e : Option Expr) (d : HL.DO) : Prop := PO X e (eO X.K γ d)
abbrev QS (γ : Str → Addr) (X : Cx) (e : Stmt) (d : DS) : Prop := PS X e (eS X.K γ d)
abbrev QSs (γ : Str → Addr) (X : Cx) (e : List Stmt) (d : DS) : Prop := PSs X e (eS X.K γ d)
section
variable {X : Cx} {γ : Str → Addr} {a b c e : Expr} {da db dc de : DE} {pos : Pos}
theorem q_var {i : Nat} {x : Str} (hN : X.N[i]? = some x) (hv : Vis X.env.scope x) (hd : (x == ("__debug__" : Str)) = false := by decide) (hcd : (x == ("__classdict__" : Str)) = false := by decide) : QE γ X (.Name x pos) (HL.dVar i) :=
  (pe_var hN hv hd hcd).imp fun σ H Q ⟨ρ, s, h, S, x⟩ => by
    unfold HL.dVar at x
    split at x
    · rename_i v e
      refine ⟨renW γ ρ v, ?_, x ρ H (Nxt.refl _ _) S.hp (S.ws v (List.mem_of_getElem? e))⟩
      rw [S.eq]
      unfold renS
      rw [List.getElem?_map, e]
      rfl
    · exact x.elim
theorem q_c {v : W} {e : Expr} (w : ∀ n, wf n v) (r : ∀ ρ, PE X e (tC (renW γ ρ v))) : QE γ X e (HL.dC v) := fun pins s σ H Q I ⟨ρ, t, h, S, x⟩ => r ρ pins s σ H Q I (x ρ H (Nxt.refl _ _) S.hp (w _))
theorem q_int {i j pos} : QE γ X (.Constant (.int i) j pos) (HL.dC (.int i)) := q_c (fun _ => trivial) fun _ => pe_int
theorem q_bl {i j pos} : QE γ X (.Constant (.bool i) j pos) (HL.dC (.bl i)) := q_c (fun _ => trivial) fun _ => pe_bl
theorem q_non {j pos} : QE γ X (.Constant .none j pos) (HL.dC .non) := q_c (fun _ => trivial) fun _ => pe_non
theorem q_ty {x : Str} {n : String} (hg : Gl X x) (hm : X.mg x = none) (hv : bootBuiltins x = some (.type n)) (hn : x ≠ "__name__" := by decide) (hd : (x == ("__debug__" : Str)) = false := by decide) : QE γ X (.Name x pos) (HL.dC (.ty n)) := q_c (fun _ => trivial) fun _ => pe_bltn hg hm hv rfl hn hd
def OpS (K : PySem.W.Frag) (γ : Str → Addr) (r : R2) (f : HL.O2) : Prop := ∀ ρ h H x y Q, SimH K γ ρ h H → wf h.length x → wf h.length y → OrQ K γ ρ h H (f x y h) Q → r (renW γ ρ x) (renW γ ρ y) H Q
def NewOk2 (f : HL.O2) : Prop := ∀ x y h, newOk (f x y h) = true
theorem op2_of {r : R2} {f : HL.O2} (hs : OpS X.K γ r f) (nw : NewOk2 f) (σ : St) (H : Hp) (Q : VK) (x : eE X.K γ (HL.dOp f da db) σ H Q) : tOp r (eE X.K γ da) (eE X.K γ db) σ H Q := by
  obtain ⟨ρ, s, h, S, x⟩ := x
  refine ⟨ρ, s, h, S, GoodR.bind x fun v h1 ρ1 H1 _ n1 S1 w1 x1 => ?_⟩
  refine ⟨ρ1, s, h1, S.next n1 S1, GoodR.bind x1 fun u h2 ρ2 H2 _ n2 S2 w2 x2 => ?_⟩
  rw [ren_ag w1 n2.ag]
  exact hs ρ2 h2 H2 v u Q S2 (w1.mono n2.le) w2 (fin_q S2 (nw _ _ _) x2)
theorem q_op {op : Operator} {r : R2} {f : HL.O2} (ho : OpR X (binaryOp op) r) (hs : OpS X.K γ r f) (nw : NewOk2 f) (ha : QE γ X a da) (hb : QE γ X b db) : QE γ X (.BinOp a op b pos) (HL.dOp f da db) :=
  (pe_op ho ha hb).imp (op2_of hs nw)
theorem q_cmp {op : CmpOp} {r : R2} {f : HL.O2} (ho : OpR X (compareOp op) r) (hs : OpS X.K γ r f) (nw : NewOk2 f) (ha : QE γ X a da) (hb : QE γ X b db) (hm : behindInMarks op b = false) : QE γ X (.Compare a [op] [b] pos) (HL.dOp f da db) :=
  (pe_cmpR ho ha hb hm).imp (op2_of hs nw)
theorem q_ix {r : R2} {f : HL.O2} (ho : IxR X r) (hs : OpS X.K γ r f) (nw : NewOk2 f) (ha : QE γ X a da) (hb : QE γ X b db) (hp : PlainIx b) : QE γ X (.Subscript a b pos) (HL.dOp f da db) :=
  (pe_ix ho ha hb hp).imp (op2_of hs nw)
/-! arguments -/
theorem qa_nil : QA γ X [] HL.dNil := pa_nil.imp fun σ H Q ⟨ρ, s, h, S, x⟩ => x ρ H (Nxt.refl _ _) S.hp fun _ z => by cases z
theorem qa_cons {es : List Expr} {d : DA} (ha : QE γ X e de) (hr : QA γ X es d) (hs : starEach (e :: es) X.env = (false, eval e X.env) :: starEach es X.env := by rfl) : QA γ X (e :: es) (HL.dCons de d) :=
  (pa_cons ha hr hs).imp fun σ H Q x => by
    obtain ⟨ρ, s, h, S, x⟩ := x
    refine ⟨ρ, s, h, S, GoodR.bind x fun v h1 ρ1 H1 _ n1 S1 w1 x1 => ?_⟩
    refine ⟨ρ1, s, h1, S.next n1 S1, GoodR.bind x1 fun us h2 ρ2 H2 _ n2 S2 w2 x2 => ?_⟩
    rw [ren_ag w1 n2.ag]
    exact x2 ρ2 H2 (Nxt.refl _ _) S2 fun y hy => by
      rcases List.mem_cons.mp hy with rfl | hy
      · exact w1.mono n2.le
      · exact w2 y hy
def CbS (K : PySem.W.Frag) (γ : Str → Addr) (r : List V → Hp → VK → Prop) (f : List W → Sh → OR) : Prop := ∀ ρ h H xs Q, SimH K γ ρ h H → wfs h.length xs → OrQ K γ ρ h H (f xs h) Q → r (xs.map (renW γ ρ)) H Q
theorem cb_of {r : List V → Hp → VK → Prop} {f : List W → Sh → OR} {d : DA} (hs : CbS X.K γ r f) (nw : ∀ x h, newOk (f x h) = true) (σ : St) (H : Hp) (Q : VK) (x : eE X.K γ (HL.dB f d) σ H Q) : tCB r (eA X.K γ d) σ H Q := by
  obtain ⟨ρ, s, h, S, x⟩ := x
  refine ⟨ρ, s, h, S, GoodR.bind x fun v h1 ρ1 H1 _ n1 S1 w1 x1 => ?_⟩
  exact hs ρ1 h1 H1 v Q S1 w1 (fin_q S1 (nw _ _) x1)
theorem q_callB {x : Str} {id : String} {p : Pos} {es : List Expr} {d : DA} {r : List V → Hp → VK → Prop} {f : List W → Sh → OR} (hc : CallR X (.builtin id) r) (hs : CbS X.K γ r f) (nw : ∀ x h, newOk (f x h) = true) (hg : Gl X x) (hm : X.mg x = none) (hv : bootBuiltins x = some (.builtin id)) (ha : QA γ X (e :: es) d)
    (hn : x ≠ "__name__" := by decide) (hdb : (x == ("__debug__" : Str)) = false := by decide) (he : starEach (e :: es) X.env = (false, eval e X.env) :: starEach es X.env := by rfl) (hpl : (backTo pos (starEach es X.env)).any (·.1) = false := by rfl) :
    QE γ X (.Call (.Name x p) (e :: es) [] pos) (HL.dB f d) := (pe_callB hc hg hm hv ha hn hdb he hpl).imp (cb_of hs nw)
theorem q_callTy {x : Str} {T : String} {p : Pos} {es : List Expr} {d : DA} {r : List V → Hp → VK → Prop} {f : List W → Sh → OR} (hc : CallR X (.type T) r) (hs : CbS X.K γ r f) (nw : ∀ x h, newOk (f x h) = true) (hg : Gl X x) (hm : X.mg x = none) (hv : bootBuiltins x = some (.type T)) (ha : QA γ X (e :: es) d)
    (hn : x ≠ "__name__" := by decide) (hdb : (x == ("__debug__" : Str)) = false := by decide) (he : starEach (e :: es) X.env = (false, eval e X.env) :: starEach es X.env := by rfl) (hpl : (backTo pos (starEach es X.env)).any (·.1) = false := by rfl) :
    QE γ X (.Call (.Name x p) (e :: es) [] pos) (HL.dB f d) := (pe_callTy hc hg hm hv ha hn hdb he hpl).imp (cb_of hs nw)
theorem lim_line {n : Nat} (h : n ≤ HL.LIM) : n ≤ sizeLine := by
  have : HL.LIM = 100000 := rfl
  rw [sizeLine_eq]; omega
theorem q_lst {es : List Expr} {d : DA} (ha : QA γ X es d) : QE γ X (.List es pos) (HL.dB HL.bLst d) :=
  (pe_lst ha).imp fun σ H Q x => by
    obtain ⟨ρ, s, h, S, x⟩ := x
    refine ⟨ρ, s, h, S, GoodR.bind x fun v h1 ρ1 H1 _ n1 S1 w1 x1 => ?_⟩
    unfold HL.bLst at x1
    split at x1
    · rename_i hl
      exact ⟨by rw [List.length_map]; exact lim_line hl, fin_q S1 rfl x1 w1⟩
    · exact x1.elim
theorem q_tup {x1} {es : List Expr} {d : DA} (ha : QA γ X es d) : QE γ X (.Tuple es x1 pos) (HL.dB HL.bTup d) :=
  (pe_tup ha).imp fun σ H Q x => by
    obtain ⟨ρ, s, h, S, x⟩ := x
    refine ⟨ρ, s, h, S, GoodR.bind x fun v h1 ρ1 H1 _ n1 S1 w1 x1 => ?_⟩
    unfold HL.bTup at x1
    split at x1
    · rename_i hl
      exact ⟨by rw [List.length_map]; exact lim_line hl, fin_q S1 rfl x1 w1⟩
    · exact x1.elim
/-! tests -/
def tTrv (K : PySem.W.Frag) (ta : TE) : TT := fun σ H Q => ta σ H fun x H' => ∃ k, TruV K x H' k ∧ Q k H'
theorem tru_of (σ : St) (H : Hp) (Q : Bool → Hp → Prop) (x : eT X.K γ (HL.dT da) σ H Q) : tTrv X.K (eE X.K γ da) σ H Q := by
  obtain ⟨ρ, s, h, S, x⟩ := x
  refine ⟨ρ, s, h, S, GoodR.bind x fun v h1 ρ1 H1 _ n1 S1 w1 x1 => ?_⟩
  have fin : ∀ b, HL.truW v h1 = some b → Q b H1 := fun b e => by
    simp only [e] at x1
    exact x1 ρ1 H1 (Nxt.refl _ _) S1 trivial
  cases v with
  | non => exact ⟨_, rfl, fin _ rfl⟩
  | bl b => exact ⟨_, rfl, fin _ rfl⟩
  | int i => exact ⟨_, rfl, fin _ rfl⟩
  | str y =>
    by_cases hl : y.length ≤ HL.LIM
    · exact ⟨_, ⟨lim_line hl, rfl⟩, fin _ (if_pos hl)⟩
    · simp only [HL.truW, if_neg hl] at x1
      exact x1.elim
  | ref i =>
    cases q : h1[i]? with
    | none => simp only [HL.truW, q] at x1; exact x1.elim
    | some o =>
      have ob := S1.ob i o q
      cases o with
      | lst xs => exact ⟨_, .inl ⟨_, SqL.of ob, rfl⟩, by have := fin (!xs.isEmpty) (by simp only [HL.truW, q]); simpa using this⟩
      | rol xs => exact ⟨_, .inl ⟨_, (show RoL _ _ _ _ from ob).sq, rfl⟩, by have := fin (!xs.isEmpty) (by simp only [HL.truW, q]); simpa using this⟩
      | tup xs => exact ⟨_, .inr (.inl ⟨_, ob, rfl⟩), by have := fin (!xs.isEmpty) (by simp only [HL.truW, q]); simpa using this⟩
      | ins c fs => simp only [HL.truW, q] at x1; exact x1.elim
      | exc c fs => simp only [HL.truW, q] at x1; exact x1.elim
  | ty n => exact x1.elim
  | gl n => exact x1.elim
theorem qt_e (ha : QE γ X a da) (he : ∀ whole, isTrue a X.env whole = (do let v ← whole; standAt a.pos; holding [v] (truthy v)) := by intro _; rfl) : QT γ X a (HL.dT da) := (pt_truth ha he).imp tru_of
theorem test_of {t : TE} (ht : ∀ σ H Q, eE X.K γ da σ H Q → t σ H Q) (σ : St) (H : Hp) (Q : Bool → Hp → Prop) (x : eT X.K γ (HL.dT da) σ H Q) (bo : ∀ s h v h', da s h = .ok v h' → ∃ k, v = .bl k) : tTest t σ H Q := by
  obtain ⟨ρ, s, h, S, x⟩ := x
  refine ht σ H _ ⟨ρ, s, h, S, GoodR.bind x fun v h1 ρ1 H1 e n1 S1 w1 x1 => ?_⟩
  obtain ⟨k, rfl⟩ := bo _ _ _ _ e
  exact ⟨k, rfl, x1 ρ1 H1 (Nxt.refl _ _) S1 trivial⟩
def Bo (f : HL.O2) : Prop := ∀ x y h, f x y h = .er ∨ ∃ k, f x y h = .val (.bl k)
theorem Bo.op {f : HL.O2} (b : Bo f) : ∀ s h v h', HL.dOp f da db s h = .ok v h' → ∃ k, v = .bl k := fun s h v h' e => by
  unfold HL.dOp HL.R.bind at e
  cases ea : da s h with
  | ok x h1 =>
    rw [ea] at e
    simp only at e
    cases eb : db s h1 with
    | ok y h2 =>
      rw [eb] at e
      simp only at e
      rcases b x y h2 with z | ⟨k, z⟩
      · rw [z] at e; cases e
      · rw [z] at e; cases e; exact ⟨k, rfl⟩
    | ex => rw [eb] at e; cases e
    | er => rw [eb] at e; cases e
  | ex => rw [ea] at e; cases e
  | er => rw [ea] at e; cases e
theorem qt_cmp {op : CmpOp} {r : R2} {f : HL.O2} (ho : OpR X (compareOp op) r) (hs : OpS X.K γ r f) (nw : NewOk2 f) (bo : Bo f) (ha : QE γ X a da) (hb : QE γ X b db) (hm : behindInMarks op b = false) : QT γ X (.Compare a [op] [b] pos) (HL.dT (HL.dOp f da db)) :=
  (pt_cmpR ho ha hb hm).imp fun σ H Q x => test_of (op2_of hs nw) σ H Q x bo.op
section
variable {dA dB : DT} {rest : List Expr}
theorem not_of (σ : St) (H : Hp) (Q : Bool → Hp → Prop) (x : eT X.K γ (HL.tNot dA) σ H Q) : tNot (eT X.K γ dA) σ H Q := by
  obtain ⟨ρ, s, h, S, x⟩ := x
  exact ⟨ρ, s, h, S, GoodR.bind x fun k h1 ρ1 H1 _ n1 S1 w1 x1 => x1 ρ1 H1 (Nxt.refl _ _) S1 trivial⟩
theorem qt_not (ha : QT γ X a dA) : QT γ X (.UnaryOp .Not a pos) (HL.tNot dA) := (pt_not ha).imp not_of
theorem and_of (σ : St) (H : Hp) (Q : Bool → Hp → Prop) (x : eT X.K γ (HL.tAnd dA dB) σ H Q) : tAnd (eT X.K γ dA) (eT X.K γ dB) σ H Q := by
  obtain ⟨ρ, s, h, S, x⟩ := x
  refine ⟨ρ, s, h, S, GoodR.bind x fun k h1 ρ1 H1 _ n1 S1 w1 x1 => ?_⟩
  cases k with
  | true => exact ⟨ρ1, s, h1, S.next n1 S1, x1⟩
  | false => exact x1 ρ1 H1 (Nxt.refl _ _) S1 trivial
theorem or_of (σ : St) (H : Hp) (Q : Bool → Hp → Prop) (x : eT X.K γ (HL.tOr dA dB) σ H Q) : tOr (eT X.K γ dA) (eT X.K γ dB) σ H Q := by
  obtain ⟨ρ, s, h, S, x⟩ := x
  refine ⟨ρ, s, h, S, GoodR.bind x fun k h1 ρ1 H1 _ n1 S1 w1 x1 => ?_⟩
  cases k with
  | false => exact ⟨ρ1, s, h1, S.next n1 S1, x1⟩
  | true => exact x1 ρ1 H1 (Nxt.refl _ _) S1 trivial
theorem qw_and1 (ha : QT γ X a dA) : QW γ X (.BoolOp .And [a] pos) dA := pw_and1 ha
theorem qw_or1 (ha : QT γ X a dA) : QW γ X (.BoolOp .Or [a] pos) dA := pw_or1 ha
theorem qw_and (ha : QT γ X a dA) (hb : QW γ X (.BoolOp .And (b :: rest) pos) dB) : QW γ X (.BoolOp .And (a :: b :: rest) pos) (HL.tAnd dA dB) := (pw_and ha hb).imp and_of
theorem qw_or (ha : QT γ X a dA) (hb : QW γ X (.BoolOp .Or (b :: rest) pos) dB) : QW γ X (.BoolOp .Or (a :: b :: rest) pos) (HL.tOr dA dB) := (pw_or ha hb).imp or_of
theorem qt_w (h : QW γ X a dA) : QT γ X a dA := h _
theorem q_one {op} (h : QE γ X a da) : QE γ X (.BoolOp op [a] pos) da := pe_one h
theorem q_and (ha : QE γ X a da) (hb : QE γ X (.BoolOp .And (b :: rest) pos) db) : QE γ X (.BoolOp .And (a :: b :: rest) pos) (HL.dAnd da db) := (pe_and ha hb).imp fun σ H Q x => by
  obtain ⟨ρ, s, h, S, x⟩ := x
  refine ⟨ρ, s, h, S, GoodR.bind x fun v h1 ρ1 H1 _ n1 S1 w1 x1 => ?_⟩
  cases v with
  | bl k =>
    refine ⟨k, rfl, ?_⟩
    cases k with
    | true => exact ⟨ρ1, s, h1, S.next n1 S1, x1⟩
    | false => exact x1 ρ1 H1 (Nxt.refl _ _) S1 trivial
  | _ => exact x1.elim
theorem q_not (ha : QE γ X a da) : QE γ X (.UnaryOp .Not a pos) (HL.dNot da) := (pe_not ha).imp fun σ H Q x => by
  obtain ⟨ρ, s, h, S, x⟩ := x
  refine ⟨ρ, s, h, S, GoodR.bind x fun v h1 ρ1 H1 _ n1 S1 w1 x1 => ?_⟩
  cases v with
  | bl k => exact ⟨k, rfl, x1 ρ1 H1 (Nxt.refl _ _) S1 trivial⟩
  | _ => exact x1.elim
theorem q_if (hc : QT γ X c dA) (ha : QE γ X a da) (hb : QE γ X b db) : QE γ X (.IfExp c a b pos) (HL.dIf dA da db) := (pe_ifExp hc ha hb).imp fun σ H Q x => by
  obtain ⟨ρ, s, h, S, x⟩ := x
  refine ⟨ρ, s, h, S, GoodR.bind x fun k h1 ρ1 H1 _ n1 S1 w1 x1 => ?_⟩
  cases k with
  | true => exact ⟨ρ1, s, h1, S.next n1 S1, x1⟩
  | false => exact ⟨ρ1, s, h1, S.next n1 S1, x1⟩
end
/-! chains -/
theorem chain_of {r r' : R2} {f g : HL.O2} (hs : OpS X.K γ r f) (nw : NewOk2 f) (bo : Bo f) (hs' : OpS X.K γ r' g) (nw' : NewOk2 g) (σ : St) (H : Hp) (Q : VK) (x : eE X.K γ (HL.dChain f g da db dc) σ H Q) : tChain r r' (eE X.K γ da) (eE X.K γ db) (eE X.K γ dc) σ H Q := by
  obtain ⟨ρ, s, h, S, x⟩ := x
  refine ⟨ρ, s, h, S, GoodR.bind x fun v h1 ρ1 H1 _ n1 S1 w1 x1 => ?_⟩
  refine ⟨ρ1, s, h1, S.next n1 S1, GoodR.bind x1 fun u h2 ρ2 H2 _ n2 S2 w2 x2 => ?_⟩
  have T2 := (S.next n1 S1).next n2 S2
  rw [ren_ag w1 n2.ag]
  refine hs ρ2 h2 H2 v u _ S2 (w1.mono n2.le) w2 ?_
  rcases bo v u h2 with z | ⟨k, z⟩
  · rw [z] at x2; exact x2.elim
  · rw [z] at x2 ⊢
    intro _
    refine ⟨k, rfl, ?_⟩
    cases k with
    | false => exact x2 ρ2 H2 (Nxt.refl _ _) S2 trivial
    | true =>
      have x2' : GoodV X.K γ ρ2 h2 ((dc s h2).bind fun w h => (g u w h).fin h) Q := x2
      refine ⟨ρ2, s, h2, T2, GoodR.bind x2' fun t h3 ρ3 H3 _ n3 S3 w3 x3 => ?_⟩
      rw [ren_ag w2 n3.ag]
      exact hs' ρ3 h3 H3 u t Q S3 (w2.mono n3.le) w3 (fin_q S3 (nw' _ _ _) x3)
theorem q_chain {op op' : CmpOp} {r r' : R2} {f g : HL.O2} (ho : OpR X (compareOp op) r) (hs : OpS X.K γ r f) (nw : NewOk2 f) (bo : Bo f) (ho' : OpR X (compareOp op') r') (hs' : OpS X.K γ r' g) (nw' : NewOk2 g) (ha : QE γ X a da) (hb : QE γ X b db) (hc : QE γ X c dc)
    (hm : lastMarks [op, op'] [b, c] = false := by with_unfolding_all rfl) : QE γ X (.Compare a [op, op'] [b, c] pos) (HL.dChain f g da db dc) := (pe_chain ho ho' ha hb hc hm).imp (chain_of hs nw bo hs' nw')
/-! slices -/
end
end L2


set_option Elab.async false
set_option linter.all false
set_option maxRecDepth 100000
set_option maxHeartbeats 4000000
namespace L2
open PySem PySem.Spec PyProof.Rows
open HL (W SO Sh Sg OR DE DT DA DS Fn)
/-! ### calls -/
def spF (K : PySem.W.Frag) (γ : Str → Addr) (p : Nat) (f : Fn) : Sp := fun vs H Q _ => vs.length = p ∧ ∃ ρ h us, SimH K γ ρ h H ∧ wfs h.length us ∧ vs = us.map (renW γ ρ) ∧ GoodV K γ ρ h (f us h) Q
section
variable {X : Cx} {γ : Str → Addr} {a b c e : Expr} {da db dc de : DE} {pos : Pos}
theorem call_of {f : Fn} {p : Nat} {d : DA} (hp : ∀ us h v h', f us h = .ok v h' → us.length = p) (σ : St) (H : Hp) (Q : VK) (x : eE X.K γ (HL.dCall f d) σ H Q) : tCall (spF X.K γ p f) [] E0 (eA X.K γ d) σ H Q := by
  obtain ⟨ρ, s, h, S, x⟩ := x
  refine ⟨ρ, s, h, S, GoodR.bind x fun us h1 ρ1 H1 _ n1 S1 w1 x1 => ?_⟩
  rw [List.append_nil]
  refine ⟨?_, ρ1, h1, us, S1, w1, rfl, x1⟩
  rw [List.length_map]
  cases q : f us h1 with
  | ok v h' => exact hp _ _ _ _ q
  | ex => rw [q] at x1; exact x1.elim
  | er => rw [q] at x1; exact x1.elim
theorem fnOf_len {p n : Nat} {b : DS} {us : List W} {h : Sh} {v : W} {h' : Sh} (e : HL.fnOf p n b us h = .ok v h') : us.length = p := by
  unfold HL.fnOf at e
  split at e
  · assumption
  · cases e
theorem q_call {x : Str} {k p n : Nat} {bd : DS} {ps : List Str} {pp : Pos} {es : List Expr} {d : DA} (D : Def X.prog X.w X.K X.mg X.base k x ps (spF X.K γ p (HL.fnOf p n bd))) (hr : Room k X.A) (hg : Gl X x) (ha : QA γ X (e :: es) d) (hdb : (x == ("__debug__" : Str)) = false := by decide)
    (he : starEach (e :: es) X.env = (false, eval e X.env) :: starEach es X.env := by rfl) (hpl : (backTo pos (starEach es X.env)).any (·.1) = false := by rfl) : QE γ X (.Call (.Name x pp) (e :: es) [] pos) (HL.dCall (HL.fnOf p n bd) d) :=
  (pe_def D hr hg ha hdb he hpl).imp (call_of fun _ _ _ _ => fnOf_len)
/-! ### statements -/
theorem qs_nil : QSs γ X [] HL.sNx := pss_nil.imp fun D σ H ⟨ρ, s, h, S, x⟩ => by rw [S.eq]; exact x ρ H (Nxt.refl _ _) S.hp S.ws
theorem seq_of' {d1 d2 : DS} (D : Ends) (σ : St) (H : Hp) (x : eS X.K γ (HL.sSeq d1 d2) D σ H) : tSeq (eS X.K γ d1) (eS X.K γ d2) D σ H := by
  obtain ⟨ρ, s, h, S, x⟩ := x
  refine ⟨ρ, s, h, S, ?_⟩
  unfold HL.sSeq at x
  cases q : d1 s h with
  | nx s1 h1 =>
    rw [q] at x
    exact fun ρ1 H1 n1 S1 w1 => ⟨ρ1, s1, h1, ⟨S1, w1, rfl⟩, GoodC.later x n1⟩
  | rt v h1 => rw [q] at x; exact x
  | bk s1 h1 => rw [q] at x; exact x
  | ct s1 h1 => rw [q] at x; exact x
  | ex => rw [q] at x; exact x.elim
  | er => rw [q] at x; exact x.elim
theorem qs_cons {st : Stmt} {rest : List Stmt} {d1 d2 : DS} (h1 : QS γ X st d1) (h2 : QSs γ X rest d2) : QSs γ X (st :: rest) (HL.sSeq d1 d2) := (pss_cons h1 h2).imp seq_of'
theorem qs_one {st : Stmt} {d1 : DS} (h1 : QS γ X st d1) : QSs γ X [st] d1 := pss_one h1
theorem qs_never {st : Stmt} : QS γ X st HL.sNever := ps_never.imp fun D σ H ⟨ρ, s, h, S, x⟩ => x.elim
theorem qs_ret (he : QE γ X e de) : QS γ X (.Return (some e) pos) (HL.sRet de) := (ps_ret he).imp fun D σ H ⟨ρ, s, h, S, x⟩ => by
  refine ⟨ρ, s, h, S, ?_⟩
  unfold HL.sRet at x
  cases q : de s h with
  | ok v h1 => rw [q] at x; exact x
  | ex => rw [q] at x; exact x.elim
  | er => rw [q] at x; exact x.elim
theorem qs_expr (he : QE γ X e de) (hs : swapsWith e none pos.line X.env = pure false := by rfl) : QS γ X (.Expr e pos) (HL.sDrop de) := (ps_expr he hs).imp fun D σ H ⟨ρ, s, h, S, x⟩ => by
  refine ⟨ρ, s, h, S, ?_⟩
  unfold HL.sDrop at x
  cases q : de s h with
  | ok v h1 =>
    rw [q] at x
    intro ρ1 H1 n1 S1 w1
    have z := x ρ1 H1 n1 S1 (S.ws.mono n1.le)
    rw [(S.next n1 S1).eq]; exact z
  | ex => rw [q] at x; exact x.elim
  | er => rw [q] at x; exact x.elim
theorem wf_set {n i : Nat} {s : Sg} {v : W} (w : wfS n s) (wv : wf n v) : wfS n (s.set i (some v)) := fun y hy => by
  rcases List.mem_or_eq_of_mem_set hy with z | z
  · exact w y z
  · cases z; exact wv
theorem renS_set {ρ : Nat → Addr} {i : Nat} {s : Sg} {v : W} : renS γ ρ (s.set i (some v)) = (renS γ ρ s).set i (some (renW γ ρ v)) := by
  unfold renS
  rw [List.map_set]
  rfl
theorem qs_set {i : Nat} {x : Str} {pos' : Pos} (hN : X.N.Nodup) (hi : X.N[i]? = some x) (hx : Loc X.env.scope x) (he : QE γ X e de) (hs : swapsWith e (some (.Name x pos')) pos.line X.env = pure false := by rfl) (hf : X.fn x = true ∨ X.env.scope.names.lookup x = some .local := by first | exact .inl rfl | exact .inr rfl | assumption) :
    QS γ X (.Assign [.Name x pos'] e pos) (HL.sSet i de) := (ps_set hN hi hx he hs hf).imp fun D σ H ⟨ρ, s, h, S, x⟩ => by
  refine ⟨ρ, s, h, S, ?_⟩
  unfold HL.sSet at x
  cases q : de s h with
  | ok v h1 =>
    rw [q] at x
    intro ρ1 H1 n1 S1 w1
    have z := x ρ1 H1 n1 S1 (wf_set (S.ws.mono n1.le) w1)
    rw [renS_set, ← (S.next n1 S1).eq] at z
    exact z
  | ex => rw [q] at x; exact x.elim
  | er => rw [q] at x; exact x.elim
theorem qs_if {dc : DT} {d1 d2 : DS} {s1 s2 : List Stmt} (hc : QT γ X c dc) (ha : QSs γ X s1 d1) (hb : QSs γ X s2 d2) : QS γ X (.If c s1 s2 pos) (HL.sIf dc d1 d2) := (ps_if hc ha hb).imp fun D σ H ⟨ρ, s, h, S, x⟩ => by
  refine ⟨ρ, s, h, S, ?_⟩
  unfold HL.sIf at x
  cases q : dc s h with
  | ok k h1 =>
    rw [q] at x
    intro ρ1 H1 n1 S1 w1
    cases k with
    | true => exact ⟨ρ1, s, h1, S.next n1 S1, GoodC.later x n1⟩
    | false => exact ⟨ρ1, s, h1, S.next n1 S1, GoodC.later x n1⟩
  | ex => rw [q] at x; exact x.elim
  | er => rw [q] at x; exact x.elim
theorem ix_eq (n : Nat) (i : Int) : HL.ixW n i = ixN n i := rfl
theorem qs_sub {o i : Expr} {d1 d2 : DE} {p2 : Pos} (he : QE γ X e de) (ho : QE γ X o d1) (hi : QE γ X i d2)
    (ha : ∀ v, assign (.Subscript o i p2) X.env v = (do
      let ov ← holding [v] (eval o X.env)
      let iv ← holding [v, ov] (eval i X.env)
      standAt p2
      holding [v, ov, iv] (setItem ov iv v)
      release [v, ov, iv] []) := by intro _; rfl)
    (hs : swapsWithSole [.Subscript o i p2] e pos.line X.env = pure false := by rfl) (hw : swappedStores [.Subscript o i p2] e X.env = pure none := by rfl)
    (h1 : (assignEach [.Subscript o i p2] X.env).map (·.2) = [assign (.Subscript o i p2) X.env] := by rfl) : QS γ X (.Assign [.Subscript o i p2] e pos) (HL.sSub d1 d2 de) :=
  (ps_asg he (pg_sub ho hi set_list ha) hs hw h1).imp fun D σ H ⟨ρ, s, h, S, x⟩ => by
  unfold HL.sSub at x
  refine ⟨ρ, s, h, S, ?_⟩
  cases q : de s h with
  | ok v h1 =>
    rw [q] at x
    intro ρ1 H1 n1 S1 w1
    have T1 := S.next n1 S1
    refine ⟨ρ1, s, h1, T1, ?_⟩
    simp only [HL.R.bind] at x
    cases q2 : d1 s h1 with
    | ok xo h2 =>
      rw [q2] at x
      intro ρ2 H2 n2 S2 w2
      have T2 := T1.next n2 S2
      refine ⟨ρ2, s, h2, T2, ?_⟩
      simp only at x
      cases q3 : d2 s h2 with
      | ok y h3 =>
        rw [q3] at x
        intro ρ3 H3 n3 S3 w3
        have T3 := T2.next n3 S3
        simp only at x
        cases xo with
        | ref pp =>
          cases y with
          | int k =>
            simp only at x
            cases q4 : h3[pp]? with
            | none => rw [q4] at x; exact x.elim
            | some ob =>
              rw [q4] at x
              cases ob with
              | lst xs =>
                simp only at x
                cases q5 : HL.ixW xs.length k with
                | none => rw [q5] at x; exact x.elim
                | some j =>
                  rw [q5] at x
                  have ob := S3.ob pp _ q4
                  have wv := (w1.mono n2.le).mono n3.le
                  refine ⟨ρ2 pp, xs.map (renW γ ρ3), k, j, rfl, rfl, ?_, by rw [List.length_map]; exact q5, ?_⟩
                  · rw [n3.ag pp w2]; exact ob
                  · have S4 : SimH X.K γ ρ3 (h3.set pp (.lst (xs.set j v))) (upd H3 (ρ3 pp) (.lst ((xs.set j v).map (renW γ ρ3)))) := S3.chg q4 rfl rfl (by
                      intro y hy
                      rcases List.mem_or_eq_of_mem_set hy with z | z
                      · exact S3.wf pp _ q4 y z
                      · cases z; exact wv) upd_same
                    have z := x ρ3 _ (((n1.trans n2).trans n3).trans (Nxt.chg _ _ _ _)) S4 (by rw [List.length_set]; exact T3.ws)
                    rw [← T3.eq] at z
                    rw [n3.ag pp w2, ren_ag w1 (n2.trans n3).ag, ← List.map_set]
                    exact z
              | _ => exact x.elim
          | _ => exact x.elim
        | _ => exact x.elim
      | ex => rw [q3] at x; exact x.elim
      | er => rw [q3] at x; exact x.elim
    | ex => rw [q2] at x; exact x.elim
    | er => rw [q2] at x; exact x.elim
  | ex => rw [q] at x; exact x.elim
  | er => rw [q] at x; exact x.elim
/-! ### targets -/
def eG (K : PySem.W.Frag) (γ : Str → Addr) (d : HL.DG) : TG := fun v σ H Q => ∃ ρ s h w, Sim K γ ρ s h σ H ∧ v = renW γ ρ w ∧ wf h.length w ∧ ∃ s', d w s h = some s' ∧ (wfS h.length s' → Q (renS γ ρ s') H)
abbrev QG (γ : Str → Addr) (X : Cx) (e : Expr) (d : HL.DG) : Prop := PG X e (eG X.K γ d)
theorem PG.imp {X : Cx} {e : Expr} {t t' : TG} (h : PG X e t) (i : ∀ v σ H Q, t' v σ H Q → t v σ H Q) : PG X e t' := fun pins s σ H v u Q I r hw => h pins s σ H v u Q I r (i _ _ _ _ hw)
theorem qg_name {i : Nat} {x : Str} (hN : X.N.Nodup) (hi : X.N[i]? = some x) (hx : Loc X.env.scope x) (hf : X.fn x = true ∨ X.env.scope.names.lookup x = some .local := by first | exact .inl rfl | exact .inr rfl | assumption) : QG γ X (.Name x pos) (HL.gName i) :=
  (pg_name hN hi hx hf).imp fun v σ H Q ⟨ρ, s, h, w, S, e, ww, s', e', q⟩ => by
    cases e'
    have z := q (wf_set S.ws ww)
    rw [renS_set, ← S.eq, ← e] at z
    exact z
/-! ### loops -/
def iSq (K : PySem.W.Frag) (tl : TE) : TI := fun σ H R => tl σ H fun x H1 => ∃ a, x = .ref a ∧ ((∃ xs, SqL K H1 a xs) ∧ R (Itl K a) H1 ∨ (∃ xs, SqT K H1 a xs) ∧ R (Itt K a) H1)
theorem pi_sq {tg l : Expr} {tl : TE} (hl : PE X l tl) : PI X tg l (iSq X.K tl) := by
  intro pins s σ H R I h
  refine thn (hl pins s σ H _ I h) fun v s1 ⟨x, H1, I1, r1, q1⟩ => ?_
  obtain ⟨a, e, q⟩ := q1
  subst e
  cases r1
  rcases q with ⟨⟨xs, hq⟩, q⟩ | ⟨⟨xs, hq⟩, q⟩
  · obtain ⟨its, rv, p, hz⟩ := I1.list hq
    refine wpAny_pyIter_list p.isList ?_
    refine ⟨s1.heap.objs.size, [s1.heap.objs.size], _, _, H1, rfl, I1.kept (t' := s1.toks) fun b o e => Heap.get?_push_of_some _ e, turn_list a _, ⟨_, Heap.get?_push_size _ rfl, rfl, rfl⟩, fun b hb => ?_, q⟩
    have e : b = s1.heap.objs.size := by simpa using hb
    subst e
    exact I1.fpOk (Nat.le_refl _) (I1.hok.fresh (Nat.le_refl _))
  · obtain ⟨its, rv, p, hz⟩ := I1.tuple hq
    refine wpAny_pyIter_tuple (show s1.heap.IsTuple a its.toArray from p) ?_
    refine ⟨s1.heap.objs.size, [s1.heap.objs.size], _, _, H1, rfl, I1.kept (t' := s1.toks) fun b o e => Heap.get?_push_of_some _ e, turn_tuple a _, ⟨_, Heap.get?_push_size _ rfl, rfl, rfl⟩, fun b hb => ?_, q⟩
    have e : b = s1.heap.objs.size := by simpa using hb
    subst e
    exact I1.fpOk (Nat.le_refl _) (I1.hok.fresh (Nat.le_refl _))
def Wlk (K : PySem.W.Frag) (γ : Str → Addr) (J : It) (t : HL.It) (h₀ : Sh) (ρ₀ : Nat → Addr) : Prop := wfs h₀.length t.items ∧ ∀ ρ h H, Nxt h₀ ρ₀ h ρ → SimH K γ ρ h H → t.stays h → ∀ i : Nat,
  (t.items.length ≤ i → J.stop i H) ∧ ∀ x, t.items[i]? = some x → J.go i H ∧ ∀ v H', J.yld i H v H' → H' = H ∧ v = renW γ ρ x
def eI (K : PySem.W.Frag) (γ : Str → Addr) (d : HL.DI) : TI := fun σ H R => ∃ ρ s h, Sim K γ ρ s h σ H ∧ (match d s h with
  | .ok t h1 => ∀ ρ1 H1 J, Nxt h ρ h1 ρ1 → SimH K γ ρ1 h1 H1 → t.stays h1 → Wlk K γ J t h1 ρ1 → R J H1
  | _ => False)
abbrev QI (γ : Str → Addr) (X : Cx) (tg e : Expr) (d : HL.DI) : Prop := PI X tg e (eI X.K γ d)
theorem PI.imp {X : Cx} {tg e : Expr} {t t' : TI} (h : PI X tg e t) (i : ∀ σ H Q, t' σ H Q → t σ H Q) : PI X tg e t' := fun pins s σ H R I hw => h pins s σ H R I (i _ _ _ hw)
theorem qi_seq {tg : Expr} (ha : QE γ X a da) : QI γ X tg a (HL.iSeq da) := (pi_sq ha).imp fun σ H R ⟨ρ, s, h, S, x⟩ => by
  refine ⟨ρ, s, h, S, ?_⟩
  unfold HL.iSeq at x
  cases q : da s h with
  | ok v h1 =>
    rw [q] at x
    simp only [HL.R.bind] at x
    intro ρ1 H1 n1 S1 w1
    cases v with
    | ref i =>
      simp only at x
      refine ⟨ρ1 i, rfl, ?_⟩
      cases q3 : HL.lstW h1 (.ref i) with
      | some xs =>
        rw [q3] at x
        obtain ⟨j, e, sq, w⟩ := lstW_sq S1 q3
        cases e
        refine .inl ⟨⟨_, sq⟩, x ρ1 H1 _ n1 S1 q3 ⟨w, fun ρ2 h2 H2 n2 S2 st k => ?_⟩⟩
        obtain ⟨j, e, sq2, w2⟩ := lstW_sq S2 (show HL.lstW h2 (.ref i) = some xs from st)
        cases e
        rw [← n2.ag i w1] at sq2
        refine ⟨fun le => ⟨_, sq2, by rw [List.length_map]; exact le⟩, fun y hy => ?_⟩
        have e2 : (xs.map (renW γ ρ2))[k]? = some (renW γ ρ2 y) := by rw [List.getElem?_map, show xs[k]? = some y from hy]; rfl
        exact ⟨⟨_, _, sq2, e2⟩, fun v H' ⟨e, u⟩ => ⟨e, (Option.some.inj ((u _ sq2).symm.trans e2))⟩⟩
      | none =>
        rw [q3] at x
        simp only at x
        cases q4 : HL.tupW h1 (.ref i) with
        | none => rw [q4] at x; exact x.elim
        | some xs =>
          rw [q4] at x
          obtain ⟨j, e, sq, w⟩ := tupW_sq S1 q4
          cases e
          refine .inr ⟨⟨_, sq⟩, x ρ1 H1 _ n1 S1 q4 ⟨w, fun ρ2 h2 H2 n2 S2 st k => ?_⟩⟩
          obtain ⟨j, e, sq2, w2⟩ := tupW_sq S2 (show HL.tupW h2 (.ref i) = some xs from st)
          cases e
          rw [← n2.ag i w1] at sq2
          refine ⟨fun le => ⟨_, sq2, by rw [List.length_map]; exact le⟩, fun y hy => ?_⟩
          have e2 : (xs.map (renW γ ρ2))[k]? = some (renW γ ρ2 y) := by rw [List.getElem?_map, show xs[k]? = some y from hy]; rfl
          exact ⟨⟨_, _, sq2, e2⟩, fun v H' ⟨e, u⟩ => ⟨e, (Option.some.inj ((u _ sq2).symm.trans e2))⟩⟩
    | _ => exact x.elim
  | ex => rw [q] at x; exact x.elim
  | er => rw [q] at x; exact x.elim
theorem wlk_range {K : PySem.W.Frag} (lo : Int) (n : Nat) (h : Sh) (ρ : Nat → Addr) : Wlk K γ (Itr lo n) (.fix (HL.rangeW lo n)) h ρ := by
  have len : (HL.rangeW lo n).length = n := by unfold HL.rangeW; rw [List.length_map, List.length_range]
  refine ⟨fun y hy => ?_, fun ρ2 h2 H2 n2 S2 st k => ⟨fun le => ?_, fun y hy => ?_⟩⟩
  · obtain ⟨k, _, rfl⟩ := List.mem_map.mp hy
    exact trivial
  · have le' : (HL.rangeW lo n).length ≤ k := le
    rw [len] at le'
    exact le'
  · have hy' : (HL.rangeW lo n)[k]? = some y := hy
    have hk : k < n := by
      have := (List.getElem?_eq_some_iff.mp hy').1
      rw [len] at this; exact this
    unfold HL.rangeW at hy'
    rw [List.getElem?_map, List.getElem?_range hk] at hy'
    cases hy'
    exact ⟨hk, fun v H' ⟨e, u⟩ => ⟨e, u⟩⟩
theorem qi_range1 {tg : Expr} {p : Pos} (hg : Gl X "range") (hm : X.mg "range" = none) (ha : QE γ X a da) (hs : starEach [a] X.env = [(false, eval a X.env)] := by rfl) : QI γ X tg (.Call (.Name "range" p) [a] [] pos) (HL.iRange1 da) :=
  (pi_range1 hg hm (qa_cons ha qa_nil hs) hs).imp fun σ H R ⟨ρ, s, h, S, x⟩ => by
  refine ⟨ρ, s, h, S, ?_⟩
  unfold HL.iRange1 at x
  unfold HL.dCons HL.dNil
  cases q : da s h with
  | ok v h1 =>
    rw [q] at x
    simp only [HL.R.bind] at x
    intro ρ1 H1 n1 S1 w1
    cases v with
    | int j =>
      by_cases hj : -(2 ^ 62) ≤ j ∧ j < 2 ^ 62
      · simp only [if_pos hj] at x
        exact ⟨j, rfl, hj.1, hj.2, x ρ1 H1 _ n1 S1 trivial (wlk_range _ _ _ _)⟩
      · simp only [if_neg hj] at x
    | _ => exact x.elim
  | ex => rw [q] at x; exact x.elim
  | er => rw [q] at x; exact x.elim
theorem for_of {di : HL.DI} {g : HL.DG} {bd : DS} (D : Ends) (σ : St) (H : Hp) (x : eS X.K γ (HL.sFor di g bd) D σ H) : tFor (eI X.K γ di) (eG X.K γ g) (eS X.K γ bd) D σ H := by
  obtain ⟨ρ, s, h, S, x⟩ := x
  unfold HL.sFor at x
  refine ⟨ρ, s, h, S, ?_⟩
  cases q : di s h with
  | ex => rw [q] at x; exact x.elim
  | er => rw [q] at x; exact x.elim
  | ok t h1 =>
    rw [q] at x
    simp only at x
    intro ρ1 H1 J n1 S1 st ⟨wi, wl⟩
    have T1 := S.next n1 S1
    let St' : Nat → St → Hp → Prop := fun i σ' H' => i ≤ t.items.length ∧ ∃ ρ2 s2 h2, Sim X.K γ ρ2 s2 h2 σ' H' ∧ Nxt h1 ρ1 h2 ρ2 ∧ t.stays h2 ∧ GoodC X.K γ ρ2 h2 (HL.forW t g bd (t.items.drop i) s2 h2) D
    refine ⟨fun i m σ' H' => m = t.items.length - i ∧ St' i σ' H', ⟨_, rfl, Nat.zero_le _, ρ1, s, h1, T1, Nxt.refl _ _, st, GoodC.later x n1⟩, ?_⟩
    rintro i m σ' H' ⟨rfl, hi, ρ2, s2, h2, T2, n2, st2, g2⟩
    obtain ⟨w1, w2⟩ := wl ρ2 h2 H' n2 T2.hp st2 i
    cases e : t.items[i]? with
    | none =>
      have hl : t.items.length ≤ i := List.getElem?_eq_none_iff.mp e
      rw [List.drop_eq_nil_of_le hl] at g2
      refine .inl ⟨w1 hl, ?_⟩
      have z := g2 ρ2 H' (Nxt.refl _ _) T2.hp T2.ws
      rw [T2.eq]; exact z
    | some y =>
      obtain ⟨hlt, ey⟩ := List.getElem?_eq_some_iff.mp e
      obtain ⟨go, yl⟩ := w2 y e
      refine .inr ⟨go, St' (i + 1), fun σ3 H3 z => ⟨_, by omega, rfl, z⟩, fun v H3 hv => ?_⟩
      obtain ⟨rfl, rfl⟩ := yl v H3 hv
      rw [List.drop_eq_getElem_cons hlt, ey] at g2
      unfold HL.forW at g2
      have wy : wf h2.length y := (wi y (List.mem_of_getElem? e)).mono n2.le
      cases q3 : g y s2 h2 with
      | none => rw [q3] at g2; exact g2.elim
      | some s3 =>
        rw [q3] at g2
        simp only at g2
        refine ⟨ρ2, s2, h2, y, T2, rfl, wy, s3, q3, fun w3 => ⟨ρ2, s3, h2, ⟨T2.hp, w3, rfl⟩, ?_⟩⟩
        cases q4 : bd s3 h2 with
        | nx s4 h4 =>
          rw [q4] at g2
          simp only at g2
          split at g2
          · rename_i st4
            exact fun ρ4 H4 n4 S4 w4 => ⟨hlt, ρ4, s4, h4, ⟨S4, w4, rfl⟩, n2.trans n4, st4, GoodC.later g2 n4⟩
          · exact g2.elim
        | ct s4 h4 =>
          rw [q4] at g2
          simp only at g2
          split at g2
          · rename_i st4
            exact fun ρ4 H4 n4 S4 w4 => ⟨hlt, ρ4, s4, h4, ⟨S4, w4, rfl⟩, n2.trans n4, st4, GoodC.later g2 n4⟩
          · exact g2.elim
        | bk s4 h4 => rw [q4] at g2; exact g2
        | rt v4 h4 => rw [q4] at g2; exact g2
        | ex => rw [q4] at g2; exact g2.elim
        | er => rw [q4] at g2; exact g2.elim
theorem qs_for {tg iter : Expr} {body : List Stmt} {di : HL.DI} {g : HL.DG} {bd : DS} (hp : PassesOwn (model X.prog X.w) X.A X.env X.xe) (hc : X.calm = true) (hi : QI γ X tg iter di) (hg : QG γ X tg g) (hb : QSs γ X body bd)
    (hs : ∀ x, foldedSetIterable iter X.env x = pure x := by intro _; rfl) : QS γ X (.For tg iter body [] pos) (HL.sFor di g bd) := (ps_for hp hc hi hg hb hs).imp for_of
end
/-! ### defs -/
theorem renS_start {γ : Str → Addr} {ρ : Nat → Addr} (N : List Str) (us : List W) : start N (us.map (renW γ ρ)) = renS γ ρ (HL.start N.length us) := by
  unfold start renS HL.start
  rw [List.map_append, List.map_map, List.map_map, List.map_replicate, List.length_map]
  rfl
theorem wf_start {n m : Nat} {us : List W} (w : wfs n us) : wfS n (HL.start m us) := fun x hx => by
  unfold HL.start at hx
  rcases List.mem_append.mp hx with z | z
  · obtain ⟨y, hy, e⟩ := List.mem_map.mp z
    cases e; exact w _ hy
  · cases (List.mem_replicate.mp z).2
theorem fn_good {K : PySem.W.Frag} {γ : Str → Addr} {ρ : Nat → Addr} {h : Sh} {H : Hp} {N : List Str} {us : List W} {bd : DS} {Q : VK} {p : Nat} (S : SimH K γ ρ h H) (w : wfs h.length us) (x : GoodV K γ ρ h (HL.fnOf p N.length bd us h) Q) :
    eS K γ bd { nx := fun _ H' => Q .non H', rt := Q } (start N (us.map (renW γ ρ))) H := by
  refine ⟨ρ, HL.start N.length us, h, ⟨S, wf_start w, renS_start N us⟩, ?_⟩
  unfold HL.fnOf at x
  split at x
  · cases q : bd (HL.start N.length us) h with
    | nx s' h' => rw [q] at x; exact fun ρ1 H1 n1 S1 _ => x ρ1 H1 n1 S1 trivial
    | rt v h' => rw [q] at x; exact fun ρ1 H1 n1 S1 w1 => x ρ1 H1 n1 S1 w1
    | bk => rw [q] at x; exact x.elim
    | ct => rw [q] at x; exact x.elim
    | ex => rw [q] at x; exact x.elim
    | er => rw [q] at x; exact x.elim
  · exact x.elim
section
variable {P : Program} {w : World} {K : PySem.W.Frag} {mg : Str → Option Value} {base : Heap} {γ : Str → Addr}
theorem TopFn.qdef {x : Str} {st : Stmt} {N ps : List Str} {k p n : Nat} {bd : DS} (F : TopFn K mg x st) (S : FnScope N ps (defScope st)) (hp : ps.length = p) (hn : N.length = n)
    (hb : ∀ (kV doc pm : Value) (an : Option Addr) (cdv ct : Value) (us : List Value), us.length = ps.length → bindArgs (PySem.W.fnOf x x (defArgs st) (defBody st) (defScope st) .none kV doc pm an cdv ct) ⟨us, []⟩ = pure (ps.zip us))
    (hbody : ∀ (f : Addr) (cdv : Value) (A : Around) (outer : List Env) (s : Shared) (H : Hp) (E : XK), Room k (A.deeper (envOfC x (defScope st) s.heap.objs.size f cdv)) →
      QSs γ (cxOf CX0 P w K mg base N x (defScope st) f cdv A outer s H E).nox (defBody st) bd) : Def P w K mg base (k + 1) x ps (spF K γ p (HL.fnOf p n bd)) :=
  F.mk_def S hb (fun vs H Q E h => h.1.trans hp.symm) fun f cdv A outer s H vs Q E hr h => ⟨_, hbody f cdv A outer s H E hr, by
    obtain ⟨_, ρ, hh, us, S, wu, e, x⟩ := h
    rw [e]
    subst hn
    exact fn_good S wu x⟩
end
end L2


set_option Elab.async false
set_option linter.all false
set_option maxRecDepth 100000
set_option maxHeartbeats 4000000
namespace L2
open PySem PySem.Spec PyProof.Rows
open HL (W SO Sh Sg OR DE DT DA DS Fn)
/-! ### the operations -/
section
variable {X : Cx} {K : PySem.W.Frag} {γ : Str → Addr}
theorem os_int {c : Int → Int → Bool} {C : Int → Int → Prop} {f : Int → Int → Int} (hc : ∀ i j, c i j = true → C i j) : OpS K γ (rI C fun i j => .int (f i j)) (HL.oInt c f) := by
  intro ρ h H x y Q S wx wy q
  cases x with
  | int i =>
    cases y with
    | int j =>
      unfold HL.oInt at q
      simp only at q
      split at q
      · rename_i z; exact ⟨i, j, rfl, rfl, hc i j z, q trivial⟩
      · exact q.elim
    | _ => exact q.elim
  | _ => cases y <;> exact q.elim
theorem nw_int {c : Int → Int → Bool} {f : Int → Int → Int} : NewOk2 (HL.oInt c f) := by
  intro x y h
  unfold HL.oInt
  cases x <;> cases y <;> first | rfl | (simp only; split <;> rfl)
theorem os_cmp {p : Int → Int → Bool} : OpS K γ (rI0 fun i j => .bl (p i j)) (HL.oCmp p) := by
  intro ρ h H x y Q S wx wy q
  cases x with
  | int i =>
    cases y with
    | int j => exact ⟨i, j, rfl, rfl, q trivial⟩
    | _ => exact q.elim
  | _ => cases y <;> exact q.elim
theorem bo_cmp {p : Int → Int → Bool} : Bo (HL.oCmp p) := by
  intro x y h
  unfold HL.oCmp
  cases x <;> cases y <;> first | exact .inl rfl | exact .inr ⟨_, rfl⟩
theorem Bo.nw {f : HL.O2} (b : Bo f) : NewOk2 f := fun x y h => by
  rcases b x y h with z | ⟨k, z⟩ <;> rw [z] <;> rfl
/-! the four sums -/
def rAddA (K : PySem.W.Frag) : R2 := fun x y H Q => (rI0 (fun i j => .int (i + j)) x y H Q) ∨ (∃ i j, x = .str i ∧ y = .str j ∧ i.length + j.length ≤ sizeLine ∧ Q (.str (i ++ j)) H) ∨ rCat x y H Q ∨ rCatT K x y H Q
theorem op_addA : OpR X (binaryOp .Add) (rAddA X.K) := op_add.or (op_add_str.or (op_cat.or op_catT))
theorem os_add : OpS K γ (rAddA K) HL.oAdd := by
  intro ρ h H x y Q S wx wy q
  cases x with
  | int i =>
    cases y with
    | int j => exact .inl ⟨i, j, rfl, rfl, q trivial⟩
    | _ => exact q.elim
  | str i =>
    cases y with
    | str j =>
      unfold HL.oAdd at q
      simp only at q
      split at q
      · rename_i z; exact .inr (.inl ⟨i, j, rfl, rfl, lim_line z, q trivial⟩)
      · exact q.elim
    | _ => exact q.elim
  | ref i =>
    cases y with
    | ref j =>
      unfold HL.oAdd at q
      simp only at q
      split at q
      · rename_i xs ys e1 e2
        split at q
        · rename_i z
          refine .inr (.inr (.inl ⟨ρ i, ρ j, xs.map (renW γ ρ), ys.map (renW γ ρ), rfl, rfl, S.ob i _ e1, S.ob j _ e2, by rw [List.length_map, List.length_map]; exact lim_line z, fun p hp => ?_⟩))
          rw [← List.map_append]
          refine q ?_ p hp
          intro y hy
          rcases List.mem_append.mp hy with z | z
          · exact S.wf i _ e1 y z
          · exact S.wf j _ e2 y z
        · exact q.elim
      · rename_i xs ys e1 e2
        split at q
        · rename_i z
          refine .inr (.inr (.inr ⟨ρ i, ρ j, xs.map (renW γ ρ), ys.map (renW γ ρ), rfl, rfl, S.ob i _ e1, S.ob j _ e2, ?_, by rw [List.length_map, List.length_map]; exact lim_line z.1, fun ey => ?_, fun ey p hp => ?_⟩))
          · intro e; exact z.2 (List.map_eq_nil_iff.mp e)
          · rw [if_pos (List.map_eq_nil_iff.mp ey)] at q
            exact q wx
          · rw [if_neg (fun e => ey (by rw [e]; rfl))] at q
            rw [← List.map_append]
            refine q ?_ p hp
            intro y hy
            rcases List.mem_append.mp hy with z | z
            · exact S.wf i _ e1 y z
            · exact S.wf j _ e2 y z
        · exact q.elim
      · exact q.elim
    | _ => exact q.elim
  | _ => cases y <;> exact q.elim
theorem nw_add : NewOk2 HL.oAdd := by
  intro x y h
  unfold HL.oAdd
  cases x <;> cases y <;> first | rfl | (simp only; repeat' (first | rfl | split))
/-! products -/
def rMulA : R2 := fun x y H Q => rI CMul (fun i j => .int (i * j)) x y H Q ∨ rRep x y H Q
theorem op_mulA : OpR X (binaryOp .Mult) rMulA := op_mul.or op_rep
theorem mulOk_c {i j : Int} (h : HL.mulOk i j = true) : CMul i j := by
  unfold HL.mulOk at h
  rcases (Bool.or_eq_true _ _).mp h with z | z
  · have := of_decide_eq_true z
    exact .inl ⟨by omega, by omega⟩
  · have := of_decide_eq_true z
    exact .inr ⟨by omega, by omega⟩
theorem os_mul : OpS K γ rMulA HL.oMul := by
  intro ρ h H x y Q S wx wy q
  cases x with
  | int i =>
    cases y with
    | int j =>
      unfold HL.oMul at q
      simp only at q
      split at q
      · rename_i z; exact .inl ⟨i, j, rfl, rfl, mulOk_c z, q trivial⟩
      · exact q.elim
    | _ => exact q.elim
  | ref i =>
    cases y with
    | int k =>
      unfold HL.oMul at q
      simp only at q
      split at q
      · rename_i xs e
        split at q
        · rename_i z
          refine .inr ⟨ρ i, k, xs.map (renW γ ρ), rfl, rfl, S.ob i _ e, by omega, by omega, by rw [List.length_map]; exact lim_line z.2.2, fun p hp => ?_⟩
          have e2 : (List.replicate k.toNat (xs.map (renW γ ρ))).flatten = ((List.replicate k.toNat xs).flatten).map (renW γ ρ) := by rw [List.map_flatten, List.map_replicate]
          first
            | rw [e2]; exact q (fun y hy => by
                obtain ⟨l, hl, hy⟩ := List.mem_flatten.mp hy
                rw [(List.mem_replicate.mp hl).2] at hy
                exact S.wf i _ e y hy) p hp
            | skip
        · exact q.elim
      · exact q.elim
    | _ => exact q.elim
  | _ => cases y <;> exact q.elim
theorem nw_mul : NewOk2 HL.oMul := by
  intro x y h
  unfold HL.oMul
  cases x <;> cases y <;> first | rfl | (simp only; repeat' (first | rfl | split))
theorem os_isN : OpS K γ (fun x y H Q => y = .non ∧ Q (.bl (decide (x = .non))) H) HL.oIs := by
  intro ρ h H x y Q S wx wy q
  unfold HL.oIs at q
  cases y with
  | non => exact ⟨rfl, by have := q trivial; cases x <;> exact this⟩
  | _ => exact q.elim
theorem os_notN : OpS K γ (fun x y H Q => y = .non ∧ Q (.bl (!decide (x = .non))) H) HL.oIsNot := by
  intro ρ h H x y Q S wx wy q
  unfold HL.oIsNot at q
  cases y with
  | non => exact ⟨rfl, by have := q trivial; cases x <;> exact this⟩
  | _ => exact q.elim
theorem bo_is : Bo HL.oIs := by
  intro x y h; unfold HL.oIs; cases y <;> first | exact .inl rfl | exact .inr ⟨_, rfl⟩
theorem bo_isnot : Bo HL.oIsNot := by
  intro x y h; unfold HL.oIsNot; cases y <;> first | exact .inl rfl | exact .inr ⟨_, rfl⟩
/-! in -/
/-! items -/
theorem os_ix : OpS K γ (rIx K) HL.oIx := by
  intro ρ h H x y Q S wx wy q
  unfold HL.oIx at q
  split at q
  · rename_i xs i e
    split at q
    · rename_i v ev
      obtain ⟨p, rfl, sq, w⟩ := seqW_sq S e
      unfold HL.atW at ev
      cases e2 : HL.ixW xs.length i with
      | none => rw [e2] at ev; cases ev
      | some j =>
        rw [e2] at ev
        have ev' : xs[j]? = some v := ev
        have at_ : atI (xs.map (renW γ ρ)) i = some (renW γ ρ v) := by
          unfold atI
          rw [List.length_map, ← ix_eq, e2]
          show (xs.map (renW γ ρ))[j]? = _
          rw [List.getElem?_map, ev']; rfl
        have qq := q (wf_get w ev')
        rcases sq with sq | sq
        · exact .inl ⟨_, _, i, _, rfl, rfl, sq, at_, qq⟩
        · exact .inr (.inl ⟨_, _, i, _, rfl, rfl, sq, at_, qq⟩)
    · exact q.elim
  · exact q.elim
theorem nw_ix : NewOk2 HL.oIx := by
  intro x y h; unfold HL.oIx; split
  · split <;> rfl
  · rfl
/-! built-in functions -/
theorem cs_len : CbS K γ (fun xs H Q => ∃ x n, xs = [x] ∧ LenV K x H n ∧ Q (.int n) H) HL.bLen := by
  intro ρ h H xs Q S w q
  unfold HL.bLen at q
  split at q
  · rename_i y
    split at q
    · rename_i z; exact ⟨_, _, rfl, ⟨lim_line z, rfl⟩, q trivial⟩
    · exact q.elim
  · rename_i x ne
    split at q
    · rename_i ys e
      obtain ⟨p, rfl, sq, w⟩ := seqW_sq S e
      have qq := q trivial
      refine ⟨_, ys.length, rfl, ?_, qq⟩
      rcases sq with sq | sq
      · exact .inl ⟨_, sq, by rw [List.length_map]⟩
      · exact .inr ⟨_, sq, by rw [List.length_map]⟩
    · exact q.elim
  · exact q.elim
theorem nw_len (x : List W) (h : Sh) : newOk (HL.bLen x h) = true := by
  unfold HL.bLen; split
  · split <;> rfl
  · split <;> rfl
  · rfl
theorem cs_max2 : CbS K γ rMax2 HL.bMax2 := by
  intro ρ h H xs Q S w q
  unfold HL.bMax2 at q
  split at q
  · exact q trivial
  · exact q.elim
theorem nw_max2 (x : List W) (h : Sh) : newOk (HL.bMax2 x h) = true := by unfold HL.bMax2; split <;> rfl
theorem cs_min2 : CbS K γ rMin2 HL.bMin2 := by
  intro ρ h H xs Q S w q
  unfold HL.bMin2 at q
  split at q
  · exact q trivial
  · exact q.elim
theorem nw_min2 (x : List W) (h : Sh) : newOk (HL.bMin2 x h) = true := by unfold HL.bMin2; split <;> rfl
theorem cs_list : CbS K γ (fun xs H Q => ∃ p ys, xs = [.ref p] ∧ (SqL K H p ys ∨ SqT K H p ys) ∧ ∀ l, H l = none → Q (.ref l) (upd H l (.lst ys))) HL.bList := by
  intro ρ h H xs Q S w q
  unfold HL.bList at q
  split at q
  · split at q
    · rename_i ys e
      obtain ⟨p, rfl, sq, w⟩ := seqW_sq S e
      exact ⟨_, _, rfl, sq, q w⟩
    · exact q.elim
  · exact q.elim
theorem nw_blist (x : List W) (h : Sh) : newOk (HL.bList x h) = true := by
  unfold HL.bList; split
  · split <;> rfl
  · rfl
theorem cs_tuple : CbS K γ (fun xs H Q => ∃ p ys, xs = [.ref p] ∧ ((SqL K H p ys ∧ ∀ l, H l = none → Q (.ref l) (upd H l (.tup ys))) ∨ (SqT K H p ys ∧ Q (.ref p) H))) HL.bTuple := by
  intro ρ h H xs Q S w q
  unfold HL.bTuple at q
  split at q
  · rename_i x
    split at q
    · rename_i ys e
      obtain ⟨p, rfl, sq, w⟩ := lstW_sq S e
      exact ⟨_, _, rfl, .inl ⟨sq, q w⟩⟩
    · split at q
      · rename_i ys e
        obtain ⟨p, rfl, sq, _⟩ := tupW_sq S e
        exact ⟨_, _, rfl, .inr ⟨sq, q (w _ (List.mem_singleton.mpr rfl))⟩⟩
      · exact q.elim
  · exact q.elim
theorem nw_btuple (x : List W) (h : Sh) : newOk (HL.bTuple x h) = true := by
  unfold HL.bTuple; split
  · split
    · rfl
    · split <;> rfl
  · rfl
end
end L2


set_option Elab.async false
set_option linter.all false
set_option maxRecDepth 100000
set_option maxHeartbeats 4000000
namespace L2
open PySem PySem.Spec PyProof.Rows
open HL (W SO Sh Sg OR DE DT DA DS Fn)
/-! ### deep equality -/
def flatD : V → PyData → Prop
  | .non, d => d = .none
  | .bl b, d => d = .bool b
  | .int i, d => d = .int i
  | .str x, d => d = .str x
  | _, _ => False
def DatP (K : PySem.W.Frag) (H : Hp) : Nat → V → PyData → Prop
  | 0, x, d => flatD x d
  | n + 1, x, d => flatD x d ∨ ∃ a xs ds, x = .ref a ∧ Paired (DatP K H n) xs ds ∧ (SqL K H a xs ∧ d = .list ds ∨ SqT K H a xs ∧ d = .tuple ds)
section
variable {X : Cx} {pins : List (Addr × Obj)} {σ : St} {H : Hp} {s : Shared}
theorem reads_flat {x : V} {v : Value} {d : PyData} (h : flatD x d) (r : RelV x v) : ∃ as, Reads s.heap v d as := by
  cases x with
  | non => cases h; cases r; exact ⟨_, .none⟩
  | bl b => cases h; cases r; exact ⟨_, .bool b⟩
  | int i => cases h; obtain ⟨t, rfl⟩ := r; exact ⟨_, .int i t⟩
  | str y => cases h; obtain ⟨t, rfl⟩ := r; exact ⟨_, .str y t⟩
  | _ => cases h
theorem readsP_all {f : V → PyData → Prop} (hf : ∀ x v d, f x d → RelV x v → ∃ as, Reads s.heap v d as) : ∀ {xs : List V} {us : List Value} {ds : List PyData}, Vals xs us → Paired f xs ds → ∃ as, ReadsAll s.heap us ds as
  | _, _, _, .nil, .nil => ⟨_, .nil⟩
  | _, _, _, .cons r rs, .cons p ps => by
    obtain ⟨as, h1⟩ := hf _ _ _ p r
    obtain ⟨bs, h2⟩ := readsP_all hf rs ps
    exact ⟨_, .cons h1 h2⟩
theorem readsP (I : Inv X pins σ H s) : ∀ (n : Nat) (x : V) (v : Value) (d : PyData), DatP X.K H n x d → RelV x v → ∃ as, Reads s.heap v d as
  | 0, x, v, d, h, r => reads_flat h r
  | n + 1, x, v, d, h, r => by
    rcases h with h | ⟨a, xs, ds, rfl, p, ⟨sq, rfl⟩ | ⟨sq, rfl⟩⟩
    · exact reads_flat h r
    · cases r
      obtain ⟨its, rv, pl, _⟩ := I.list sq
      obtain ⟨o, m, ho, hc, _, hs⟩ := pl
      obtain ⟨as, ra⟩ := readsP_all (readsP I n) rv p
      exact ⟨_, .list ho hc hs ra⟩
    · cases r
      obtain ⟨its, rv, pl, _⟩ := I.tuple sq
      obtain ⟨o, ho, hc, m, hs⟩ := pl
      obtain ⟨as, ra⟩ := readsP_all (readsP I n) rv p
      exact ⟨_, .tuple ho hc hs ra⟩
def rEqP (K : PySem.W.Frag) (neg : Bool) : R2 := fun x y H Q => (scal x y = true ∧ Q (.bl (if neg then !decide (x = y) else decide (x = y))) H) ∨
  ∃ da db, DatP K H 8 x da ∧ DatP K H 8 y db ∧ SeqAt.shaped da = true ∧ SeqAt.shaped db = true ∧ Q (.bl (if neg then !PyData.eqv da db else PyData.eqv da db)) H
theorem op_eqP (hu : X.A.units + 64 < cLine) : OpR X (compareOp .Eq) (rEqP X.K false) := by
  intro pins s σ H x y v u Q I rx ry h
  rcases h with ⟨sc, q⟩ | ⟨da, db, h1, h2, s1, s2, q⟩
  · exact op_eq pins s σ H x y v u Q I rx ry ⟨sc, q⟩
  · obtain ⟨as, r1⟩ := readsP I 8 x v da h1 rx
    obtain ⟨bs, r2⟩ := readsP I 8 y u db h2 ry
    exact PyProof.Rows.eq_dataH r1 r2 s1 s2 hu ⟨.bl _, H, I, rfl, q⟩
theorem op_neP (hu : X.A.units + 64 < cLine) : OpR X (compareOp .NotEq) (rEqP X.K true) := by
  intro pins s σ H x y v u Q I rx ry h
  rcases h with ⟨sc, q⟩ | ⟨da, db, h1, h2, s1, s2, q⟩
  · exact op_ne pins s σ H x y v u Q I rx ry ⟨sc, q⟩
  · obtain ⟨as, r1⟩ := readsP I 8 x v da h1 rx
    obtain ⟨bs, r2⟩ := readsP I 8 y u db h2 ry
    exact PyProof.Rows.ne_dataH r1 r2 s1 s2 hu ⟨.bl _, H, I, rfl, q⟩
end
mutual
def toPy : HL.D → PyData
  | .non => .none
  | .bl b => .bool b
  | .int i => .int i
  | .str s => .str s
  | .lst xs => .list (toPys xs)
  | .tup xs => .tuple (toPys xs)
def toPys : List HL.D → List PyData
  | [] => []
  | x :: xs => toPy x :: toPys xs
end
mutual
theorem toPy_eq : ∀ a b : HL.D, PyData.eqv (toPy a) (toPy b) = HL.D.eq a b
  | .non, b => by cases b <;> simp only [toPy, PyData.eqv, HL.D.eq]
  | .bl _, b => by cases b <;> simp only [toPy, PyData.eqv, HL.D.eq]
  | .int _, b => by cases b <;> simp only [toPy, PyData.eqv, HL.D.eq]
  | .str _, b => by cases b <;> simp only [toPy, PyData.eqv, HL.D.eq]
  | .lst xs, b => by
    cases b with
    | lst ys => simp only [toPy, PyData.eqv, HL.D.eq]; exact toPys_eq xs ys
    | _ => simp only [toPy, PyData.eqv, HL.D.eq]
  | .tup xs, b => by
    cases b with
    | tup ys => simp only [toPy, PyData.eqv, HL.D.eq]; exact toPys_eq xs ys
    | _ => simp only [toPy, PyData.eqv, HL.D.eq]
theorem toPys_eq : ∀ xs ys : List HL.D, PyData.eqvAll (toPys xs) (toPys ys) = HL.D.eqs xs ys
  | [], ys => by cases ys <;> simp only [toPys, PyData.eqvAll, HL.D.eqs] <;> rfl
  | x :: xs, ys => by
    cases ys with
    | nil => simp only [toPys, PyData.eqvAll, HL.D.eqs]
    | cons y ys => simp only [toPys, PyData.eqvAll, HL.D.eqs]; rw [toPy_eq x y, toPys_eq xs ys]
end
section
variable {K : PySem.W.Frag} {γ : Str → Addr} {ρ : Nat → Addr} {h : Sh} {H : Hp}
theorem dats_of {n : Nat} {f : W → Option HL.D} (hf : ∀ x d, f x = some d → DatP K H n (renW γ ρ x) (toPy d) ∧ (toPy d).canLay0 = true ∧ (toPy d).depth ≤ n) :
    ∀ (xs : List W) (ds : List HL.D), HL.dats f xs = some ds → Paired (DatP K H n) (xs.map (renW γ ρ)) (toPys ds) ∧ PyData.canLayAll0 (toPys ds) = true ∧ PyData.depthAll (toPys ds) ≤ n
  | [], ds, e => by
    cases e
    exact ⟨.nil, by simp [toPys, PyData.canLayAll0], by simp [toPys, PyData.depthAll]⟩
  | x :: xs, ds, e => by
    unfold HL.dats at e
    cases q : f x with
    | none => rw [q] at e; cases e
    | some d =>
      rw [q] at e
      cases q2 : HL.dats f xs with
      | none => rw [q2] at e; cases e
      | some ds' =>
        rw [q2] at e
        cases e
        obtain ⟨a, b, c⟩ := hf x d q
        obtain ⟨a', b', c'⟩ := dats_of hf xs ds' q2
        refine ⟨?_, ?_, ?_⟩
        · simp only [toPys, List.map_cons]; exact .cons a a'
        · simp only [toPys, PyData.canLayAll0, b, b']; rfl
        · simp only [toPys, PyData.depthAll]; omega
theorem sOk_of {x : Str} (e : HL.sOk x = true) : PyData.strOk x = true := by
  unfold HL.sOk at e
  unfold PyData.strOk
  obtain ⟨_, e⟩ := (Bool.and_eq_true _ _).mp e
  rw [← Array.all_toList]
  exact e
theorem dat_of (S : SimH K γ ρ h H) : ∀ (n : Nat) (x : W) (d : HL.D), HL.dat n h x = some d → DatP K H n (renW γ ρ x) (toPy d) ∧ (toPy d).canLay0 = true ∧ (toPy d).depth ≤ n := by
  have fl : ∀ (n : Nat) (x : V) (d : PyData), flatD x d → DatP K H n x d := fun n x d f => by cases n <;> first | exact f | exact .inl f
  intro n
  induction n with
  | zero =>
    intro x d e
    cases x with
    | non => cases e; exact ⟨rfl, by simp [toPy, PyData.canLay0], by simp [toPy, PyData.depth]⟩
    | bl b => cases e; exact ⟨rfl, by simp [toPy, PyData.canLay0], by simp [toPy, PyData.depth]⟩
    | int i => cases e; exact ⟨rfl, by simp [toPy, PyData.canLay0], by simp [toPy, PyData.depth]⟩
    | str y =>
      unfold HL.dat at e
      split at e
      · rename_i ok; cases e; exact ⟨rfl, by simp [toPy, PyData.canLay0, sOk_of ok], by simp [toPy, PyData.depth]⟩
      · cases e
    | _ => cases e
  | succ n ih =>
    intro x d e
    cases x with
    | non => cases e; exact ⟨.inl rfl, by simp [toPy, PyData.canLay0], by simp [toPy, PyData.depth]⟩
    | bl b => cases e; exact ⟨.inl rfl, by simp [toPy, PyData.canLay0], by simp [toPy, PyData.depth]⟩
    | int i => cases e; exact ⟨.inl rfl, by simp [toPy, PyData.canLay0], by simp [toPy, PyData.depth]⟩
    | str y =>
      unfold HL.dat at e
      split at e
      · rename_i ok; cases e; exact ⟨.inl rfl, by simp [toPy, PyData.canLay0, sOk_of ok], by simp [toPy, PyData.depth]⟩
      · cases e
    | ref i =>
      unfold HL.dat at e
      cases q : h[i]? with
      | none => rw [q] at e; cases e
      | some o =>
        rw [q] at e
        have ob := S.ob i o q
        have go : ∀ xs ds, HL.dats (HL.dat n h) xs = some ds → (SqL K H (ρ i) (xs.map (renW γ ρ)) ∧ d = .lst ds ∨ SqT K H (ρ i) (xs.map (renW γ ρ)) ∧ d = .tup ds) → DatP K H (n + 1) (.ref (ρ i)) (toPy d) ∧ (toPy d).canLay0 = true ∧ (toPy d).depth ≤ n + 1 := fun xs ds e2 sq => by
          obtain ⟨a, b, c⟩ := dats_of ih xs ds e2
          rcases sq with ⟨sq, rfl⟩ | ⟨sq, rfl⟩
          · exact ⟨.inr ⟨_, _, _, rfl, a, .inl ⟨sq, by simp only [toPy]⟩⟩, by simp only [toPy, PyData.canLay0, b], by simp only [toPy, PyData.depth]; omega⟩
          · exact ⟨.inr ⟨_, _, _, rfl, a, .inr ⟨sq, by simp only [toPy]⟩⟩, by simp only [toPy, PyData.canLay0, b], by simp only [toPy, PyData.depth]; omega⟩
        cases o with
        | lst xs =>
          simp only at e
          cases q2 : HL.dats (HL.dat n h) xs with
          | none => rw [q2] at e; cases e
          | some ds => rw [q2] at e; cases e; exact go xs ds q2 (.inl ⟨SqL.of ob, rfl⟩)
        | rol xs =>
          simp only at e
          cases q2 : HL.dats (HL.dat n h) xs with
          | none => rw [q2] at e; cases e
          | some ds => rw [q2] at e; cases e; exact go xs ds q2 (.inl ⟨(show RoL _ _ _ _ from ob).sq, rfl⟩)
        | tup xs =>
          simp only at e
          cases q2 : HL.dats (HL.dat n h) xs with
          | none => rw [q2] at e; cases e
          | some ds => rw [q2] at e; cases e; exact go xs ds q2 (.inr ⟨ob, rfl⟩)
        | _ => cases e
    | _ => cases e
theorem eqH_of {x y : W} {b : Bool} (S : SimH K γ ρ h H) (e : HL.eqH x y h = some b) : (scal (renW γ ρ x) (renW γ ρ y) = true ∧ b = decide (renW γ ρ x = renW γ ρ y)) ∨
    ∃ da db, DatP K H 8 (renW γ ρ x) da ∧ DatP K H 8 (renW γ ρ y) db ∧ SeqAt.shaped da = true ∧ SeqAt.shaped db = true ∧ b = PyData.eqv da db := by
  have deep : (match HL.dat HL.DEEP h x, HL.dat HL.DEEP h y with | some a, some b => some (HL.D.eq a b) | _, _ => none) = some b → ∃ da db, DatP K H 8 (renW γ ρ x) da ∧ DatP K H 8 (renW γ ρ y) db ∧ SeqAt.shaped da = true ∧ SeqAt.shaped db = true ∧ b = PyData.eqv da db := fun e => by
    split at e
    · rename_i a c e1 e2
      cases e
      obtain ⟨d1, l1, p1⟩ := dat_of S 8 x a e1
      obtain ⟨d2, l2, p2⟩ := dat_of S 8 y c e2
      refine ⟨_, _, d1, d2, ?_, ?_, (toPy_eq a c).symm⟩
      · unfold SeqAt.shaped; rw [l1, Bool.true_and]; exact decide_eq_true (by omega)
      · unfold SeqAt.shaped; rw [l2, Bool.true_and]; exact decide_eq_true (by omega)
    · cases e
  unfold HL.eqH at e
  split at e
  · cases e; exact .inl ⟨rfl, by simp [renW]⟩
  · cases e; exact .inl ⟨rfl, by simp [renW]⟩
  · exact .inr (deep e)
theorem os_eq : OpS K γ (rEqP K false) HL.oEq := by
  intro ρ h H x y Q S wx wy q
  unfold HL.oEq at q
  split at q
  · rename_i b e
    rcases eqH_of S e with ⟨sc, e2⟩ | ⟨da, db, h1, h2, s1, s2, e2⟩
    · exact .inl ⟨sc, by have := q trivial; rw [e2] at this; exact this⟩
    · exact .inr ⟨da, db, h1, h2, s1, s2, by have := q trivial; rw [e2] at this; exact this⟩
  · exact q.elim
theorem os_ne : OpS K γ (rEqP K true) HL.oNe := by
  intro ρ h H x y Q S wx wy q
  unfold HL.oNe at q
  split at q
  · rename_i b e
    rcases eqH_of S e with ⟨sc, e2⟩ | ⟨da, db, h1, h2, s1, s2, e2⟩
    · exact .inl ⟨sc, by have := q trivial; rw [e2] at this; exact this⟩
    · exact .inr ⟨da, db, h1, h2, s1, s2, by have := q trivial; rw [e2] at this; exact this⟩
  · exact q.elim
theorem bo_eq : Bo HL.oEq := by
  intro x y h; unfold HL.oEq; split
  · exact .inr ⟨_, rfl⟩
  · exact .inl rfl
theorem bo_ne : Bo HL.oNe := by
  intro x y h; unfold HL.oNe; split
  · exact .inr ⟨_, rfl⟩
  · exact .inl rfl
end
end L2


set_option Elab.async false
set_option linter.all false
set_option maxRecDepth 100000
set_option maxHeartbeats 4000000
namespace L2
open PySem PySem.Spec PyProof.Rows
section
variable {X : Cx} {scope : Scope} {cs : List Str} {pins : List (Addr × Obj)} {σ : St} {H : Hp} {s : Shared} {fp : List Addr}
def capG (n : Nat) (js : List Nat) (σ : St) : St := List.replicate n none ++ js.map fun j => (σ[j]?).getD none
theorem comp_startG {ts : List Str} {js : List Nat} {h₁ : Heap} {tk : Nat} {ob : Obj} (c : Cap X scope cs) (I : Inv X pins σ H s) (hf : ∀ b ∈ fp, FpOk X pins H b) (ho : ∀ b ∈ fp, ∃ o, s.heap.get? b = some o) (hj : js.map (fun j => X.N[j]?) = cs.map some)
    (hns : h₁.Ns s.heap.objs.size fun _ => none) (hsb : Heap.SameBut s.heap.objs.size (s.heap.push ob) h₁) : Inv (cxComp X scope cs (ts ++ cs) s H fp) [] (capG ts.length js σ) H { s with heap := h₁, toks := tk } := by
  have k : ∀ b o, s.heap.get? b = some o → h₁.get? b = some o := fun b o e => (hsb.2 b (Nat.ne_of_lt (Heap.lt_size e))).trans (Heap.get?_push_of_some _ e)
  refine ⟨comp_ok c I hf ho _, rfl, I.bare, Un.kept k, ⟨_, hns, fun i y v e1 e2 vis => ?_⟩, fun y a h => ?_, I.hok.fresh (Nat.le_refl _), fun y a h => I.freeC y a (c.sub h).1, (fun p hp => by cases hp), I.hok.kept k, ?_⟩
  · by_cases hit : i < ts.length
    · have e2' : (List.replicate ts.length (none : Option V) ++ js.map fun j => (σ[j]?).getD none)[i]? = some (some v) := e2
      rw [List.getElem?_append_left (by rw [List.length_replicate]; exact hit), List.getElem?_replicate, if_pos hit] at e2'
      cases e2'
    · have e1' : (ts ++ cs)[i]? = some y := e1
      have e2' : (List.replicate ts.length (none : Option V) ++ js.map fun j => (σ[j]?).getD none)[i]? = some (some v) := e2
      rw [List.getElem?_append_right (by omega)] at e1'
      rw [List.getElem?_append_right (by rw [List.length_replicate]; omega), List.length_replicate] at e2'
      generalize i - ts.length = i at e1' e2'
      rw [List.getElem?_map] at e2'
      have hji := congrArg (fun l => l[i]?) hj
      simp only [List.getElem?_map] at hji
      rw [e1'] at hji
      cases q : js[i]? with
      | none => rw [q] at e2'; cases e2'
      | some j =>
        rw [q] at e2' hji
        have hN : X.N[j]? = some y := Option.some.inj hji
        have hv : (σ[j]?).getD none = some v := Option.some.inj e2'
        have hσ : σ[j]? = some (some v) := by
          cases q2 : σ[j]? with
          | none => rw [q2] at hv; cases hv
          | some z => rw [q2] at hv; rw [← hv]; rfl
        have hm : y ∈ cs := List.mem_of_getElem? e1'
        obtain ⟨m, hn, hl⟩ := I.loc
        obtain ⟨u, r, l⟩ := hl j y v hN hσ (.inr (.inl (c.kc y hm).1))
        refine ⟨u, r, .inr ⟨.inl (c.kc y hm).2, ?_⟩⟩
        rcases l with ⟨lk, _⟩ | ⟨_, a, ha, o, ho', hd⟩
        · have := (c.kc y hm).1
          have lk' : X.env.scope.names.lookup y = some .local := lk
          rw [this] at lk'
          cases lk'
        · refine ⟨a, ?_, o, k _ _ ho', hd⟩
          show (capL X cs).lookup y = some a
          rw [cap_look hm, ha]
          rfl
  · obtain ⟨v, o, ho', hd⟩ := I.cell y a (c.sub h).1
    exact ⟨v, o, k _ _ ho', hd⟩
  · have := congrArg List.length hj
    rw [List.length_map, List.length_map] at this
    show (capG ts.length js σ).length = (ts ++ cs).length
    unfold capG
    rw [List.length_append, List.length_append, List.length_replicate, List.length_map, this]
def compGoG (J : It) (g : TG) (tc : TT) (te : TE) (acc : Addr) (σ : St) (H : Hp) (Q : VK) : Prop := ∃ W : Nat → Nat → St → Hp → Prop, (∃ m, W 0 m σ (upd H acc (.lst []))) ∧ ∀ i m σ H, W i m σ H →
  (J.stop i H ∧ Q (.ref acc) H) ∨ (J.go i H ∧ ∃ Nx : St → Hp → Prop, (∀ σ' H', Nx σ' H' → ∃ m', m' < m ∧ W (i + 1) m' σ' H') ∧ ∀ x H', J.yld i H x H' → g x σ H' fun σ2 H2 => tc σ2 H2 fun k H3 => if k = true then te σ2 H3 fun v H4 => ∃ ys, H4 acc = some (.lst ys) ∧ ys.length < sizeLine ∧ Nx σ2 (upd H4 acc (.lst (ys ++ [v]))) else Nx σ2 H3)
def tCompG (wi : TI) (n : Nat) (js : List Nat) (g : TG) (tc : TT) (te : TE) : TE := fun σ H Q => wi σ H fun J H1 => ∀ acc, H1 acc = none → compGoG J g tc te acc (capG n js σ) H1 Q
def PTs (X : Cx) (ifs : List Expr) (tc : TT) : Prop := ∀ (pins : List (Addr × Obj)) (s : Shared) (σ : St) (H : Hp) (Q : Bool → Hp → Prop), Inv X pins σ H s → tc σ H Q →
  wpAny (model X.prog X.w) X.A (forIn ifs true fun c r => if r = true then do let ok ← isTrue c X.env (eval c X.env); pure (ForInStep.yield ok) else pure (ForInStep.yield r)) (TP X pins σ Q) X.xe s
theorem pts_nil : PTs X [] (fun _ H Q => Q true H) := fun pins s σ H Q I h => wpAny_tests_nil ⟨H, I, h⟩
theorem pts_one {c : Expr} {tc : TT} (h : PT X c tc) : PTs X [c] tc := fun pins s σ H Q I hw => wpAny_tests_one (h pins s σ H Q I hw)
theorem comp_core {elt iter tg : Expr} {ifs : List Expr} {ts : List Str} {pos : Pos} {wi : TI} {js : List Nat} {g : TG} {tc : TT} {te : TE} (c : Cap X scope cs) (hc : X.calm = true) (hj : js.map (fun j => X.N[j]?) = cs.map some) (hi : PI X tg iter wi)
    (hg : ∀ s₀ H₀ ex, PG (cxComp X scope cs (ts ++ cs) s₀ H₀ ex) tg g) (he : ∀ s₀ H₀ ex, PE (cxComp X scope cs (ts ++ cs) s₀ H₀ ex) elt te)
    (ht : ∀ s₀ H₀ ex, PTs (cxComp X scope cs (ts ++ cs) s₀ H₀ ex) ifs tc)
    (hs : ∀ x, foldedSetIterable iter X.env x = pure x := by intro _; rfl) {use : Option (Value → Sem Unit)} {Qf : Value → Shared → Prop} {pos' : Pos} {Q : VK} (I : Inv X pins σ H s)
    (fin : ∀ (fp' : List Addr) (s3 : Shared) (H3 : Hp) (acc : Addr) (σ' : St) (H' : Hp) (s4 : Shared), Inv X pins σ H3 s3 → (∀ b ∈ fp', FpOk X pins H3 b) → Inv (cxComp X scope cs (ts ++ cs) s3 H3 fp') [] σ' H' s4 → Q (.ref acc) H' →
      compPost (model X.prog X.w) X.A X.xe use Qf (.ref acc) s3.heap.objs.size (.ok .next) s4) (h : tCompG wi ts.length js g tc te σ H Q) :
    wpAny (model X.prog X.w) X.A (comprehension (.ListComp elt [⟨tg, iter, ifs, 0⟩] scope pos) scope X.env pos' (newList []) false (eval iter X.env) use) Qf X.xe s := by
  refine wpAny_comprehension_free (use := use) rfl hs c.clos c.kind c.names (thn (hi pins s σ H _ I h) fun xv s1 h1 => thn h1 fun itv s2 h2 => ?_)
  obtain ⟨it, fp, tn, J, H2, e, I2, T, st2, f2, q⟩ := h2
  subst e
  have hn2 : H2 s2.heap.objs.size = none := I2.hok.fresh (Nat.le_refl _)
  obtain ⟨W, ⟨m0, w0⟩, turn⟩ := q _ hn2
  refine wpAny_newObj_type ?_ (by show 0 ≤ sizeLine; exact Nat.zero_le _)
  have I3 : Inv X pins σ (upd H2 s2.heap.objs.size (.lst [])) { s2 with heap := s2.heap.push { cls := .type "list", data := .seq ([] : List Value).toArray } } := Inv.lnew (t' := s2.toks) I2 .nil (Nat.zero_le _)
  have f3 : ∀ b ∈ fp, FpOk X pins (upd H2 s2.heap.objs.size (.lst [])) b := fun b hb => by
    obtain ⟨o, ho, _⟩ := T.obj _ _ st2 b hb
    exact ⟨by rw [upd_ne (Nat.ne_of_lt (Heap.lt_size ho))]; exact (f2 b hb).1, (f2 b hb).2⟩
  have o3 : ∀ b ∈ fp, ∃ o, (s2.heap.push { cls := .type "list", data := .seq ([] : List Value).toArray }).get? b = some o := fun b hb => by
    obtain ⟨o, ho, _⟩ := T.obj _ _ st2 b hb
    exact ⟨o, Heap.get?_push_of_some _ ho⟩
  have st3 : tn 0 (s2.heap.push { cls := .type "list", data := .seq ([] : List Value).toArray }) := T.keep _ _ _ st2 fun b _ o ho => Heap.get?_push_of_some _ ho
  generalize hs3 : ({ s2 with heap := s2.heap.push { cls := .type "list", data := .seq ([] : List Value).toArray } } : Shared) = s3 at I3
  have hs3h : s3.heap = s2.heap.push { cls := .type "list", data := .seq ([] : List Value).toArray } := by rw [← hs3]
  rw [← hs3h] at o3 st3
  show wpAny _ _ (newFunctionEnv scope X.env.globals (capL X cs) [] X.env.qual none .none (some X.env)) _ _ _
  refine wpAny_newFunctionEnv c.nocell (by intro y hy; cases hy) (fun h₁ hns hsb => ?_) c.kind
  have hns' : h₁.Ns s3.heap.objs.size fun _ => none := hns
  have ok := comp_ok c I3 f3 o3 (ts ++ cs)
  have I4 := comp_startG (ts := ts) (tk := s3.toks) c I3 f3 o3 hj hns' hsb
  have st4 : tn 0 h₁ := T.keep _ _ _ st3 fun b hb o ho => (hsb.2 b (Nat.ne_of_lt (Heap.lt_size ho))).trans (Heap.get?_push_of_some _ ho)
  have stat : ∀ {H' : Hp}, (∀ b ∈ fp, H' b = none) → ∀ b ∈ fp, FpOk (cxComp X scope cs (ts ++ cs) s3 (upd H2 s2.heap.objs.size (.lst [])) fp) [] H' b := fun hn b hb => ⟨hn b hb, (ok.exf b hb).1, ok.exfs b hb, .inl hb, (ok.exf b hb).2, fun p hp => by cases hp⟩
  show codeAny _ _ (.compStart (.ListComp elt [⟨tg, iter, ifs, 0⟩] scope pos) 0 (.ref it) (.ref s2.heap.objs.size) (cxComp X scope cs (ts ++ cs) s3 (upd H2 s2.heap.objs.size (.lst [])) fp).env) (compPost (model X.prog X.w) X.A X.xe use Qf (.ref s2.heap.objs.size) s3.heap.objs.size) { s3 with heap := h₁, toks := s3.toks }
  have loop : codeAny (model X.prog X.w) X.A (.compLoop (.ListComp elt [⟨tg, iter, ifs, 0⟩] scope pos) 0 (.ref it) (.ref s2.heap.objs.size) (cxComp X scope cs (ts ++ cs) s3 (upd H2 s2.heap.objs.size (.lst [])) fp).env) (compPost (model X.prog X.w) X.A X.xe use Qf (.ref s2.heap.objs.size) s3.heap.objs.size) { s3 with heap := h₁, toks := s3.toks } := by
    refine codeAny_loop rfl (fun n s' => ∃ i σ' H', Inv (cxComp X scope cs (ts ++ cs) s3 (upd H2 s2.heap.objs.size (.lst [])) fp) [] σ' H' s' ∧ tn i s'.heap ∧ (∀ b ∈ fp, H' b = none) ∧ W i n σ' H') (fun n s' hI => ?_) m0 ⟨0, _, _, I4, st4, fun b hb => (f3 b hb).1, w0⟩
    obtain ⟨i, σ', H', J', st', fr', w'⟩ := hI
    show wpAny _ _ ((compTurn (.ListComp elt [⟨tg, iter, ifs, 0⟩] scope pos) 0 (.ref it) (.ref s2.heap.objs.size) (cxComp X scope cs (ts ++ cs) s3 (upd H2 s2.heap.objs.size (.lst [])) fp).env).onRaise (fun xx => do noteFrame xx (cxComp X scope cs (ts ++ cs) s3 (upd H2 s2.heap.objs.size (.lst [])) fp).env; theTreesLotGoes xx)) _ _ s'
    refine wpAny_noted ?_
    rw [compTurn_list]
    refine wpAny_bind (wpAny_standAt (wpAny_bind ?_))
    rcases turn i n σ' H' w' with ⟨stop, qn⟩ | ⟨go, Nx, hN, step⟩
    · refine thn (T.done (cxComp X scope cs (ts ++ cs) s3 (upd H2 s2.heap.objs.size (.lst [])) fp) rfl rfl rfl hc i [] s' σ' H' _ J' (stat fr') st' stop) fun r s4 ⟨hr, J4⟩ => ?_
      subst hr
      exact wpAny_pure (fin _ _ _ _ _ _ _ I3 f3 J4 qn)
    · refine thn (T.item (cxComp X scope cs (ts ++ cs) s3 (upd H2 s2.heap.objs.size (.lst [])) fp) rfl rfl rfl hc i [] s' σ' H' _ J' (stat fr') st' go) fun r s4 ⟨u, hr, h4⟩ => ?_
      subst hr
      refine wpAny_bind (thn h4 fun _ s5 ⟨xv, H5, J5, r5, y5, st5, fr5⟩ => ?_)
      have J5' := J5.pinned (stat fr5) (T.obj _ _ st5)
      refine wpAny_bind (wpAny_mono (hg _ _ _ _ s5 σ' H5 xv u _ J5' r5 (step xv H5 y5)) (fun _ s6 ⟨σ6, H6, J6, q6⟩ => ?_) fun _ _ z => z.elim)
      have fin2 : ∀ {σ8 : St} {H8 : Hp} {s8 : Shared}, Inv (cxComp X scope cs (ts ++ cs) s3 (upd H2 s2.heap.objs.size (.lst [])) fp) ([] ++ pinsAt fp s5.heap) σ8 H8 s8 → Nx σ8 H8 → ∃ m', m' < n ∧ ∃ i σ' H', Inv (cxComp X scope cs (ts ++ cs) s3 (upd H2 s2.heap.objs.size (.lst [])) fp) [] σ' H' s8 ∧ tn i s8.heap ∧ (∀ b ∈ fp, H' b = none) ∧ W i m' σ' H' := fun {σ8 H8 s8} J8 n8 => by
        obtain ⟨m', hm, w8⟩ := hN σ8 H8 n8
        refine ⟨m', hm, i + 1, σ8, H8, J8.unpinned, T.keep _ _ _ st5 fun b hb o e => (J8.pin (b, o) (List.mem_append_right _ (List.mem_append_right _ (mem_pinsAt hb e)))).1, fun b hb => ?_, w8⟩
        obtain ⟨o, e, d⟩ := T.obj _ _ st5 b hb
        exact (J8.pin (b, o) (List.mem_append_right _ (List.mem_append_right _ (mem_pinsAt hb e)))).2.1
      refine wpAny_bind (wpAny_mono (ht _ _ _ _ s6 σ6 H6 _ J6 q6) (fun kb s6' ⟨H6', J6', q6'⟩ => ?_) fun _ _ z => z.elim)
      cases kb with
      | false =>
        have n6 : Nx σ6 H6' := q6'
        exact wpAny_pure ⟨rfl, fin2 J6' n6⟩
      | true =>
        have q7 : te σ6 H6' _ := q6'
        refine wpAny_bind (wpAny_bind (wpAny_mono (he _ _ _ _ s6' σ6 H6' _ J6' q7) (fun v s7 ⟨vv, H7, J7, r7, ys, e7, l7, n7⟩ => ?_) fun _ _ z => z.elim))
        refine wpAny_bind (wpAny_mono (mt_append (X := (cxComp X scope cs (ts ++ cs) s3 (upd H2 s2.heap.objs.size (.lst [])) fp)) _ s7 σ6 H7 (.ref s2.heap.objs.size) [vv] (.ref s2.heap.objs.size) [v] (fun _ H8 => Nx σ6 H8) J7 rfl (.cons r7 .nil) ⟨_, ys, vv, rfl, rfl, e7, l7, n7⟩) (fun _ s8 ⟨_, H8, J8, _, n8⟩ => ?_) fun _ _ z => z.elim)
        exact wpAny_pure (wpAny_pure ⟨rfl, fin2 J8 n8⟩)
  exact codeAny_compStart_list loop (T.self _ 0 _ _ _ st4 loop)
theorem pe_compG {elt iter tg : Expr} {ifs : List Expr} {ts : List Str} {pos : Pos} {wi : TI} {js : List Nat} {g : TG} {tc : TT} {te : TE} (c : Cap X scope cs) (hc : X.calm = true) (hj : js.map (fun j => X.N[j]?) = cs.map some) (hi : PI X tg iter wi)
    (hg : ∀ s₀ H₀ ex, PG (cxComp X scope cs (ts ++ cs) s₀ H₀ ex) tg g) (he : ∀ s₀ H₀ ex, PE (cxComp X scope cs (ts ++ cs) s₀ H₀ ex) elt te)
    (ht : ∀ s₀ H₀ ex, PTs (cxComp X scope cs (ts ++ cs) s₀ H₀ ex) ifs tc)
    (hs : ∀ x, foldedSetIterable iter X.env x = pure x := by intro _; rfl) : PE X (.ListComp elt [⟨tg, iter, ifs, 0⟩] scope pos) (tCompG wi ts.length js g tc te) := by
  intro pins s σ H Q I h
  rw [eval_ListComp]
  refine comp_core c hc hj hi hg he ht hs I (fun fp' s3 H3 acc σ' H' s4 I3 f3 J4 qn => ?_) h
  obtain ⟨m, hn, _⟩ := J4.loc
  exact ⟨m, hn, fun h' hs' => ⟨.ref acc, H', comp_end c I3 f3 J4 hs', rfl, qn⟩⟩
end
end L2


set_option Elab.async false
set_option linter.all false
set_option maxRecDepth 100000
set_option maxHeartbeats 4000000
namespace L2
open PySem PySem.Spec PyProof.Rows
open HL (W SO Sh Sg OR DE DT DA DS Fn)
section
variable {X : Cx} {γ : Str → Addr} {a b c e : Expr} {da db dc de : DE} {pos : Pos}
theorem lim_lt {n : Nat} (h : n < HL.LIM) : n < sizeLine := by
  have : HL.LIM = 100000 := rfl
  rw [sizeLine_eq]; omega
theorem stays_app {t : HL.It} {h : Sh} {o : SO} (st : t.stays h) : t.stays (h ++ [o]) := by
  have key : ∀ (i : Nat) (u : SO), h[i]? = some u → (h ++ [o])[i]? = some u := fun i u e => by
    rw [List.getElem?_append_left (List.getElem?_eq_some_iff.mp e).1]; exact e
  cases t with
  | fix xs => trivial
  | lst i xs =>
    have st' : HL.lstW h (.ref i) = some xs := st
    show HL.lstW _ (.ref i) = some xs
    unfold HL.lstW at st' ⊢
    simp only at st' ⊢
    cases q : h[i]? with
    | none => rw [q] at st'; cases st'
    | some u => rw [key i u q]; rw [q] at st'; exact st'
  | tup i xs =>
    have st' : HL.tupW h (.ref i) = some xs := st
    show HL.tupW _ (.ref i) = some xs
    unfold HL.tupW at st' ⊢
    simp only at st' ⊢
    cases q : h[i]? with
    | none => rw [q] at st'; cases st'
    | some u => rw [key i u q]; rw [q] at st'; exact st'
theorem stays_set {t : HL.It} {h : Sh} {k : Nat} {ys zs : List W} (st : t.stays h) (e : h[k]? = some (.lst ys)) (ne : ∀ i xs, t = .lst i xs → i ≠ k) : t.stays (h.set k (.lst zs)) := by
  cases t with
  | fix xs => trivial
  | lst i xs =>
    have st' : HL.lstW h (.ref i) = some xs := st
    show HL.lstW _ (.ref i) = some xs
    unfold HL.lstW at st' ⊢
    simp only at st' ⊢
    rw [List.getElem?_set_ne (fun z => ne i xs rfl z.symm)]
    exact st'
  | tup i xs =>
    have st' : HL.tupW h (.ref i) = some xs := st
    show HL.tupW _ (.ref i) = some xs
    unfold HL.tupW at st' ⊢
    have hne : k ≠ i := fun z => by
      subst z
      simp only [e] at st'
      cases st'
    simp only at st' ⊢
    rw [List.getElem?_set_ne hne]
    exact st'
theorem capG_eq {ρ : Nat → Addr} (n : Nat) (js : List Nat) (s : Sg) : capG n js (renS γ ρ s) = renS γ ρ (HL.capS n js s) := by
  unfold capG renS HL.capS
  rw [List.map_append, List.map_replicate, List.map_map]
  congr 1
  refine List.map_congr_left fun j _ => ?_
  simp only [Function.comp, List.getElem?_map]
  cases s[j]? with
  | none => rfl
  | some z => rfl
theorem wf_cap {m n : Nat} {js : List Nat} {s : Sg} (w : wfS m s) : wfS m (HL.capS n js s) := fun x hx => by
  unfold HL.capS at hx
  rcases List.mem_append.mp hx with z | z
  · cases (List.mem_replicate.mp z).2
  · obtain ⟨j, _, e⟩ := List.mem_map.mp z
    cases q : s[j]? with
    | none => rw [q] at e; cases e
    | some y =>
      rw [q] at e
      have e' : y = some x := e
      subst e'
      exact w x (List.mem_of_getElem? q)
theorem comp_of {di : HL.DI} {g : HL.DG} {dt : DT} {n : Nat} {js : List Nat} (σ : St) (H : Hp) (Q : VK) (x : eE X.K γ (HL.dComp di n js g dt de) σ H Q) : tCompG (eI X.K γ di) n js (eG X.K γ g) (eT X.K γ dt) (eE X.K γ de) σ H Q := by
  obtain ⟨ρ, s, h, S, x⟩ := x
  unfold HL.dComp at x
  refine ⟨ρ, s, h, S, ?_⟩
  cases q : di s h with
  | ex => rw [q] at x; exact x.elim
  | er => rw [q] at x; exact x.elim
  | ok t h1 =>
    rw [q] at x
    simp only [HL.R.bind] at x
    intro ρ1 H1 J n1 S1 st ⟨wi, wl⟩ acc hacc
    have T1 := S.next n1 S1
    have S2 : SimH X.K γ (put ρ1 h1.length acc) (h1 ++ [.lst []]) (upd H1 acc (.lst [])) := S1.push (o := .lst []) (fun y hy => by cases hy) (Ext.upd _ hacc) hacc upd_same
    have n2 := Nxt.push h1 ρ1 (.lst []) acc
    generalize hρ : put ρ1 h1.length acc = ρ2 at S2 n2
    have at2 : ρ2 h1.length = acc := by rw [← hρ]; exact put_at _ _ _
    generalize hh : h1 ++ [.lst []] = h2 at S2 n2 x
    have lt2 : h1.length < h2.length := by rw [← hh]; simp
    have st2 : t.stays h2 := by rw [← hh]; exact stays_app st
    have x2 := GoodR.later x (n1.trans n2)
    have T2 : Sim X.K γ ρ2 (HL.capS n js s) h2 (capG n js σ) (upd H1 acc (.lst [])) := ⟨S2, wf_cap ((S.ws.mono n1.le).mono n2.le), by rw [S.eq, capG_eq]; exact renS_ag (wf_cap S.ws) (n1.trans n2).ag⟩
    let St' : Nat → St → Hp → Prop := fun i σ' H' => i ≤ t.items.length ∧ ∃ ρ3 s3 h3, Sim X.K γ ρ3 s3 h3 σ' H' ∧ Nxt h2 ρ2 h3 ρ3 ∧ t.stays h3 ∧ GoodV X.K γ ρ3 h3 (HL.compW t g dt de h1.length (t.items.drop i) s3 h3) Q
    refine ⟨fun i m σ' H' => m = t.items.length - i ∧ St' i σ' H', ⟨_, rfl, Nat.zero_le _, ρ2, _, h2, T2, Nxt.refl _ _, st2, x2⟩, ?_⟩
    rintro i m σ' H' ⟨rfl, hi, ρ3, s3, h3, T3, n3, st3, g3⟩
    obtain ⟨w1, w2⟩ := wl ρ3 h3 H' (n2.trans n3) T3.hp st3 i
    cases e : t.items[i]? with
    | none =>
      have hl : t.items.length ≤ i := List.getElem?_eq_none_iff.mp e
      rw [List.drop_eq_nil_of_le hl] at g3
      refine .inl ⟨w1 hl, ?_⟩
      have z := g3 ρ3 H' (Nxt.refl _ _) T3.hp (Nat.lt_of_lt_of_le lt2 n3.le)
      rw [show renW γ ρ3 (.ref h1.length) = V.ref acc from congrArg V.ref ((n3.ag _ lt2).symm.trans at2)] at z
      exact z
    | some y =>
      obtain ⟨hlt, ey⟩ := List.getElem?_eq_some_iff.mp e
      obtain ⟨go, yl⟩ := w2 y e
      refine .inr ⟨go, St' (i + 1), fun σ3 H3 z => ⟨_, by omega, rfl, z⟩, fun v H3 hv => ?_⟩
      obtain ⟨rfl, rfl⟩ := yl v H3 hv
      rw [List.drop_eq_getElem_cons hlt, ey] at g3
      unfold HL.compW at g3
      have wy : wf h3.length y := ((wi y (List.mem_of_getElem? e)).mono n2.le).mono n3.le
      cases q3 : g y s3 h3 with
      | none => rw [q3] at g3; exact g3.elim
      | some s4 =>
        rw [q3] at g3
        simp only at g3
        refine ⟨ρ3, s3, h3, y, T3, rfl, wy, s4, q3, fun w4 => ?_⟩
        have T4 : Sim X.K γ ρ3 s4 h3 (renS γ ρ3 s4) H3 := ⟨T3.hp, w4, rfl⟩
        refine ⟨ρ3, s4, h3, T4, GoodR.bind g3 fun kb h5 ρ5 H5 _ n5 S5 _ g5 => ?_⟩
        have T5 := T4.next n5 S5
        cases kb with
        | false =>
          simp only [Bool.false_eq_true, if_false] at g5 ⊢
          split at g5
          · rename_i st5
            exact ⟨hlt, ρ5, s4, h5, T5, n3.trans n5, st5, g5⟩
          · exact g5.elim
        | true =>
          simp only [if_true] at g5 ⊢
          refine ⟨ρ5, s4, h5, T5, GoodR.bind g5 fun v h6 ρ6 H6 _ n6 S6 w6 g6 => ?_⟩
          have T6 := T5.next n6 S6
          have at6 : ρ6 h1.length = acc := ((((n3.trans n5).trans n6).ag _ lt2).symm).trans at2
          cases q6 : h6[h1.length]? with
          | none => rw [q6] at g6; exact g6.elim
          | some ob =>
            rw [q6] at g6
            cases ob with
            | lst ys =>
              simp only at g6
              split at g6
              · rename_i cond
                have ob6 : H6 (ρ6 h1.length) = some (.lst (ys.map (renW γ ρ6))) := S6.ob _ _ q6
                rw [at6] at ob6
                refine ⟨_, ob6, by rw [List.length_map]; exact lim_lt cond.1, ?_⟩
                have S7 := S6.chg (u := .lst (ys ++ [v])) (v := .lst ((ys ++ [v]).map (renW γ ρ6))) q6 rfl rfl (by
                  intro z hz
                  rcases List.mem_append.mp hz with z1 | z1
                  · exact S6.wf _ _ q6 z z1
                  · rw [List.mem_singleton.mp z1]; exact w6) upd_same
                rw [at6, List.map_append] at S7
                refine ⟨hlt, ρ6, s4, _, ⟨S7, by rw [List.length_set]; exact T6.ws, T6.eq⟩, ((n3.trans n5).trans n6).trans (Nxt.chg _ _ _ _), ?_, GoodR.later g6 (Nxt.chg _ _ _ _)⟩
                refine stays_set cond.2.1 q6 fun j xs ej z => ?_
                subst ej
                have st0 : HL.lstW h1 (.ref j) = some xs := st
                rw [z] at st0
                unfold HL.lstW at st0
                simp only [List.getElem?_eq_none_iff.mpr (Nat.le_refl h1.length)] at st0
                cases st0
              · exact g6.elim
            | _ => exact g6.elim
theorem qts_nil {X : Cx} {γ : Str → Addr} : PTs X [] (eT X.K γ HL.tTrue) := fun pins s σ H Q I ⟨ρ, t, h, S, x⟩ => pts_nil pins s σ H Q I (x ρ H (Nxt.refl _ _) S.hp trivial)
theorem qts_one {X : Cx} {γ : Str → Addr} {c : Expr} {dt : DT} (h : QT γ X c dt) : PTs X [c] (eT X.K γ dt) := pts_one h
theorem q_comp {elt iter tg : Expr} {ifs : List Expr} {scope : Scope} {cs ts : List Str} {js : List Nat} {di : HL.DI} {g : HL.DG} {dt : DT} (c : Cap X scope cs) (hc : X.calm = true) (hj : js.map (fun j => X.N[j]?) = cs.map some) (hi : QI γ X tg iter di)
    (hg : ∀ s₀ H₀ ex, QG γ (cxComp X scope cs (ts ++ cs) s₀ H₀ ex) tg g) (ht : ∀ s₀ H₀ ex, PTs (cxComp X scope cs (ts ++ cs) s₀ H₀ ex) ifs (eT X.K γ dt)) (he : ∀ s₀ H₀ ex, QE γ (cxComp X scope cs (ts ++ cs) s₀ H₀ ex) elt de)
    (hs : ∀ x, foldedSetIterable iter X.env x = pure x := by intro _; rfl) : QE γ X (.ListComp elt [⟨tg, iter, ifs, 0⟩] scope pos) (HL.dComp di ts.length js g dt de) :=
  (pe_compG (ts := ts) c hc hj hi hg he ht hs).imp comp_of
end
end L2


set_option Elab.async false
set_option linter.all false
set_option maxRecDepth 100000
set_option maxHeartbeats 4000000
namespace L2
open PySem PySem.Spec PyProof.Rows
open HL (W SO Sh Sg OR DE DT DA DS Fn)
/-! ### all -/
section
variable {X : Cx} {K : PySem.W.Frag} {γ : Str → Addr}
/-! ### methods of built-in values -/
variable {e o : Expr} {es : List Expr} {d : DA} {de : DE} {name : Str} {apos cpos : Pos} {T id : String} {r : V → List V → Hp → VK → Prop} {f : W → List W → Sh → HL.R W} {t : W → Sh → Bool}
end
/-! ### isinstance -/
section
variable {X : Cx} {pins : List (Addr × Obj)} {σ : St} {H : Hp} {s : Shared}
theorem exc_kit {K : PySem.W.Frag} {a C : Addr} {ox : Obj} {od : Option Obj} (k : ExcIs K C) : PySem.W.KitX K (.ref a) (.ref C) (fun h => PySem.W.InstAt h a ox C od) := {
    ty := fun _ _ _ I => I.type
    it := fun _ h KX _ => by
      obtain ⟨bm, N, nm, qn, bs, sn, sub, ab, col, dd, k0, k1, k2, k3, k5, hC, T', hcl⟩ := exc_obj KX k.cl
      intro A' Q' E' s' kk q
      unfold isType loadHead
      exact wpAny_bind (wpAny_loadPart (kk _ _ hC) (wpAny_pure q))
    ne := fun h tp dd its n sl KX htp => by
      obtain ⟨bm, N, nm, qn, bs, sn, sub, ab, col, dd, k0, k1, k2, k3, k5, hC, T', hcl⟩ := exc_obj KX k.cl
      refine Bool.eq_false_iff.mpr fun q => ?_
      have e : C = tp := Value.ref.inj (beq_iff_eq.mp q)
      subst e
      have z := Option.some.inj (hC.symm.trans htp)
      have z2 := congrArg Obj.cls z
      injection z2 with z3
      exact absurd z3 (by decide)
    ca := fun KX I' kk => exc_class k KX I' kk }
inductive TyH (K : PySem.W.Frag) (H : Hp) : V → Value → Prop where
  | of {x t} : TyOf K H x t → TyH K H x t
  | lst {a xs} : SqL K H a xs → TyH K H (.ref a) (.type "list")
  | tup {a xs} : SqT K H a xs → TyH K H (.ref a) (.type "tuple")
  | exc {a C dx fs} : H a = some (.exc C dx fs) → ExcIs K C → TyH K H (.ref a) (.ref C)
theorem kit_of {x : V} {u t : Value} (I : Inv X pins σ H s) (r : RelV x u) (ty : TyH X.K H x t) : ∃ P, PySem.W.KitX X.K u t P ∧ P s.heap ∧ u ≠ .builtin "__main__.__loader__#opaque" := by
  cases ty with
  | of ty =>
    cases ty with
    | non => cases r; exact ⟨_, PySem.W.kitx_none, True.intro, fun z => nomatch z⟩
    | bl y => cases r; exact ⟨_, PySem.W.kitx_bool, True.intro, fun z => nomatch z⟩
    | int i => obtain ⟨t, rfl⟩ := r; exact ⟨_, PySem.W.kitx_int, True.intro, fun z => nomatch z⟩
    | str y => obtain ⟨t, rfl⟩ := r; exact ⟨_, PySem.W.kitx_str, True.intro, fun z => nomatch z⟩
    | flt y => obtain ⟨t, rfl⟩ := r; exact ⟨_, PySem.W.kitx_float, True.intro, fun z => nomatch z⟩
    | @lst a xs ea =>
      cases r
      obtain ⟨_, _, n, _, h1⟩ := (show ObjOk X.prog X.w H s.heap a (.lst xs) from I.hok a _ ea)
      exact ⟨_, PySem.W.kitx_list, ⟨_, h1, rfl⟩, fun z => nomatch z⟩
    | @frz a ob xs ea =>
      cases r
      obtain ⟨_, _, _, n, _, h1⟩ := (show ObjOk X.prog X.w H s.heap a (.frz ob (.lst xs)) from I.hok a _ ea)
      exact ⟨_, PySem.W.kitx_list, ⟨_, h1, rfl⟩, fun z => nomatch z⟩
    | @tup a xs ea =>
      cases r
      obtain ⟨_, _, _, p⟩ := (show ObjOk X.prog X.w H s.heap a (.tup xs) from I.hok a _ ea)
      obtain ⟨o, h1, h2, _⟩ := p
      exact ⟨_, PySem.W.kitx_tuple, ⟨o, h1, h2⟩, fun z => nomatch z⟩
    | @dK a kvs ea =>
      cases r
      obtain ⟨_, _, vs, _, p⟩ := (show ObjOk X.prog X.w H s.heap a (.dK kvs) from I.hok a _ ea)
      obtain ⟨o, es, ep, h1, h2, _⟩ := p
      exact ⟨_, PySem.W.kitx_dict, ⟨o, h1, h2.1⟩, fun z => nomatch z⟩
    | @dT a kvs ea =>
      cases r
      obtain ⟨_, _, xs, _, o, es, ep, h1, h2, _⟩ := (show ObjOk X.prog X.w H s.heap a (.dT kvs) from I.hok a _ ea)
      exact ⟨_, PySem.W.kitx_dict, ⟨o, h1, h2.1⟩, fun z => nomatch z⟩
    | @ins a C dx fs ea cl ha hn htk hm =>
      cases r
      obtain ⟨mA, O, _⟩ := ins_get I.hok ea
      obtain ⟨od, J, _⟩ := O.look
      exact ⟨_, PySem.W.kitx_own (cl.get _) cl.hd ha hn htk hm, J, fun z => nomatch z⟩
  | lst hq =>
    cases r
    obtain ⟨its, _, p, _⟩ := I.list hq
    obtain ⟨o, n, e, c, _⟩ := p
    exact ⟨_, PySem.W.kitx_list, ⟨o, e, c⟩, fun z => nomatch z⟩
  | tup hq =>
    cases r
    obtain ⟨its, _, p, _⟩ := I.tuple hq
    obtain ⟨o, h1, h2, _⟩ := p
    exact ⟨_, PySem.W.kitx_tuple, ⟨o, h1, h2⟩, fun z => nomatch z⟩
  | exc e k =>
    cases r
    obtain ⟨ox, od, J, _⟩ := exc_look I e
    exact ⟨_, exc_kit k, J, fun z => nomatch z⟩
theorem vals_cls : ∀ {cs : List V} {us : List Value}, Vals cs us → cs.all isC = true → us = cs.map clsOf
  | _, _, .nil, _ => rfl
  | c :: cs, u :: us, .cons r t, h => by
    rw [List.all_cons, Bool.and_eq_true] at h
    rw [List.map_cons, ← vals_cls t h.2, r.cls h.1]
def rIsiT (K : PySem.W.Frag) : List V → Hp → VK → Prop := fun xs H Q => ∃ x c t b, xs = [x, c] ∧ TyH K H x t ∧ Q (.bl b) H ∧
  ((isC c = true ∧ PySem.W.kitOne K t (clsOf c) = some b) ∨ ∃ a cs, c = .ref a ∧ SqT K H a cs ∧ cs.all isC = true ∧ PySem.W.kitAny K t (cs.map clsOf) = some b)
theorem call_isiT : CallR X (.builtin "isinstance") (rIsiT X.K) := by
  intro pins s σ H xs us Q I r h
  obtain ⟨x, c, t, b, rfl, ty, q, h⟩ := h
  obtain ⟨u, w', rfl, rx, rc'⟩ := vals2 r
  obtain ⟨P, Z, p, ne⟩ := kit_of I rx ty
  rcases h with ⟨hc, e⟩ | ⟨a, cs, rfl, ha, hcs, e⟩
  · rw [rc'.cls hc]
    exact PySem.W.kia_one Z I.kIn p e ne fun tk => ⟨.bl b, H, I.tok _, rfl, q⟩
  · cases rc'
    obtain ⟨its, rv, ⟨o, ho, hc, n, hd⟩, _⟩ := I.tuple ha
    obtain ⟨oc, od, odt, osl⟩ := o
    cases hc
    cases hd
    rw [← vals_cls rv hcs] at e
    exact PySem.W.kia_tup Z I.kIn p ho e ne fun tk => ⟨.bl b, H, I.tok _, rfl, q⟩
end
structure IsiOk (K : PySem.W.Frag) (γ : Str → Addr) (T : HL.CT) : Prop where
  cls : ∀ c l, T.lookup c = some l → (l.contains (.ty "ValueError") = false → InsOk K (γ c)) ∧ (l.contains (.ty "ValueError") = true → ExcIs K (γ c))
  ins : ∀ c l, T.lookup c = some l → ∀ x m, T.lookup x = some m → PySem.W.kitOne K (.ref (γ c)) (.ref (γ x)) = some (l.contains (.gl x))
  bi : ∀ c l, T.lookup c = some l → ∀ b ∈ HL.biN, PySem.W.kitOne K (.ref (γ c)) (.type b) = some (l.contains (.ty b))
  no : ∀ x m, T.lookup x = some m → ∀ a ∈ "NoneType" :: HL.biN, PySem.W.kitOne K (.type a) (.ref (γ x)) = some false
theorem kit_bi (K : PySem.W.Frag) : ∀ a ∈ "NoneType" :: HL.biN, ∀ b ∈ HL.biN, PySem.W.kitOne K (.type a) (.type b) = some (HL.subB a b) := by
  intro a ha b hb
  simp only [HL.biN, List.mem_cons, List.not_mem_nil, or_false] at ha hb
  rcases ha with rfl | rfl | rfl | rfl | rfl | rfl | rfl <;> rcases hb with rfl | rfl | rfl | rfl | rfl | rfl <;> rfl
section
variable {K : PySem.W.Frag} {γ : Str → Addr} {ρ : Nat → Addr} {h : Sh} {H : Hp} {T : HL.CT}
def tyK (γ : Str → Addr) : HL.Ty → Value
  | .bi n => .type n
  | .own _ c => .ref (γ c)
def tyIn (T : HL.CT) : HL.Ty → Prop
  | .bi n => n ∈ "NoneType" :: HL.biN
  | .own k c => ∃ l, T.lookup c = some l ∧ l.contains (.ty "ValueError") = k
theorem tyW_bi {x : W} {n : String} (e : HL.tyW h x = some (.bi n)) : n ∈ "NoneType" :: HL.biN := by
  unfold HL.tyW at e
  cases x with
  | ref j =>
    simp only at e
    cases q : h[j]? with
    | none => rw [q] at e; cases e
    | some o => rw [q] at e; cases o <;> cases e <;> decide
  | ty _ => cases e
  | gl _ => cases e
  | _ => cases e; decide
theorem tyW_of {x : W} {t : HL.Ty} (O : IsiOk K γ T) (S : SimH K γ ρ h H) (e : HL.tyW h x = some t) (i : tyIn T t) : TyH K H (renW γ ρ x) (tyK γ t) := by
  cases x with
  | non => cases e; exact .of .non
  | bl b => cases e; exact .of (.bl b)
  | int j => cases e; exact .of (.int j)
  | str y => cases e; exact .of (.str y)
  | ref j =>
    unfold HL.tyW at e
    simp only at e
    cases q : h[j]? with
    | none => rw [q] at e; cases e
    | some o =>
      rw [q] at e
      have ob := S.ob j o q
      cases o with
      | lst xs => cases e; exact .lst (SqL.of ob)
      | rol xs => cases e; exact .lst (show RoL _ _ _ _ from ob).sq
      | tup xs => cases e; exact .tup ob
      | ins c fs =>
        cases e
        obtain ⟨dx, hd⟩ := ob
        obtain ⟨l, hl, hk⟩ := i
        have k := (O.cls c l hl).1 hk
        exact .of (.ins hd k.cl k.ha k.hn k.htk k.hm)
      | exc c fs =>
        cases e
        obtain ⟨dx, hd⟩ := ob
        obtain ⟨l, hl, hk⟩ := i
        exact .exc hd ((O.cls c l hl).2 hk)
  | _ => cases e
theorem isi1_of {t : HL.Ty} {c : W} {b : Bool} (O : IsiOk K γ T) (e : HL.isi1 T t c = some b) (bi : ∀ n, t = .bi n → n ∈ "NoneType" :: HL.biN) : tyIn T t ∧ isC (renW γ ρ c) = true ∧ PySem.W.kitOne K (tyK γ t) (clsOf (renW γ ρ c)) = some b := by
  unfold HL.isi1 at e
  split at e
  · rename_i a b' 
    split at e
    · rename_i hb
      cases e
      have ha := bi a rfl
      exact ⟨ha, rfl, kit_bi K a ha b' (List.contains_iff_mem.mp hb)⟩
    · cases e
  · rename_i a x
    split at e
    · rename_i hx
      cases e
      have ha := bi a rfl
      cases q : T.lookup x with
      | none => rw [q] at hx; cases hx
      | some m => exact ⟨ha, rfl, O.no x m q a ha⟩
    · cases e
  · rename_i k a
    split at e
    · rename_i l hl
      split at e
      · rename_i hk
        split at e
        · rename_i b'
          split at e
          · rename_i hb; cases e; exact ⟨⟨l, hl, hk⟩, rfl, O.bi a l hl b' (List.contains_iff_mem.mp hb)⟩
          · cases e
        · rename_i x
          split at e
          · rename_i hx
            cases e
            cases q : T.lookup x with
            | none => rw [q] at hx; cases hx
            | some m => exact ⟨⟨l, hl, hk⟩, rfl, O.ins a l hl x m q⟩
          · cases e
        · cases e
      · cases e
    · cases e
  · cases e
theorem isiN_of {t : HL.Ty} (O : IsiOk K γ T) (bi : ∀ n, t = .bi n → n ∈ "NoneType" :: HL.biN) : ∀ (cs : List W) (b : Bool), HL.isiN T t cs = some b → cs ≠ [] → tyIn T t ∧ (∀ c ∈ (cs.map (renW γ ρ)).take 1, isC c = true) ∧ PySem.W.kitAny K (tyK γ t) ((cs.map (renW γ ρ)).map clsOf) = some b
  | [], _, _, ne => absurd rfl ne
  | c :: cs, b, e, _ => by
    unfold HL.isiN at e
    cases q : HL.isi1 T t c with
    | none => rw [q] at e; cases e
    | some k =>
      rw [q] at e
      obtain ⟨ti, ic, kk⟩ := isi1_of (ρ := ρ) O q bi
      refine ⟨ti, ?_, ?_⟩
      · intro c' hc'
        rw [List.map_cons, List.take_succ_cons, List.take_zero] at hc'
        rw [List.mem_singleton.mp hc']; exact ic
      · rw [List.map_cons, List.map_cons]
        unfold PySem.W.kitAny
        rw [kk]
        cases k with
        | true => cases e; rfl
        | false =>
          simp only at e ⊢
          cases cs with
          | nil => cases e; rfl
          | cons c2 r => exact (isiN_of O bi (c2 :: r) b e (fun z => nomatch z)).2.2
theorem cs_isi (O : IsiOk K γ T) : CbS K γ (rIsiT K) (HL.bIsi T) := by
  intro ρ h H xs Q S w q
  unfold HL.bIsi at q
  split at q
  · rename_i x c
    split at q
    · rename_i b e
      have qq := q trivial
      unfold HL.isi at e
      cases q1 : HL.tyW h x with
      | none => rw [q1] at e; cases e
      | some t =>
        rw [q1] at e
        have bi : ∀ n, t = .bi n → n ∈ "NoneType" :: HL.biN := fun n z => by subst z; exact tyW_bi q1
        simp only at e
        split at e
        · rename_i i
          split at e
          · rename_i cs q2
            split at e
            · rename_i hcs
              obtain ⟨h1, h2⟩ := (Bool.and_eq_true _ _).mp hcs
              have ne : cs ≠ [] := fun z => by rw [z] at h2; cases h2
              obtain ⟨ti, _, kk⟩ := isiN_of (ρ := ρ) O bi cs b e ne
              refine ⟨_, _, _, b, rfl, tyW_of O S q1 ti, qq, .inr ⟨_, _, rfl, S.ob i _ q2, ?_, kk⟩⟩
              rw [List.all_map]
              refine List.all_eq_true.mpr fun c hc => ?_
              have := List.all_eq_true.mp h1 c hc
              cases c <;> first | rfl | cases this
            · cases e
          · cases e
        · obtain ⟨ti, ic, kk⟩ := isi1_of (ρ := ρ) O e bi
          exact ⟨_, _, _, b, rfl, tyW_of O S q1 ti, qq, .inl ⟨ic, kk⟩⟩
    · exact q.elim
  · exact q.elim
theorem nw_isi (x : List W) (h : Sh) : newOk (HL.bIsi T x h) = true := by
  unfold HL.bIsi; split
  · split <;> rfl
  · rfl
end
end L2


set_option Elab.async false
set_option linter.all false
set_option maxRecDepth 100000
set_option maxHeartbeats 4000000
namespace L2
open PySem PySem.Spec PyProof.Rows
open HL (W SO Sh Sg OR DE DT DA DS Fn)
/-! ### the law -/
def sp_lawR (K : PySem.W.Frag) : Sp := fun vs H Q _ => match vs with
  | [x] => ∃ (a : Addr) (ns : List Int), x = .ref a ∧ RoL K H a (ns.map V.int) ∧ ns.length ≤ 63 ∧ ∀ H', Q (.bl true) H'
  | _ => False
def LawR (P : Program) (w : World) (K : PySem.W.Frag) (mg : Str → Option Value) (k : Nat) : Prop := ∃ f fd, mg "law" = some (.ref f) ∧ (∀ (s : Shared) (u : Value), BindsTo s fd ⟨[u], []⟩ [("_law_script", u)]) ∧ ∀ base : Heap, FnOk P w K mg base CX0 k f fd ["_law_script"] (sp_lawR K)
theorem walk_lawR {l : PySem.W.OpenLaw} {k : Nat} {q : Program} {loose : List Str} {XP : (Str → Option Value) → Heap → Prop} {YP : World → Heap → Prop} {d : DefRec} {K : Params → PySem.W.Frag} (hn : l.most = some 63) (hdf : d.params.defaults = []) (hr : Room k callerA)
    (hY : ∀ (w : World) (h : Heap), YP w h → (K w.params).In h) (hd : d.name = "law")
    (hF : ∀ (w : World) (mg : Str → Option Value) (h : Heap), (K w.params).In h → h.Ns mainGlobals mg → LawR l.prog w (K w.params) mg k) :
    PySem.W.WalkO q loose XP YP l.row.toRowW d [] (fun f vs => PySem.call f vs) :=
  L2.walk_of (n := 63) (k := k) (x := "_law_script") (CX := fun _ => CX0) (sp := fun w => sp_lawR (K w.params)) hn (by decide) hdf hr hY (fun w mg fa h KX G hm => by
    rw [hd] at hm
    obtain ⟨f, fd, m, b, ok⟩ := hF w mg h KX G
    rw [m] at hm
    cases hm
    exact ⟨fd, b, fun base _ _ => ok base⟩) (fun w H a ns hl hO hS => ⟨a, ns, rfl, by
      rcases hS with (h | h) | h
      · rcases hO a with z | ⟨o, xs, z⟩
        · rw [h] at z; cases z
        · rw [h] at z; cases z
      · exact .inl h
      · exact .inr h, hl, fun _ => rfl⟩) fun _ _ _ _ _ z => z
structure ConsOk (K : PySem.W.Frag) (γ : Str → Addr) (ρ : Nat → Addr) (cs : List SO) : Prop where
  ob : ∀ (i : Nat) (o : SO), cs[i]? = some o → ∀ H, ObS γ ρ K H (ρ i) o
  mu : ∀ o ∈ cs, mutO o = false
  wf : ∀ o ∈ cs, wfO cs.length o
theorem ConsOk.nil {K : PySem.W.Frag} {γ : Str → Addr} {ρ : Nat → Addr} : ConsOk K γ ρ [] := ⟨(fun i o e => by simp at e), (fun o h => by cases h), (fun o h => by cases h)⟩
theorem law_start {K : PySem.W.Frag} {γ : Str → Addr} {ρ : Nat → Addr} {cs : List SO} {H : Hp} {a : Addr} {ns : List Int} (c : ConsOk K γ ρ cs) (r : RoL K H a (ns.map V.int)) : SimH K γ (put ρ cs.length a) (cs ++ [.rol (ns.map W.int)]) H where
  ob := fun i o e => by
    rw [getElem?_snoc] at e
    by_cases h1 : i < cs.length
    · rw [if_pos h1] at e
      rw [← put_ag ρ cs.length a i h1]
      exact (c.ob i o e H).ren (c.wf o (List.mem_of_getElem? e)) (put_ag _ _ _)
    · rw [if_neg h1] at e
      by_cases h2 : i = cs.length
      · rw [if_pos h2] at e
        cases e
        rw [h2, put_at]
        show RoL K H a _
        rw [List.map_map]
        exact r
      · rw [if_neg h2] at e; cases e
  inj := fun i j o u e1 e2 m1 m2 q => by
    have mu : ∀ i o, (cs ++ [SO.rol (ns.map W.int)])[i]? = some o → mutO o = false := fun i o e => by
      rcases List.mem_append.mp (List.mem_of_getElem? e) with z | z
      · exact c.mu o z
      · rw [List.mem_singleton.mp z]; rfl
    rw [mu i o e1] at m1; cases m1
  wf := fun i o e => by
    rcases List.mem_append.mp (List.mem_of_getElem? e) with z | z
    · exact (c.wf o z).mono (by simp)
    · rw [List.mem_singleton.mp z]
      intro x hx
      obtain ⟨n, _, rfl⟩ := List.mem_map.mp hx
      trivial
theorem TopFn.qlaw {P : Program} {w : World} {K : PySem.W.Frag} {mg : Str → Option Value} {γ : Str → Addr} {ρ : Nat → Addr} {cs : List SO} {st : Stmt} {N : List Str} {k n : Nat} {bd : DS} (F : TopFn K mg "law" st) (S : FnScope N ["_law_script"] (defScope st)) (hn : N.length = n) (c : ConsOk K γ ρ cs)
    (hb : ∀ (kV doc pm : Value) (an : Option Addr) (cdv ct : Value) (us : List Value), us.length = 1 → bindArgs (PySem.W.fnOf "law" "law" (defArgs st) (defBody st) (defScope st) .none kV doc pm an cdv ct) ⟨us, []⟩ = pure ((["_law_script"] : List Str).zip us))
    (hbody : ∀ (base : Heap) (f : Addr) (cdv : Value) (A : Around) (outer : List Env) (s : Shared) (H : Hp) (E : XK), Room k (A.deeper (envOfC "law" (defScope st) s.heap.objs.size f cdv)) →
      QSs γ (cxOf CX0 P w K mg base N "law" (defScope st) f cdv A outer s H E).nox (defBody st) bd)
    (good : ∀ ns : List Int, ns.length ≤ 63 → ∃ h', HL.fnOf 1 n bd [.ref cs.length] (cs ++ [.rol (ns.map W.int)]) = .ok (.bl true) h') : LawR P w K mg (k + 1) := by
  subst hn
  obtain ⟨f, fd, F, m⟩ := F.ex
  refine ⟨f, fd, m, fun s u => ?_, fun base => F.ok S (fun vs H Q E h => ?_) fun cdv A outer s H vs Q E hr h => ?_⟩
  · obtain ⟨oc, od, kV, doc, pm, an, cdv, ct, osl, rfl, lk, hcd⟩ := F.ex
    exact .of_eq (hb kV doc pm an cdv ct [u] rfl)
  · match vs, h with
    | [x], _ => rfl
  · match vs, h with
    | [x], ⟨a, ns, e, r, hl, q⟩ =>
      refine ⟨_, hbody base f cdv A outer s H E hr, ?_⟩
      subst e
      have S0 := law_start c r
      obtain ⟨h', e⟩ := good ns hl
      have := fn_good (N := N) (us := [.ref cs.length]) (bd := bd) (Q := Q) (p := 1) S0 (fun x hx => by rw [List.mem_singleton.mp hx]; show cs.length < (cs ++ [_]).length; simp) (by
        rw [e]
        exact fun _ H1 _ _ _ => q H1)
      rw [show ([W.ref cs.length].map (renW γ (put ρ cs.length a))) = [V.ref a] by simp [renW, put_at]] at this
      exact this
/-! ### xs[::-1] -/
section
variable {X : Cx} {γ : Str → Addr} {a : Expr} {da : DE} {pos p2 : Pos}
end
end L2


set_option Elab.async false
set_option linter.all false
set_option maxRecDepth 100000
set_option maxHeartbeats 4000000
namespace L2
open PySem PySem.Spec PyProof.Rows
open HL (W SO Sh Sg OR DE DT DA DS Fn)
section
variable {X : Cx} {γ : Str → Addr} {a b c e o : Expr} {da db dc de d1 : DE} {pos pos' apos : Pos}
theorem q_gint {x : Str} {i : Int} {u : Value} (hg : Gl X x) (hm : X.mg x = some u) (r : RelV (.int i) u) (hd : (x == ("__debug__" : Str)) = false := by decide) : QE γ X (.Name x pos) (HL.dC (.int i)) :=
  (pe_glob hg hm r hd).imp fun σ H Q ⟨ρ, s, h, S, x⟩ => x ρ H (Nxt.refl _ _) S.hp trivial
theorem lookup_ren {ρ : Nat → Addr} (f : Str) : ∀ fs : List (Str × W), (renF γ ρ fs).lookup f = (fs.lookup f).map (renW γ ρ)
  | [] => rfl
  | (g, x) :: r => by
    unfold renF
    rw [List.map_cons]
    by_cases e : f = g
    · subst e; simp only [List.lookup, beq_self_eq_true, Option.map_some]
    · have : (f == g) = false := by simpa using e
      simp only [List.lookup, this]
      exact lookup_ren f r
theorem mem_lookup {f : Str} {v : W} : ∀ {fs : List (Str × W)}, fs.lookup f = some v → ∃ p ∈ fs, p.2 = v
  | (g, x) :: r, e => by
    by_cases q : f = g
    · subst q
      simp only [List.lookup, beq_self_eq_true, Option.some.injEq] at e
      exact ⟨(f, x), List.mem_cons_self, e⟩
    · have z : (f == g) = false := by simpa using q
      simp only [List.lookup, z] at e
      obtain ⟨p, hp, hv⟩ := mem_lookup e
      exact ⟨p, List.mem_cons_of_mem _ hp, hv⟩
theorem put_ren {ρ : Nat → Addr} (f : Str) (v : W) : ∀ fs : List (Str × W), renF γ ρ (HL.putW f v fs) = putF f (renW γ ρ v) (renF γ ρ fs)
  | [] => rfl
  | (g, x) :: r => by
    unfold HL.putW
    by_cases e : g = f
    · rw [if_pos e]; simp only [renF, List.map_cons, putF, if_pos e]
    · rw [if_neg e]
      have ih := put_ren (ρ := ρ) f v r
      simp only [renF, List.map_cons, putF, if_neg e] at ih ⊢
      rw [ih]
theorem wf_putW {n : Nat} {f : Str} {v : W} (wv : wf n v) : ∀ {fs : List (Str × W)}, (∀ p ∈ fs, wf n p.2) → ∀ p ∈ HL.putW f v fs, wf n p.2
  | [], _, p, hp => by
    unfold HL.putW at hp
    rw [List.mem_singleton.mp hp]; exact wv
  | (g, x) :: r, w, p, hp => by
    unfold HL.putW at hp
    by_cases e : g = f
    · rw [if_pos e] at hp
      rcases List.mem_cons.mp hp with z | z
      · rw [z]; exact wv
      · exact w p (List.mem_cons_of_mem _ z)
    · rw [if_neg e] at hp
      rcases List.mem_cons.mp hp with z | z
      · rw [z]; exact w (g, x) List.mem_cons_self
      · exact wf_putW wv (fun q hq => w q (List.mem_cons_of_mem _ hq)) p z
def FldOk (K : PySem.W.Frag) (γ : Str → Addr) (cs : List Str) (f : Str) : Prop := ∀ c ∈ cs, Cls K (γ c) ∧ NoAttr K (γ c) f
theorem q_fld {cs : List Str} {f : Str} (k : FldOk X.K γ cs f) (he : QE γ X e de) (hb : attributeBase e f X.env (eval e X.env) = eval e X.env := by rfl) : QE γ X (.Attribute e f pos) (HL.dFld cs f de) :=
  (pe_fld he hb).imp fun σ H Q ⟨ρ, s, h, S, x⟩ => by
    unfold HL.dFld at x
    refine ⟨ρ, s, h, S, GoodR.bind x fun v h1 ρ1 H1 _ n1 S1 w1 x1 => ?_⟩
    cases v with
    | ref i =>
      simp only [HL.getF] at x1
      cases q : h1[i]? with
      | none => rw [q] at x1; exact x1.elim
      | some ob =>
        rw [q] at x1
        cases ob with
        | ins c fs =>
          simp only at x1
          split at x1
          · rename_i v e1
            split at e1
            · rename_i hc
              obtain ⟨dx, ea⟩ := S1.ob i _ q
              have k1 := k c (by simpa using hc)
              refine ⟨ρ1 i, γ c, dx, renF γ ρ1 fs, renW γ ρ1 v, rfl, ea, k1.1, k1.2, by rw [lookup_ren, e1]; rfl, ?_⟩
              obtain ⟨p, hp, rfl⟩ := mem_lookup e1
              exact x1 ρ1 H1 (Nxt.refl _ _) S1 (S1.wf i _ q p hp)
            · cases e1
          · exact x1.elim
        | _ => exact x1.elim
    | _ => exact x1.elim
theorem qs_fld {cs : List Str} {f : Str} (k : FldOk X.K γ cs f) (ho : QE γ X o d1) (he : QE γ X e de) (hs : swapsWith e (some (.Attribute o f pos')) pos.line X.env = pure false := by rfl) : QS γ X (.Assign [.Attribute o f pos'] e pos) (HL.sFld cs f d1 de) :=
  (ps_fld ho he hs).imp fun D σ H ⟨ρ, s, h, S, x⟩ => by
    unfold HL.sFld at x
    refine ⟨ρ, s, h, S, ?_⟩
    cases q1 : de s h with
    | ok v h1 =>
      rw [q1] at x
      intro ρ1 H1 n1 S1 w1
      have T1 := S.next n1 S1
      refine ⟨ρ1, s, h1, T1, ?_⟩
      simp only [HL.R.bind] at x
      cases q2 : d1 s h1 with
      | ok xo h2 =>
        rw [q2] at x
        intro ρ2 H2 n2 S2 w2
        have T2 := T1.next n2 S2
        simp only at x
        cases xo with
        | ref i =>
          simp only [HL.setF] at x
          cases q : h2[i]? with
          | none => rw [q] at x; exact x.elim
          | some ob =>
            rw [q] at x
            cases ob with
            | ins c fs =>
              simp only at x
              by_cases hc : cs.contains c = true ∧ fs.length < 1000
              · rw [if_pos hc] at x
                obtain ⟨dx, ea⟩ := S2.ob i _ q
                have k1 := k c (by simpa using hc.1)
                have wv := w1.mono n2.le
                refine ⟨ρ2 i, γ c, dx, renF γ ρ2 fs, rfl, ea, k1.1, k1.2, by simp only [renF, List.length_map]; exact hc.2, ?_⟩
                have S3 : SimH X.K γ ρ2 (h2.set i (.ins c (HL.putW f v fs))) (upd H2 (ρ2 i) (.ins (γ c) dx (putF f (renW γ ρ2 v) (renF γ ρ2 fs)))) :=
                  S2.chg q rfl rfl (wf_putW wv (S2.wf i _ q)) ⟨dx, by rw [upd_same, put_ren]⟩
                have z := x ρ2 _ ((n1.trans n2).trans (Nxt.chg _ _ i _)) S3 (by rw [List.length_set]; exact T2.ws)
                rw [ren_ag w1 n2.ag, T2.eq]
                exact z
              · rw [if_neg hc] at x; exact x.elim
            | _ => exact x.elim
        | _ => exact x.elim
      | ex => rw [q2] at x; exact x.elim
      | er => rw [q2] at x; exact x.elim
    | ex => rw [q1] at x; exact x.elim
    | er => rw [q1] at x; exact x.elim
/-! ### methods -/
def tMethG (G : Addr → Sp → Prop) (m : Str) (ta : TE) (t : TA) : TE := fun σ H Q => ta σ H fun x H1 => ∃ a C dx fs sp, x = .ref a ∧ H1 a = some (.ins C dx fs) ∧ fs.lookup m = none ∧ G C sp ∧
  t σ H1 fun vs H2 => sp (x :: vs) H2 Q E0
variable {G : Addr → Sp → Prop} {m : Str} {es : List Expr} {ta : TE} {t : TA}
theorem pe_methG {pl : Sem Bool} (hG : ∀ C sp, G C sp → Cls X.K C ∧ ∃ k ps, MDef X.prog X.w X.K X.mg X.base k C m ps sp ∧ Room k X.A) (he : PE X o ta) (ha : PA X (e :: es) t)
    (hst : starEach (e :: es) X.env = (false, eval e X.env) :: starEach es X.env := by rfl) (hpl : (backTo pos (starEach es X.env)).any (·.1) = false := by rfl)
    (ht : eval (.Call (.Attribute o m apos) (e :: es) [] pos) X.env = (do
      let ov ← eval o X.env
      standAt apos.atName
      let (f, first) ← holding [ov] (getMethod ov m pl)
      callWith pos f first (backTo pos (starEach (e :: es) X.env)) (backToKw pos (keywordEach [] X.env))) := by rfl) :
    PE X (.Call (.Attribute o m apos) (e :: es) [] pos) (tMethG G m ta t) := by
  intro pins s σ H Q I h
  refine PySem.W.methodCall_KW (pl := pl) (thn (he pins s σ H _ I h) fun u s1 ⟨x, H1, I1, rx, a, C, dx, fs, sp, ex, ea, l, g, q⟩ => ?_) ht
  subst ex
  obtain rfl : u = Value.ref a := rx
  obtain ⟨c, k, ps, D, hr⟩ := hG C sp g
  obtain ⟨f, fd, F, fa, n, kp, b⟩ := D.ex
  refine getmeth_ok I1 ea c ⟨fa, n, kp⟩ l ?_
  refine PySem.W.callWith_K (first := [.ref a]) (h₀ := X.base) I.ok.mod.kin kp (thn (ha pos pins s1 σ H1 _ I1 q) fun us s2 ⟨vs, H2, I2, r, q2⟩ => ⟨I2.kIn, ?_⟩) hst hpl
  exact run_fn (us := .ref a :: us) (vs := .ref a :: vs) (dvs := []) (ds := []) F hr b .nil pass0 I2 (.cons rfl r) (by rw [List.append_nil]; exact q2)
theorem pe_methG0 {pl : Sem Bool} (hG : ∀ C sp, G C sp → Cls X.K C ∧ ∃ k ps, MDef X.prog X.w X.K X.mg X.base k C m ps sp ∧ Room k X.A) (he : PE X o ta)
    (ht : eval (.Call (.Attribute o m apos) [] [] pos) X.env = (do
      let ov ← eval o X.env
      standAt apos.atName
      let (f, first) ← holding [ov] (getMethod ov m pl)
      callWith pos f first (backTo pos (starEach [] X.env)) (backToKw pos (keywordEach [] X.env))) := by rfl) :
    PE X (.Call (.Attribute o m apos) [] [] pos) (tMethG G m ta tNil) := by
  intro pins s σ H Q I h
  refine PySem.W.methodCall_KW (pl := pl) (thn (he pins s σ H _ I h) fun u s1 ⟨x, H1, I1, rx, a, C, dx, fs, sp, ex, ea, l, g, q⟩ => ?_) ht
  subst ex
  obtain rfl : u = Value.ref a := rx
  obtain ⟨c, k, ps, D, hr⟩ := hG C sp g
  obtain ⟨f, fd, F, fa, n, kp, b⟩ := D.ex
  refine getmeth_ok I1 ea c ⟨fa, n, kp⟩ l ?_
  exact PySem.W.callWith_K0 (first := [.ref a]) I1.kIn kp (run_fn (us := [.ref a]) (vs := [.ref a]) (dvs := []) (ds := []) F hr b .nil pass0 I1 (.cons rfl .nil) q)
def MtOk (X : Cx) (γ : Str → Addr) (m : Str) (tb : List (Str × Fn)) : Prop := ∀ c f, tb.lookup c = some f → Cls X.K (γ c) ∧ ∃ k p n bd ps, f = HL.fnOf p n bd ∧ MDef X.prog X.w X.K X.mg X.base k (γ c) m ps (spF X.K γ p f) ∧ Room k X.A
theorem MtOk.nil : MtOk X γ m [] := fun c f e => by cases e
theorem MtOk.cons {tb : List (Str × Fn)} {c : Str} {k p n : Nat} {bd : DS} {ps : List Str} (h : Cls X.K (γ c)) (D : MDef X.prog X.w X.K X.mg X.base k (γ c) m ps (spF X.K γ p (HL.fnOf p n bd))) (hr : Room k X.A) (r : MtOk X γ m tb) : MtOk X γ m ((c, HL.fnOf p n bd) :: tb) := fun c' f e => by
  by_cases q : c' = c
  · subst q
    simp only [List.lookup, beq_self_eq_true, Option.some.injEq] at e
    subst e
    exact ⟨h, k, p, n, bd, ps, rfl, D, hr⟩
  · have z : (c' == c) = false := by simpa using q
    simp only [List.lookup, z] at e
    exact r c' f e
def MtG (X : Cx) (γ : Str → Addr) (m : Str) (tb : List (Str × Fn)) (C : Addr) (sp : Sp) : Prop := ∃ c f p n bd k ps, C = γ c ∧ tb.lookup c = some f ∧ f = HL.fnOf p n bd ∧ sp = spF X.K γ p f ∧ Cls X.K (γ c) ∧ MDef X.prog X.w X.K X.mg X.base k (γ c) m ps (spF X.K γ p f) ∧ Room k X.A
theorem MtG.ok {tb : List (Str × Fn)} : ∀ C sp, MtG X γ m tb C sp → Cls X.K C ∧ ∃ k ps, MDef X.prog X.w X.K X.mg X.base k C m ps sp ∧ Room k X.A := by
  rintro C sp ⟨c, f, p, n, bd, k, ps, rfl, e, rfl, rfl, h, D, hr⟩
  exact ⟨h, k, ps, D, hr⟩
theorem spF_of {K : PySem.W.Frag} {f : Fn} {p n : Nat} {bd : DS} {ρ : Nat → Addr} {h : Sh} {H : Hp} {us : List W} {Q : VK} {E : XK} (e : f = HL.fnOf p n bd) (S : SimH K γ ρ h H) (w : wfs h.length us) (x : GoodV K γ ρ h (f us h) Q) : spF K γ p f (us.map (renW γ ρ)) H Q E := by
  refine ⟨?_, ρ, h, us, S, w, rfl, x⟩
  rw [List.length_map]
  cases q : f us h with
  | ok v h' => rw [e] at q; exact fnOf_len q
  | ex => rw [q] at x; exact x.elim
  | er => rw [q] at x; exact x.elim
theorem meth_of {tb : List (Str × Fn)} {d : DA} (k : MtOk X γ m tb) (σ : St) (H : Hp) (Q : VK) (x : eE X.K γ (HL.dMeth tb m d1 d) σ H Q) : tMethG (MtG X γ m tb) m (eE X.K γ d1) (eA X.K γ d) σ H Q := by
  obtain ⟨ρ, s, h, S, x⟩ := x
  unfold HL.dMeth at x
  refine ⟨ρ, s, h, S, GoodR.bind x fun v h1 ρ1 H1 _ n1 S1 w1 x1 => ?_⟩
  split at x1
  · rename_i f e1
    cases v with
    | ref i =>
      simp only [HL.findM] at e1
      split at e1
      · rename_i c fs q
        split at e1
        · rename_i hl
          obtain ⟨dx, ea⟩ := S1.ob i _ q
          obtain ⟨hc, kk, p, n, bd, ps, ef, D, hr⟩ := k c f e1
          refine ⟨ρ1 i, γ c, dx, renF γ ρ1 fs, _, rfl, ea, by rw [lookup_ren, hl]; rfl, ⟨c, f, p, n, bd, kk, ps, rfl, e1, ef, rfl, hc, D, hr⟩, ?_⟩
          refine ⟨ρ1, s, h1, S.next n1 S1, GoodR.bind x1 fun us h2 ρ2 H2 _ n2 S2 w2 x2 => ?_⟩
          have wi : wf h2.length (.ref i) := w1.mono n2.le
          have z := spF_of (E := E0) (us := .ref i :: us) ef S2 (fun y hy => by
            rcases List.mem_cons.mp hy with r | r
            · rw [r]; exact wi
            · exact w2 y r) x2
          rw [List.map_cons] at z
          have e3 : renW γ ρ2 (.ref i) = renW γ ρ1 (.ref i) := (ren_ag w1 n2.ag).symm
          rw [e3] at z
          exact z
        · cases e1
      · cases e1
    | _ => cases e1
  · exact x1.elim
theorem q_meth {tb : List (Str × Fn)} {d : DA} {pl : Sem Bool} (k : MtOk X γ m tb) (he : QE γ X o d1) (ha : QA γ X (e :: es) d)
    (hst : starEach (e :: es) X.env = (false, eval e X.env) :: starEach es X.env := by rfl) (hpl : (backTo pos (starEach es X.env)).any (·.1) = false := by rfl)
    (ht : eval (.Call (.Attribute o m apos) (e :: es) [] pos) X.env = (do
      let ov ← eval o X.env
      standAt apos.atName
      let (f, first) ← holding [ov] (getMethod ov m pl)
      callWith pos f first (backTo pos (starEach (e :: es) X.env)) (backToKw pos (keywordEach [] X.env))) := by rfl) :
    QE γ X (.Call (.Attribute o m apos) (e :: es) [] pos) (HL.dMeth tb m d1 d) := (pe_methG (pl := pl) MtG.ok he ha hst hpl ht).imp (meth_of k)
theorem q_meth0 {tb : List (Str × Fn)} {pl : Sem Bool} (k : MtOk X γ m tb) (he : QE γ X o d1)
    (ht : eval (.Call (.Attribute o m apos) [] [] pos) X.env = (do
      let ov ← eval o X.env
      standAt apos.atName
      let (f, first) ← holding [ov] (getMethod ov m pl)
      callWith pos f first (backTo pos (starEach [] X.env)) (backToKw pos (keywordEach [] X.env))) := by rfl) :
    QE γ X (.Call (.Attribute o m apos) [] [] pos) (HL.dMeth tb m d1 HL.dNil) := (pe_methG0 (pl := pl) MtG.ok he ht).imp fun σ H Q x => by
  obtain ⟨ρ, s, h, S, x⟩ := meth_of k σ H Q x
  refine ⟨ρ, s, h, S, ?_⟩
  cases q : d1 s h with
  | ok v h1 =>
    rw [q] at x
    intro ρ1 H1 n1 S1 w1
    obtain ⟨a, C, dx, fs, sp, e1, e2, e3, e4, x⟩ := x ρ1 H1 n1 S1 w1
    obtain ⟨ρ2, s2, h2, S2, x⟩ := x
    exact ⟨a, C, dx, fs, sp, e1, e2, e3, e4, x ρ2 H1 (Nxt.refl _ _) S2.hp fun _ z => by cases z⟩
  | ex => rw [q] at x; exact x.elim
  | er => rw [q] at x; exact x.elim
/-! ### new objects -/
structure NewOk (X : Cx) (γ : Str → Addr) (x : Str) (p : Nat) (f : Fn) (vs : List W) : Prop where
  at_ : X.mg x = some (.ref (γ x))
  ex : ∃ k g fd ps ds n bd, f = HL.fnOf p n bd ∧ Mk X.K (γ x) g ∧ FnOk X.prog X.w X.K X.mg X.base CX0 k g fd ps (spF X.K γ p f) ∧ Room (k + 1) X.A ∧ Binds X.K fd ps ds ∧ (∀ ρ, Vals (vs.map (renW γ ρ)) ds) ∧ ∀ n, wfs n vs
theorem renWs_const {vs : List W} (h : ∀ n, wfs n vs) (ρ ρ' : Nat → Addr) : vs.map (renW γ ρ) = vs.map (renW γ ρ') := rens_ag (h 0) fun i hi => absurd hi (Nat.not_lt_zero _)
theorem new_of {C : Str} {f : Fn} {p n : Nat} {bd : DS} {vs : List W} {d : DA} {ρ0 : Nat → Addr} (ef : f = HL.fnOf p n bd) (wv : ∀ n, wfs n vs) (σ : St) (H : Hp) (Q : VK) (x : eE X.K γ (HL.dNew C f vs d) σ H Q) : tMake (γ C) (spF X.K γ p f) (vs.map (renW γ ρ0)) E0 (eA X.K γ d) σ H Q := by
  obtain ⟨ρ, s, h, S, x⟩ := x
  unfold HL.dNew at x
  refine ⟨ρ, s, h, S, GoodR.bind x fun us h1 ρ1 H1 _ n1 S1 w1 x1 => ?_⟩
  intro y dx hy hdx ne
  have hdx' : upd H1 dx (.own y) y = none := by rw [upd_ne ne.symm]; exact hy
  have E1 : Ext H1 (upd (upd H1 dx (.own y)) y (.ins (γ C) dx [])) := (Ext.upd _ hdx).trans (Ext.upd _ hdx')
  have S2 := S1.push (p := y) (o := .ins C []) (fun q hq => by cases hq) E1 hy ⟨dx, upd_same⟩
  have w2 : wfs (h1 ++ [SO.ins C []]).length (.ref h1.length :: (us ++ vs)) := fun q hq => by
    rcases List.mem_cons.mp hq with r | r
    · rw [r]; show h1.length < (h1 ++ [_]).length; simp
    · rcases List.mem_append.mp r with r | r
      · exact (w1 q r).mono (by simp)
      · exact wv _ q r
  have n2 := Nxt.push h1 ρ1 (.ins C []) y
  have z := spF_of (E := E0) ef S2 w2 (Q := fun v H2 => v = .non ∧ Q (.ref y) H2) (GoodR.bind (x1.later n2) fun v h3 ρ3 H3 _ n3 S3 w3 x3 => by
    by_cases hv : v = .non
    · rw [if_pos hv] at x3
      subst hv
      refine ⟨rfl, ?_⟩
      have q := x3 ρ3 H3 (Nxt.refl _ _) S3 (Nat.lt_of_lt_of_le (by simp) n3.le)
      rw [show renW γ ρ3 (.ref h1.length) = V.ref y from congrArg V.ref (by rw [← n3.ag h1.length (by simp), put_at])] at q
      exact q
    · rw [if_neg hv] at x3; exact x3.elim)
  rw [List.map_cons, List.map_append] at z
  rw [show renW γ (put ρ1 h1.length y) (.ref h1.length) = V.ref y from congrArg V.ref (put_at _ _ _), ← rens_ag w1 (put_ag _ _ _), renWs_const wv _ ρ0] at z
  exact z
theorem q_new {x : Str} {p : Nat} {f : Fn} {vs : List W} {pp : Pos} {d : DA} (k : NewOk X γ x p f vs) (hg : Gl X x) (ha : QA γ X (e :: es) d) (hdb : (x == ("__debug__" : Str)) = false := by decide)
    (he : starEach (e :: es) X.env = (false, eval e X.env) :: starEach es X.env := by rfl) (hpl : (backTo pos (starEach es X.env)).any (·.1) = false := by rfl) : QE γ X (.Call (.Name x pp) (e :: es) [] pos) (HL.dNew x f vs d) := by
  obtain ⟨kk, g, fd, ps, ds, n, bd, ef, M, F, hr, hb, hv, wv⟩ := k.ex
  exact (pe_make M F hr hg k.at_ hb (hv fun _ => 0) pass0 ha hdb he hpl).imp (new_of ef wv)
theorem q_new0 {x : Str} {p : Nat} {f : Fn} {vs : List W} {pp : Pos} (k : NewOk X γ x p f vs) (hg : Gl X x) (hdb : (x == ("__debug__" : Str)) = false := by decide) : QE γ X (.Call (.Name x pp) [] [] pos) (HL.dNew x f vs HL.dNil) := by
  obtain ⟨kk, g, fd, ps, ds, n, bd, ef, M, F, hr, hb, hv, wv⟩ := k.ex
  refine (pe_make0 M F hr hg k.at_ hb (hv fun _ => 0) pass0 hdb).imp fun σ H Q y => ?_
  obtain ⟨ρ, s, h, S, y⟩ := new_of (ρ0 := fun _ => 0) ef wv σ H Q y
  exact y ρ H (Nxt.refl _ _) S.hp fun _ z => by cases z
end
end L2


set_option Elab.async false
set_option linter.all false
set_option maxRecDepth 100000
set_option maxHeartbeats 4000000
namespace L2
open PySem PySem.Spec PyProof.Rows
open HL (W SO Sh Sg OR DE DT DA DS Fn)
section
variable {K : PySem.W.Frag} {γ : Str → Addr}
theorem os_sub : OpS K γ (rI0 fun i j => .int (i - j)) HL.oSub := fun ρ h H x y Q S wx wy q => by
  obtain ⟨i, j, e1, e2, _, q⟩ := os_int (K := K) (γ := γ) (c := fun _ _ => true) (C := fun _ _ => True) (f := fun i j => i - j) (fun _ _ _ => trivial) ρ h H x y Q S wx wy q
  exact ⟨i, j, e1, e2, q⟩
theorem os_mod : OpS K γ (rI (fun _ j => 0 < j) fun i j => .int (i % j)) HL.oMod := os_int fun _ _ h => of_decide_eq_true h
theorem os_div : OpS K γ (rI CDiv fun i j => .int (i / j)) HL.oDiv := os_int fun _ _ h => by
  obtain ⟨a, b⟩ := (Bool.and_eq_true _ _).mp h
  exact ⟨of_decide_eq_true a, of_decide_eq_true b⟩
end
section
variable {X : Cx} {γ : Str → Addr} {a b c e : Expr} {da db dc de : DE} {pos : Pos}
theorem v (i : Nat) {x : Str} (hN : X.N[i]? = some x := by rfl) (hv : Vis X.env.scope x := by first | exact Or.inl rfl | exact Or.inr (Or.inl rfl) | exact Or.inr (Or.inr rfl)) (hd : (x == ("__debug__" : Str)) = false := by decide)
    (hcd : (x == ("__classdict__" : Str)) = false := by decide) : QE γ X (.Name x pos) (HL.dVar i) := q_var hN hv hd hcd
theorem sset (i : Nat) {x : Str} {pos' : Pos} (hN : X.N.Nodup) (he : QE γ X e de) (hi : X.N[i]? = some x := by rfl) (hx : Loc X.env.scope x := by first | exact Or.inl rfl | exact Or.inr rfl) (hs : swapsWith e (some (.Name x pos')) pos.line X.env = pure false := by rfl) (hf : X.fn x = true ∨ X.env.scope.names.lookup x = some .local := by first | exact .inl rfl | exact .inr rfl | assumption) :
    QS γ X (.Assign [.Name x pos'] e pos) (HL.sSet i de) := qs_set hN hi hx he hs hf
theorem gn (i : Nat) {x : Str} (hN : X.N.Nodup) (hi : X.N[i]? = some x := by rfl) (hx : Loc X.env.scope x := by first | exact Or.inl rfl | exact Or.inr rfl) (hf : X.fn x = true ∨ X.env.scope.names.lookup x = some .local := by first | exact .inl rfl | exact .inr rfl | assumption) : QG γ X (.Name x pos) (HL.gName i) := qg_name hN hi hx hf
theorem pn (i : Nat) {x : Str} (hN : X.N.Nodup) (hi : X.N[i]? = some x := by rfl) (hx : Loc X.env.scope x := by first | exact Or.inl rfl | exact Or.inr rfl) (hf : X.fn x = true ∨ X.env.scope.names.lookup x = some .local := by first | exact .inl rfl | exact .inr rfl | assumption) : PG X (.Name x pos) (gName i) := pg_name hN hi hx hf

theorem b_Add (ha : QE γ X a da) (hb : QE γ X b db) : QE γ X (.BinOp a .Add b pos) (HL.dOp HL.oAdd da db) := q_op op_addA os_add nw_add ha hb
theorem b_Sub (ha : QE γ X a da) (hb : QE γ X b db) : QE γ X (.BinOp a .Sub b pos) (HL.dOp HL.oSub da db) := q_op op_sub os_sub nw_int ha hb
theorem b_Mult (ha : QE γ X a da) (hb : QE γ X b db) : QE γ X (.BinOp a .Mult b pos) (HL.dOp HL.oMul da db) := q_op op_mulA os_mul nw_mul ha hb
theorem b_Mod (ha : QE γ X a da) (hb : QE γ X b db) : QE γ X (.BinOp a .Mod b pos) (HL.dOp HL.oMod da db) := q_op op_mod os_mod nw_int ha hb
theorem b_FloorDiv (ha : QE γ X a da) (hb : QE γ X b db) : QE γ X (.BinOp a .FloorDiv b pos) (HL.dOp HL.oDiv da db) := q_op op_fdiv os_div nw_int ha hb
theorem t_Lt (ha : QE γ X a da) (hb : QE γ X b db) (hm : behindInMarks .Lt b = false := by rfl) : QT γ X (.Compare a [.Lt] [b] pos) (HL.dT (HL.dOp HL.oLt da db)) := qt_cmp op_lt os_cmp bo_cmp.nw bo_cmp ha hb hm
theorem t_GtE (ha : QE γ X a da) (hb : QE γ X b db) (hm : behindInMarks .GtE b = false := by rfl) : QT γ X (.Compare a [.GtE] [b] pos) (HL.dT (HL.dOp HL.oGe da db)) := qt_cmp op_ge os_cmp bo_cmp.nw bo_cmp ha hb hm
theorem c_Eq (hu : X.A.units + 64 < cLine) (ha : QE γ X a da) (hb : QE γ X b db) (hm : behindInMarks .Eq b = false := by rfl) : QE γ X (.Compare a [.Eq] [b] pos) (HL.dOp HL.oEq da db) := q_cmp (op_eqP hu) os_eq bo_eq.nw ha hb hm
theorem t_Eq (hu : X.A.units + 64 < cLine) (ha : QE γ X a da) (hb : QE γ X b db) (hm : behindInMarks .Eq b = false := by rfl) : QT γ X (.Compare a [.Eq] [b] pos) (HL.dT (HL.dOp HL.oEq da db)) := qt_cmp (op_eqP hu) os_eq bo_eq.nw bo_eq ha hb hm
theorem t_NotEq (hu : X.A.units + 64 < cLine) (ha : QE γ X a da) (hb : QE γ X b db) (hm : behindInMarks .NotEq b = false := by rfl) : QT γ X (.Compare a [.NotEq] [b] pos) (HL.dT (HL.dOp HL.oNe da db)) := qt_cmp (op_neP hu) os_ne bo_ne.nw bo_ne ha hb hm
theorem t_Is (ha : QE γ X a da) (hb : QE γ X b db) (hm : behindInMarks .Is b = false := by rfl) : QT γ X (.Compare a [.Is] [b] pos) (HL.dT (HL.dOp HL.oIs da db)) := qt_cmp op_isN os_isN bo_is.nw bo_is ha hb hm
theorem t_IsNot (ha : QE γ X a da) (hb : QE γ X b db) (hm : behindInMarks .IsNot b = false := by rfl) : QT γ X (.Compare a [.IsNot] [b] pos) (HL.dT (HL.dOp HL.oIsNot da db)) := qt_cmp op_notN os_notN bo_isnot.nw bo_isnot ha hb hm
theorem c_LtE_LtE (ha : QE γ X a da) (hb : QE γ X b db) (hc : QE γ X c dc) (hm : lastMarks [.LtE, .LtE] [b, c] = false := by with_unfolding_all rfl) : QE γ X (.Compare a [.LtE, .LtE] [b, c] pos) (HL.dChain HL.oLe HL.oLe da db dc) := q_chain op_le os_cmp bo_cmp.nw bo_cmp op_le os_cmp bo_cmp.nw ha hb hc hm
theorem ix (ha : QE γ X a da) (hb : QE γ X b db) (hp : PlainIx b := by exact fun _ _ => rfl) : QE γ X (.Subscript a b pos) (HL.dOp HL.oIx da db) := q_ix ix_seq os_ix nw_ix ha hb hp
theorem f_len {p : Pos} {es : List Expr} {d : DA} (hg : Gl X "len") (hm : X.mg "len" = none) (ha : QA γ X (e :: es) d) (he : starEach (e :: es) X.env = (false, eval e X.env) :: starEach es X.env := by rfl) (hpl : (backTo pos (starEach es X.env)).any (·.1) = false := by rfl) : QE γ X (.Call (.Name "len" p) (e :: es) [] pos) (HL.dB HL.bLen d) := q_callB call_len cs_len nw_len hg hm PySem.boot_len ha (by decide) (by decide) he hpl
theorem f_max (hc : X.calm = true) {p : Pos} {es : List Expr} {d : DA} (hg : Gl X "max") (hm : X.mg "max" = none) (ha : QA γ X (e :: es) d) (he : starEach (e :: es) X.env = (false, eval e X.env) :: starEach es X.env := by rfl) (hpl : (backTo pos (starEach es X.env)).any (·.1) = false := by rfl) : QE γ X (.Call (.Name "max" p) (e :: es) [] pos) (HL.dB HL.bMax2 d) := q_callB (call_max2F hc) cs_max2 nw_max2 hg hm PyProof.Rows.boot_max ha (by decide) (by decide) he hpl
theorem f_min (hc : X.calm = true) {p : Pos} {es : List Expr} {d : DA} (hg : Gl X "min") (hm : X.mg "min" = none) (ha : QA γ X (e :: es) d) (he : starEach (e :: es) X.env = (false, eval e X.env) :: starEach es X.env := by rfl) (hpl : (backTo pos (starEach es X.env)).any (·.1) = false := by rfl) : QE γ X (.Call (.Name "min" p) (e :: es) [] pos) (HL.dB HL.bMin2 d) := q_callB (call_min2F hc) cs_min2 nw_min2 hg hm PyProof.Rows.boot_min ha (by decide) (by decide) he hpl
theorem f_list {p : Pos} {es : List Expr} {d : DA} (hg : Gl X "list") (hm : X.mg "list" = none) (ha : QA γ X (e :: es) d) (he : starEach (e :: es) X.env = (false, eval e X.env) :: starEach es X.env := by rfl) (hpl : (backTo pos (starEach es X.env)).any (·.1) = false := by rfl) : QE γ X (.Call (.Name "list" p) (e :: es) [] pos) (HL.dB HL.bList d) := q_callTy call_list_of cs_list nw_blist hg hm PyProof.Rows.boot_list ha (by decide) (by decide) he hpl
theorem f_tuple {p : Pos} {es : List Expr} {d : DA} (hg : Gl X "tuple") (hm : X.mg "tuple" = none) (ha : QA γ X (e :: es) d) (he : starEach (e :: es) X.env = (false, eval e X.env) :: starEach es X.env := by rfl) (hpl : (backTo pos (starEach es X.env)).any (·.1) = false := by rfl) : QE γ X (.Call (.Name "tuple" p) (e :: es) [] pos) (HL.dB HL.bTuple d) := q_callTy call_tuple_of cs_tuple nw_btuple hg hm PyProof.Rows.boot_tuple ha (by decide) (by decide) he hpl
theorem f_isi {T : HL.CT} (O : IsiOk X.K γ T) {p : Pos} {es : List Expr} {d : DA} (hg : Gl X "isinstance") (hm : X.mg "isinstance" = none) (ha : QA γ X (e :: es) d) (he : starEach (e :: es) X.env = (false, eval e X.env) :: starEach es X.env := by rfl) (hpl : (backTo pos (starEach es X.env)).any (·.1) = false := by rfl) : QE γ X (.Call (.Name "isinstance" p) (e :: es) [] pos) (HL.dB (HL.bIsi T) d) := q_callB call_isiT (cs_isi O) nw_isi hg hm PyProof.Rows.boot_isinstance ha (by decide) (by decide) he hpl
end
end L2


set_option Elab.async false
set_option linter.all false
set_option maxRecDepth 100000
set_option maxHeartbeats 4000000
namespace L2
open PySem PySem.Spec PyProof.Rows
open HL (W SO Sh Sg OR DE DT DA DS Fn)
/-! ### methods of the text, with or without defaults -/
structure MethB (K : PySem.W.Frag) (C : Addr) (m qual : Str) (st : Stmt) (ps : List Str) : Prop where
  ex : ∃ (f : Addr) (oc : Value) (od : Option Addr) (dV kV doc pm : Value) (an : Option Addr) (cdv ct : Value) (osl : Array (Option Value)),
    K.lookup f = some ⟨oc, od, .func (PySem.W.fnOf m qual (defArgs st) (defBody st) (defScope st) dV kV doc pm an cdv ct), osl⟩ ∧ PySem.W.codeIn K cdv qual = true ∧ PySem.W.keepIn K (.ref f) = true ∧ PySem.W.findIn K (.ref C) m = some (some (.ref f)) ∧ PySem.W.isFn K (.ref f) = true ∧
    Binds K (PySem.W.fnOf m qual (defArgs st) (defBody st) (defScope st) dV kV doc pm an cdv ct) ps []
theorem methB_mk {K : PySem.W.Frag} {C : Addr} {m qual : Str} {st : Stmt} {ps : List Str} {f : Addr} {oc : Value} {od an : Option Addr} {osl : Array (Option Value)} {dV kV doc pm cdv ct : Value}
    (a : PySem.W.findIn K (.ref C) m = some (some (.ref f))) (l : K.lookup f = some ⟨oc, od, .func (PySem.W.fnOf m qual (defArgs st) (defBody st) (defScope st) dV kV doc pm an cdv ct), osl⟩)
    (c : PySem.W.codeIn K cdv qual = true) (k : PySem.W.keepIn K (.ref f) = true) (n : PySem.W.isFn K (.ref f) = true) (b : Binds K (PySem.W.fnOf m qual (defArgs st) (defBody st) (defScope st) dV kV doc pm an cdv ct) ps []) : MethB K C m qual st ps := ⟨f, oc, od, dV, kV, doc, pm, an, cdv, ct, osl, l, c, k, a, n, b⟩
section
variable {P : Program} {w : World} {K : PySem.W.Frag} {mg : Str → Option Value} {base : Heap} {γ : Str → Addr}
theorem MethB.qdef {C : Addr} {m qual : Str} {st : Stmt} {N ps : List Str} {k p n : Nat} {bd : DS} (F : MethB K C m qual st ps) (S : FnScope N ps (defScope st)) (hp : ps.length = p) (hn : N.length = n)
    (hbody : ∀ (f : Addr) (cdv : Value) (A : Around) (outer : List Env) (s : Shared) (H : Hp) (E : XK), Room k (A.deeper (envOfC qual (defScope st) s.heap.objs.size f cdv)) →
      QSs γ (cxOf CX0 P w K mg base N qual (defScope st) f cdv A outer s H E).nox (defBody st) bd) : MDef P w K mg base (k + 1) C m ps (spF K γ p (HL.fnOf p n bd)) := by
  obtain ⟨f, oc, od, dV, kV, doc, pm, an, cdv, ct, osl, lk, hcd, kp, fi, isf, hb⟩ := F.ex
  refine ⟨f, _, fn_of lk hcd S (fun vs H Q E h => h.1.trans hp.symm) fun A outer s H vs Q E hr hsp => ⟨_, (hbody f cdv A outer s H E hr).nox, ?_⟩, fi, isf, kp, hb⟩
  obtain ⟨_, ρ, hh, us, S, wu, e, x⟩ := hsp
  rw [e]
  subst hn
  exact fn_good S wu x
structure MkC (K : PySem.W.Frag) (mg : Str → Option Value) (x : Str) (C : Addr) : Prop where
  at_ : mg x = some (.ref C)
  makes : PySem.W.makesIn K C = true
  kp : PySem.W.keepIn K (.ref C) = true
end
theorem newOk_of {X : Cx} {γ : Str → Addr} {x : Str} {k p n : Nat} {bd : DS} {ps : List Str} (M : MkC X.K X.mg x (γ x)) (D : MDef X.prog X.w X.K X.mg X.base k (γ x) "__init__" ps (spF X.K γ p (HL.fnOf p n bd))) (hr : Room (k + 1) X.A) : NewOk X γ x p (HL.fnOf p n bd) [] where
  at_ := M.at_
  ex := by
    obtain ⟨f, fd, F, a, nf, kp, b⟩ := D.ex
    exact ⟨k, f, fd, ps, [], n, bd, rfl, ⟨M.makes, a, nf, M.kp⟩, F, hr, b, fun _ => .nil, fun _ y hy => by cases hy⟩
end L2


set_option Elab.async false
set_option linter.all false
set_option maxRecDepth 100000
set_option maxHeartbeats 4000000
namespace L2
open PySem PySem.Spec PyProof.Rows
open HL (W SO Sh Sg OR DE DT DA DS Fn)
/-! ### an __init__ whose last arguments are left out -/
structure MethD (K : PySem.W.Frag) (C : Addr) (m qual : Str) (st : Stmt) (ps : List Str) (vs : List W) : Prop where
  ex : ∃ (f : Addr) (oc : Value) (od : Option Addr) (dV kV doc pm : Value) (an : Option Addr) (cdv ct : Value) (osl : Array (Option Value)),
    K.lookup f = some ⟨oc, od, .func (PySem.W.fnOf m qual (defArgs st) (defBody st) (defScope st) dV kV doc pm an cdv ct), osl⟩ ∧ PySem.W.codeIn K cdv qual = true ∧ PySem.W.keepIn K (.ref f) = true ∧ PySem.W.findIn K (.ref C) m = some (some (.ref f)) ∧ PySem.W.isFn K (.ref f) = true ∧
    ∃ ds, Binds K (PySem.W.fnOf m qual (defArgs st) (defBody st) (defScope st) dV kV doc pm an cdv ct) ps ds ∧ ∀ (γ : Str → Addr) (ρ : Nat → Addr), Vals (vs.map (renW γ ρ)) ds
theorem methD_mk {K : PySem.W.Frag} {C : Addr} {m qual : Str} {st : Stmt} {ps : List Str} {vs : List W} {f : Addr} {oc : Value} {od an : Option Addr} {osl : Array (Option Value)} {kV doc pm cdv ct : Value} {da : Addr} {A : Array Value} {o1 : Value} {o2 : Option Addr} {o3 : Array (Option Value)}
    (a : PySem.W.findIn K (.ref C) m = some (some (.ref f))) (l : K.lookup f = some ⟨oc, od, .func (PySem.W.fnOf m qual (defArgs st) (defBody st) (defScope st) (.ref da) kV doc pm an cdv ct), osl⟩)
    (_d : K.lookup da = some ⟨o1, o2, .seq A, o3⟩) (c : PySem.W.codeIn K cdv qual = true) (k : PySem.W.keepIn K (.ref f) = true) (n : PySem.W.isFn K (.ref f) = true) (b : Binds K (PySem.W.fnOf m qual (defArgs st) (defBody st) (defScope st) (.ref da) kV doc pm an cdv ct) ps A.toList)
    (v : ∀ (γ : Str → Addr) (ρ : Nat → Addr), Vals (vs.map (renW γ ρ)) A.toList) : MethD K C m qual st ps vs := ⟨f, oc, od, .ref da, kV, doc, pm, an, cdv, ct, osl, l, c, k, a, n, A.toList, b, v⟩
structure NDef (P : Program) (w : World) (K : PySem.W.Frag) (mg : Str → Option Value) (base : Heap) (k : Nat) (C : Addr) (m : Str) (ps : List Str) (vs : List W) (sp : Sp) : Prop where
  ex : ∃ f fd ds, FnOk P w K mg base CX0 k f fd ps sp ∧ PySem.W.findIn K (.ref C) m = some (some (.ref f)) ∧ PySem.W.isFn K (.ref f) = true ∧ PySem.W.keepIn K (.ref f) = true ∧ Binds K fd ps ds ∧ ∀ (γ : Str → Addr) (ρ : Nat → Addr), Vals (vs.map (renW γ ρ)) ds
section
variable {P : Program} {w : World} {K : PySem.W.Frag} {mg : Str → Option Value} {base : Heap} {γ : Str → Addr}
theorem MethD.qdef {C : Addr} {m qual : Str} {st : Stmt} {N ps : List Str} {k p n : Nat} {bd : DS} {vs : List W} (F : MethD K C m qual st ps vs) (S : FnScope N ps (defScope st)) (hp : ps.length = p) (hn : N.length = n)
    (hbody : ∀ (f : Addr) (cdv : Value) (A : Around) (outer : List Env) (s : Shared) (H : Hp) (E : XK), Room k (A.deeper (envOfC qual (defScope st) s.heap.objs.size f cdv)) →
      QSs γ (cxOf CX0 P w K mg base N qual (defScope st) f cdv A outer s H E).nox (defBody st) bd) : NDef P w K mg base (k + 1) C m ps vs (spF K γ p (HL.fnOf p n bd)) := by
  obtain ⟨f, oc, od, dV, kV, doc, pm, an, cdv, ct, osl, lk, hcd, kp, fi, isf, ds, hb, hv⟩ := F.ex
  refine ⟨f, _, ds, fn_of lk hcd S (fun vs H Q E h => h.1.trans hp.symm) fun A outer s H vs Q E hr hsp => ⟨_, (hbody f cdv A outer s H E hr).nox, ?_⟩, fi, isf, kp, hb, hv⟩
  obtain ⟨_, ρ, hh, us, S, wu, e, x⟩ := hsp
  rw [e]
  subst hn
  exact fn_good S wu x
end
theorem newOk_ofD {X : Cx} {γ : Str → Addr} {x : Str} {k p n : Nat} {bd : DS} {ps : List Str} {vs : List W} (M : MkC X.K X.mg x (γ x)) (D : NDef X.prog X.w X.K X.mg X.base k (γ x) "__init__" ps vs (spF X.K γ p (HL.fnOf p n bd))) (hr : Room (k + 1) X.A) (hw : ∀ n, wfs n vs) : NewOk X γ x p (HL.fnOf p n bd) vs where
  at_ := M.at_
  ex := by
    obtain ⟨f, fd, ds, F, a, nf, kp, b, hv⟩ := D.ex
    exact ⟨k, f, fd, ps, ds, n, bd, rfl, ⟨M.makes, a, nf, M.kp⟩, F, hr, b, fun ρ => hv γ ρ, hw⟩
end L2
namespace L2
open PySem
theorem binds_one {K : PySem.W.Frag} {fd : FuncData} {ps : List Str} {ds : List Value} (hl : ps.length = ds.length + 1) (h : ∀ (s : Shared) (u : Value), K.In s.heap → BindsTo s fd ⟨[u], []⟩ (ps.zip ([u] ++ ds))) : Binds K fd ps ds := fun s us X e => by
  rw [List.length_append, hl] at e
  match us, e with
  | [u], _ => exact h s u X
  | [], e => simp at e
  | _ :: _ :: _, e => simp at e; omega
end L2


set_option Elab.async false
set_option linter.all false
set_option maxRecDepth 100000
set_option maxHeartbeats 4000000
namespace HL
open PySem (Str)
/-! Deep values: what a value is, all the way down; lists that a name owns alone may be changed. -/
inductive P where
  | non | bl (b : Bool) | int (i : Int) | str (s : Str) | ty (n : String) | gl (x : Str)
  | lst (xs : List P) | rol (xs : List P) | tup (xs : List P) | ins (c : Str) (fs : List (Str × P))
  deriving Inhabited
mutual
def Dn (T : Nat → Prop) (h : Sh) : P → W → Prop
  | .non, w => w = .non
  | .bl b, w => w = .bl b
  | .int i, w => w = .int i
  | .str s, w => w = .str s
  | .ty n, w => w = .ty n
  | .gl x, w => w = .gl x
  | .lst ps, w => ∃ i us, w = .ref i ∧ ¬ T i ∧ h[i]? = some (.lst us) ∧ Dns T h ps us
  | .rol ps, w => ∃ i us, w = .ref i ∧ ¬ T i ∧ h[i]? = some (.rol us) ∧ Dns T h ps us
  | .tup ps, w => ∃ i us, w = .ref i ∧ ¬ T i ∧ h[i]? = some (.tup us) ∧ Dns T h ps us
  | .ins c fs, w => ∃ i gs, w = .ref i ∧ ¬ T i ∧ h[i]? = some (.ins c gs) ∧ Dnf T h fs gs
def Dns (T : Nat → Prop) (h : Sh) : List P → List W → Prop
  | [], us => us = []
  | p :: ps, us => ∃ u r, us = u :: r ∧ Dn T h p u ∧ Dns T h ps r
def Dnf (T : Nat → Prop) (h : Sh) : List (Str × P) → List (Str × W) → Prop
  | [], us => us = []
  | p :: ps, us => ∃ u r, us = (p.1, u) :: r ∧ Dn T h p.2 u ∧ Dnf T h ps r
end
mutual
theorem Dn.mono {T T' : Nat → Prop} {h h' : Sh} (k : ∀ (i : Nat) (o : SO), ¬ T i → h[i]? = some o → h'[i]? = some o ∧ ¬ T' i) : ∀ (p : P) (w : W), Dn T h p w → Dn T' h' p w
  | .non, w, x => by simpa only [Dn] using x
  | .bl _, w, x => by simpa only [Dn] using x
  | .int _, w, x => by simpa only [Dn] using x
  | .str _, w, x => by simpa only [Dn] using x
  | .ty _, w, x => by simpa only [Dn] using x
  | .gl _, w, x => by simpa only [Dn] using x
  | .lst ps, w, x => by
    simp only [Dn] at x ⊢
    obtain ⟨i, us, e, t, g, d⟩ := x
    exact ⟨i, us, e, (k i _ t g).2, (k i _ t g).1, Dns.mono k ps us d⟩
  | .rol ps, w, x => by
    simp only [Dn] at x ⊢
    obtain ⟨i, us, e, t, g, d⟩ := x
    exact ⟨i, us, e, (k i _ t g).2, (k i _ t g).1, Dns.mono k ps us d⟩
  | .tup ps, w, x => by
    simp only [Dn] at x ⊢
    obtain ⟨i, us, e, t, g, d⟩ := x
    exact ⟨i, us, e, (k i _ t g).2, (k i _ t g).1, Dns.mono k ps us d⟩
  | .ins c fs, w, x => by
    simp only [Dn] at x ⊢
    obtain ⟨i, us, e, t, g, d⟩ := x
    exact ⟨i, us, e, (k i _ t g).2, (k i _ t g).1, Dnf.mono k fs us d⟩
theorem Dns.mono {T T' : Nat → Prop} {h h' : Sh} (k : ∀ (i : Nat) (o : SO), ¬ T i → h[i]? = some o → h'[i]? = some o ∧ ¬ T' i) : ∀ (ps : List P) (us : List W), Dns T h ps us → Dns T' h' ps us
  | [], us, x => by simpa only [Dns] using x
  | p :: ps, us, x => by
    simp only [Dns] at x ⊢
    obtain ⟨u, r, e, d, ds⟩ := x
    exact ⟨u, r, e, Dn.mono k p u d, Dns.mono k ps r ds⟩
theorem Dnf.mono {T T' : Nat → Prop} {h h' : Sh} (k : ∀ (i : Nat) (o : SO), ¬ T i → h[i]? = some o → h'[i]? = some o ∧ ¬ T' i) : ∀ (ps : List (Str × P)) (us : List (Str × W)), Dnf T h ps us → Dnf T' h' ps us
  | [], us, x => by simpa only [Dnf] using x
  | p :: ps, us, x => by
    simp only [Dnf] at x ⊢
    obtain ⟨u, r, e, d, ds⟩ := x
    exact ⟨u, r, e, Dn.mono k p.2 u d, Dnf.mono k ps r ds⟩
end
section
variable {T : Nat → Prop} {h l : Sh}
theorem app_at {i : Nat} {o : SO} (e : h[i]? = some o) : (h ++ l)[i]? = some o := by
  rw [List.getElem?_append_left (List.getElem?_eq_some_iff.mp e).1]; exact e
theorem Dn.app {p : P} {w : W} (x : Dn T h p w) : Dn T (h ++ l) p w := Dn.mono (fun _ _ t e => ⟨app_at e, t⟩) p w x
theorem Dns.app {p : List P} {w : List W} (x : Dns T h p w) : Dns T (h ++ l) p w := Dns.mono (fun _ _ t e => ⟨app_at e, t⟩) p w x
theorem Dns.length : ∀ {ps : List P} {us : List W}, Dns T h ps us → us.length = ps.length
  | [], us, x => by simp only [Dns] at x; rw [x]; rfl
  | p :: ps, us, x => by
    simp only [Dns] at x
    obtain ⟨u, r, e, d, ds⟩ := x
    rw [e, List.length_cons, List.length_cons, Dns.length ds]
theorem Dns.get : ∀ {ps : List P} {us : List W} {i : Nat} {p : P}, Dns T h ps us → ps[i]? = some p → ∃ u, us[i]? = some u ∧ Dn T h p u
  | [], us, i, p, x, e => by simp at e
  | q :: ps, us, 0, p, x, e => by
    simp only [Dns] at x
    obtain ⟨u, r, e1, d, ds⟩ := x
    simp at e; subst e
    exact ⟨u, by rw [e1]; rfl, d⟩
  | q :: ps, us, i + 1, p, x, e => by
    simp only [Dns] at x
    obtain ⟨u, r, e1, d, ds⟩ := x
    obtain ⟨v, a, b⟩ := Dns.get (i := i) ds (by simpa using e)
    exact ⟨v, by rw [e1]; simpa using a, b⟩
theorem Dns.append : ∀ {ps qs : List P} {us vs : List W}, Dns T h ps us → Dns T h qs vs → Dns T h (ps ++ qs) (us ++ vs)
  | [], qs, us, vs, x, y => by simp only [Dns] at x; rw [x]; exact y
  | p :: ps, qs, us, vs, x, y => by
    simp only [Dns] at x
    obtain ⟨u, r, e, d, ds⟩ := x
    rw [e]
    simp only [List.cons_append, Dns]
    exact ⟨u, _, rfl, d, Dns.append ds y⟩
theorem Dns.take : ∀ {ps : List P} {us : List W} (n : Nat), Dns T h ps us → Dns T h (ps.take n) (us.take n)
  | ps, us, 0, x => by simp only [List.take_zero, Dns]
  | [], us, n + 1, x => by simp only [Dns] at x; rw [x]; simp only [List.take_nil, Dns]
  | p :: ps, us, n + 1, x => by
    simp only [Dns] at x
    obtain ⟨u, r, e, d, ds⟩ := x
    rw [e]
    simp only [List.take_succ_cons, Dns]
    exact ⟨u, _, rfl, d, Dns.take n ds⟩
theorem Dns.drop : ∀ {ps : List P} {us : List W} (n : Nat), Dns T h ps us → Dns T h (ps.drop n) (us.drop n)
  | ps, us, 0, x => by simpa only [List.drop_zero] using x
  | [], us, n + 1, x => by simp only [Dns] at x; rw [x]; simp only [List.drop_nil, Dns]
  | p :: ps, us, n + 1, x => by
    simp only [Dns] at x
    obtain ⟨u, r, e, d, ds⟩ := x
    rw [e]
    simp only [List.drop_succ_cons]
    exact Dns.drop n ds
theorem Dns.one {p : P} {u : W} (d : Dn T h p u) : Dns T h [p] [u] := by
  simp only [Dns]; exact ⟨u, [], rfl, d, rfl⟩
theorem Dns.set {q : P} {v : W} (dq : Dn T h q v) : ∀ {ps : List P} {us : List W} (i : Nat), Dns T h ps us → Dns T h (ps.set i q) (us.set i v)
  | [], us, i, x => by simp only [Dns] at x; rw [x]; simp only [List.set_nil, Dns]
  | p :: ps, us, 0, x => by
    simp only [Dns] at x
    obtain ⟨u, r, e, d, ds⟩ := x
    rw [e]
    simp only [List.set_cons_zero, Dns]
    exact ⟨v, r, rfl, dq, ds⟩
  | p :: ps, us, i + 1, x => by
    simp only [Dns] at x
    obtain ⟨u, r, e, d, ds⟩ := x
    rw [e]
    simp only [List.set_cons_succ, Dns]
    exact ⟨u, _, rfl, d, Dns.set dq i ds⟩
theorem Dns.rep {ps : List P} {us : List W} (x : Dns T h ps us) : ∀ n : Nat, Dns T h (List.replicate n ps).flatten (List.replicate n us).flatten
  | 0 => by simp only [List.replicate_zero, List.flatten_nil, Dns]
  | n + 1 => by
    rw [List.replicate_succ, List.replicate_succ, List.flatten_cons, List.flatten_cons]
    exact x.append (Dns.rep x n)
theorem Dns.nil_iff {ps : List P} {us : List W} (x : Dns T h ps us) : us.isEmpty = ps.isEmpty := by
  cases ps with
  | nil => simp only [Dns] at x; rw [x]; rfl
  | cons p ps => simp only [Dns] at x; obtain ⟨u, r, e, _⟩ := x; rw [e]; rfl
end
/-! ### names -/
inductive Fv where
  | val (p : P) | own (xs : List P)
  deriving Inhabited
inductive Sl where
  | no | val (p : P) | own (xs : List P) | obj (c : Str) (fs : List (Str × Fv))
  deriving Inhabited
abbrev Dl := List Sl
inductive RS where
  | nx (d : Dl) | rt (p : P) | rx (p : P) (d : Dl) | ro (xs : List P) | bk (d : Dl) | ct (d : Dl) | er
inductive RF where
  | v (p : P) | o (xs : List P)
def RF.val : RF → P
  | .v p => p
  | .o xs => .lst xs
abbrev PE := Dl → Option P
abbrev PT := Dl → Option Bool
abbrev PA := Dl → Option (List P)
abbrev PS := Dl → RS
abbrev PF := List P → Option RF
def FsD (T : Nat → Prop) (h : Sh) : List (Str × Fv) → List (Str × W) → List Nat → Prop
  | [], gs, o => gs = [] ∧ o = []
  | (f, .val p) :: fs, gs, o => ∃ u r, gs = (f, u) :: r ∧ Dn T h p u ∧ FsD T h fs r o
  | (f, .own xs) :: fs, gs, o => ∃ a us r o', gs = (f, .ref a) :: r ∧ o = a :: o' ∧ h[a]? = some (.lst us) ∧ Dns T h xs us ∧ FsD T h fs r o'
def SlD (T : Nat → Prop) (h : Sh) (w : Option W) (o : List Nat) : Sl → Prop
  | .no => o = []
  | .val p => o = [] ∧ ∃ u, w = some u ∧ Dn T h p u
  | .own xs => ∃ a us, o = [a] ∧ w = some (.ref a) ∧ h[a]? = some (.lst us) ∧ Dns T h xs us
  | .obj c fs => ∃ a gs o', o = a :: o' ∧ o.Nodup ∧ w = some (.ref a) ∧ h[a]? = some (.ins c gs) ∧ FsD T h fs gs o'
def Ow (O : List (List Nat)) (a : Nat) : Prop := ∃ l ∈ O, a ∈ l
theorem Ow.of {O : List (List Nat)} {i a : Nat} {l : List Nat} (e : O[i]? = some l) (m : a ∈ l) : Ow O a := ⟨l, List.mem_of_getElem? e, m⟩
theorem Ow.one {O : List (List Nat)} {i a : Nat} (e : O[i]? = some [a]) : Ow O a := Ow.of e List.mem_cons_self
theorem Ow.at_ {O : List (List Nat)} {a : Nat} (x : Ow O a) : ∃ (i : Nat) (l : List Nat), O[i]? = some l ∧ a ∈ l := by
  obtain ⟨l, m, h⟩ := x
  obtain ⟨i, e⟩ := List.mem_iff_getElem?.mp m
  exact ⟨i, l, e, h⟩
theorem Ow.set {O : List (List Nat)} {i a : Nat} {l : List Nat} (x : Ow (O.set i l) a) : Ow O a ∨ a ∈ l := by
  obtain ⟨k, m, z⟩ := x
  rcases List.mem_or_eq_of_mem_set m with q | q
  · exact .inl ⟨k, q, z⟩
  · subst q; exact .inr z
theorem Ow.none {m a : Nat} (x : Ow (List.replicate m []) a) : False := by
  obtain ⟨l, q, z⟩ := x
  rw [(List.mem_replicate.mp q).2] at z; cases z
theorem getD_one {O : List (List Nat)} {i : Nat} {a : Nat} {l : List Nat} (o : (O[i]?).getD [] = a :: l) : O[i]? = some (a :: l) := by
  cases q : O[i]? with
  | none => rw [q] at o; cases o
  | some z => rw [q] at o; exact congrArg some o
def Tb (B : Nat → Prop) (O : List (List Nat)) : Nat → Prop := fun i => B i ∨ Ow O i
structure Lo where
  at_ : Nat
  lent : Nat → Prop
  me : Option W
structure Env (n : Lo) (B : Nat → Prop) (O : List (List Nat)) (s : Sg) (h : Sh) (δ : Dl) : Prop where
  le : n.at_ ≤ h.length
  old : ∀ i, B i → i < n.at_ ∧ ¬ n.lent i
  ls : s.length = δ.length
  lo : O.length = δ.length
  one : ∀ (i j a : Nat) (l m : List Nat), O[i]? = some l → O[j]? = some m → a ∈ l → a ∈ m → i = j
  new : ∀ a, Ow O a → (n.at_ ≤ a ∨ n.lent a) ∧ a < h.length
  at_ : ∀ (i : Nat) (sl : Sl), δ[i]? = some sl → SlD (Tb B O) h ((s[i]?).getD none) ((O[i]?).getD []) sl
  self : ∀ c fs w, δ[0]? = some (.obj c fs) → n.me = some w → s[0]? = some (some w)
section
variable {n : Lo} {B : Nat → Prop} {O : List (List Nat)} {s : Sg} {h l : Sh} {δ : Dl}
theorem FsD.mv {T T' : Nat → Prop} {h h' : Sh} (k : ∀ (i : Nat) (u : SO), ¬ T i → h[i]? = some u → h'[i]? = some u ∧ ¬ T' i) : ∀ (fs : List (Str × Fv)) (gs : List (Str × W)) (o : List Nat), (∀ a ∈ o, ∀ u, h[a]? = some u → h'[a]? = some u) → FsD T h fs gs o → FsD T' h' fs gs o
  | [], gs, o, ko, x => by simpa only [FsD] using x
  | (f, .val p) :: fs, gs, o, ko, x => by
    simp only [FsD] at x ⊢
    obtain ⟨u, r, e, d, y⟩ := x
    exact ⟨u, r, e, Dn.mono k p u d, FsD.mv k fs r o ko y⟩
  | (f, .own xs) :: fs, gs, o, ko, x => by
    simp only [FsD] at x ⊢
    obtain ⟨a, us, r, o', e1, e2, g, d, y⟩ := x
    subst e2
    exact ⟨a, us, r, o', e1, rfl, ko a List.mem_cons_self _ g, Dns.mono k xs us d, FsD.mv k fs r o' (fun b hb => ko b (List.mem_cons_of_mem _ hb)) y⟩
theorem SlD.mv {T T' : Nat → Prop} {h h' : Sh} {w : Option W} {o : List Nat} {sl : Sl} (x : SlD T h w o sl) (k : ∀ (i : Nat) (u : SO), ¬ T i → h[i]? = some u → h'[i]? = some u ∧ ¬ T' i) (ko : ∀ a ∈ o, ∀ u, h[a]? = some u → h'[a]? = some u) : SlD T' h' w o sl := by
  cases sl with
  | no => exact x
  | val p => obtain ⟨a, u, b, d⟩ := x; exact ⟨a, u, b, Dn.mono k p u d⟩
  | own xs => obtain ⟨a, us, b, c, d, e⟩ := x; exact ⟨a, us, b, c, ko a (by rw [b]; exact List.mem_cons_self) _ d, Dns.mono k xs us e⟩
  | obj c fs =>
    obtain ⟨a, gs, o', e1, nd, e2, g, y⟩ := x
    exact ⟨a, gs, o', e1, nd, e2, ko a (by rw [e1]; exact List.mem_cons_self) _ g, FsD.mv k fs gs o' (fun b hb => ko b (by rw [e1]; exact List.mem_cons_of_mem _ hb)) y⟩
theorem SlD.app {T : Nat → Prop} {w : Option W} {o : List Nat} {sl : Sl} (x : SlD T h w o sl) : SlD T (h ++ l) w o sl := x.mv (fun _ _ t e => ⟨app_at e, t⟩) fun _ _ _ e => app_at e
theorem Env.app (E : Env n B O s h δ) : Env n B O s (h ++ l) δ :=
  ⟨by rw [List.length_append]; have := E.le; omega, E.old, E.ls, E.lo, E.one, fun a ha => ⟨(E.new a ha).1, by rw [List.length_append]; have := (E.new a ha).2; omega⟩, fun i sl e => (E.at_ i sl e).app, E.self⟩
theorem self_set (E : Env n B O s h δ) (i : Nat) {x : Sl} {v : Option W} (hx : ∀ c fs, x ≠ .obj c fs) : ∀ c fs w, (δ.set i x)[0]? = some (.obj c fs) → n.me = some w → (s.set i v)[0]? = some (some w) := fun c fs w e m => by
  by_cases hi : i = 0
  · subst hi
    rw [List.getElem?_set] at e
    simp only [if_true] at e
    split at e
    · cases e; exact absurd rfl (hx c fs)
    · cases e
  · rw [List.getElem?_set_ne hi] at e ⊢; exact E.self c fs w e m
theorem self_chg (E : Env n B O s h δ) (i : Nat) {x : Sl} (hx : ∀ c fs, x ≠ .obj c fs) : ∀ c fs w, (δ.set i x)[0]? = some (.obj c fs) → n.me = some w → s[0]? = some (some w) := fun c fs w e m => by
  by_cases hi : i = 0
  · subst hi
    rw [List.getElem?_set] at e
    simp only [if_true] at e
    split at e
    · cases e; exact absurd rfl (hx c fs)
    · cases e
  · rw [List.getElem?_set_ne hi] at e; exact E.self c fs w e m
def Pe (d : DE) (p : PE) : Prop := ∀ n B O s h δ r, Env n B O s h δ → p δ = some r → ∃ w l, d s h = .ok w (h ++ l) ∧ Dn (Tb B O) (h ++ l) r w
def DnB (T : Nat → Prop) (h : Sh) (p : P) (w : W) : Prop := Dn T h p w ∨ ∃ xs a us, p = .lst xs ∧ w = .ref a ∧ h[a]? = some (.lst us) ∧ Dns T h xs us
theorem DnB.app {T : Nat → Prop} {p : P} {w : W} (x : DnB T h p w) : DnB T (h ++ l) p w := by
  rcases x with x | ⟨xs, a, us, e1, e2, g, d⟩
  · exact .inl x.app
  · exact .inr ⟨xs, a, us, e1, e2, app_at g, d.app⟩
def Pb (d : DE) (p : PE) : Prop := ∀ n B O s h δ r, Env n B O s h δ → p δ = some r → ∃ w l, d s h = .ok w (h ++ l) ∧ DnB (Tb B O) (h ++ l) r w
theorem Pe.b {d : DE} {p : PE} (x : Pe d p) : Pb d p := fun n B O s h δ r E e => by
  obtain ⟨w, l, a, b⟩ := x n B O s h δ r E e
  exact ⟨w, l, a, .inl b⟩
def Po (d : DE) (p : Dl → Option (List P)) : Prop := ∀ n B O s h δ r, Env n B O s h δ → p δ = some r → ∃ a l us, d s h = .ok (.ref a) (h ++ l) ∧ h.length ≤ a ∧ (h ++ l)[a]? = some (.lst us) ∧ Dns (fun i => Tb B O i ∨ i = a) (h ++ l) r us
theorem Dns.weak {T T' : Nat → Prop} {ps : List P} {us : List W} (x : Dns T h ps us) (k : ∀ i, T' i → T i) : Dns T' h ps us := Dns.mono (fun i o t e => ⟨e, fun z => t (k i z)⟩) ps us x
theorem Dn.weak {T T' : Nat → Prop} {p : P} {u : W} (x : Dn T h p u) (k : ∀ i, T' i → T i) : Dn T' h p u := Dn.mono (fun i o t e => ⟨e, fun z => t (k i z)⟩) p u x
theorem Tb.lt (E : Env n B O s h δ) {i : Nat} (t : Tb B O i) : i < h.length := by
  rcases t with t | t
  · exact Nat.lt_of_lt_of_le (E.old i t).1 E.le
  · exact (E.new i t).2
theorem Po.e {d : DE} {p : Dl → Option (List P)} (x : Po d p) : Pe d (fun δ => (p δ).map .lst) := fun n B O s h δ r E e => by
  have e : (p δ).map P.lst = some r := e
  cases q : p δ with
  | none => rw [q] at e; cases e
  | some xs =>
    rw [q] at e; cases e
    obtain ⟨a, l, us, e1, ge, g, ds⟩ := x n B O s h δ xs E q
    refine ⟨_, l, e1, ?_⟩
    simp only [Dn]
    exact ⟨a, us, rfl, fun t => absurd (Tb.lt E t) (by omega), g, ds.weak fun i t => .inl t⟩
def Pa (d : DA) (p : PA) : Prop := ∀ n B O s h δ r, Env n B O s h δ → p δ = some r → ∃ w l, d s h = .ok w (h ++ l) ∧ Dns (Tb B O) (h ++ l) r w
def Pt (d : DT) (p : PT) : Prop := ∀ n B O s h δ r, Env n B O s h δ → p δ = some r → ∃ l, d s h = .ok r (h ++ l)
/-! expressions -/
def pVar (i : Nat) : PE := fun δ => match δ[i]? with
  | some (.val p) => some p
  | _ => none
def pBor (i : Nat) : PE := fun δ => match δ[i]? with
  | some (.val p) => some p
  | some (.own xs) => some (.lst xs)
  | _ => none
theorem e_var (i : Nat) : Pe (dVar i) (pVar i) := fun n B O s h δ r E e => by
  unfold pVar at e
  split at e
  · rename_i p q
    cases e
    obtain ⟨_, u, a, b⟩ := E.at_ i _ q
    refine ⟨u, [], ?_, by rw [List.append_nil]; exact b⟩
    unfold dVar
    cases q2 : s[i]? with
    | none => rw [q2] at a; cases a
    | some z => rw [q2] at a; simp only [Option.getD_some] at a; subst a; rw [List.append_nil]
  · cases e
def pC (p : P) : PE := fun _ => some p
theorem e_c {w : W} {p : P} (k : ∀ T h, Dn T h p w) : Pe (dC w) (pC p) := fun n B O s h δ r E e => by
  cases e
  exact ⟨w, [], by rw [List.append_nil]; rfl, k _ _⟩
theorem e_int (i : Int) : Pe (dC (.int i)) (pC (.int i)) := e_c fun _ _ => by simp only [Dn]
theorem e_bl (b : Bool) : Pe (dC (.bl b)) (pC (.bl b)) := e_c fun _ _ => by simp only [Dn]
theorem e_non : Pe (dC .non) (pC .non) := e_c fun _ _ => by simp only [Dn]
theorem e_ty (x : String) : Pe (dC (.ty x)) (pC (.ty x)) := e_c fun _ _ => by simp only [Dn]
def OrD (T : Nat → Prop) (h : Sh) (r : P) : OR → Prop
  | .er => False
  | .val u => Dn T h r u
  | .new (.lst us) => ∃ rs, r = .lst rs ∧ Dns T h rs us
  | .new (.tup us) => ∃ rs, r = .tup rs ∧ Dns T h rs us
  | .new _ => False
theorem fin_d {T : Nat → Prop} {o : OR} {r : P} (lt : ∀ i, T i → i < h.length) (x : OrD T h r o) : ∃ w l, o.fin h = .ok w (h ++ l) ∧ Dn T (h ++ l) r w := by
  cases o with
  | er => exact x.elim
  | val u => exact ⟨u, [], by rw [List.append_nil]; rfl, by rw [List.append_nil]; exact x⟩
  | new o =>
    cases o with
    | lst us =>
      obtain ⟨rs, rfl, d⟩ := x
      refine ⟨_, [.lst us], rfl, ?_⟩
      simp only [Dn]
      exact ⟨h.length, us, rfl, fun t => absurd (lt _ t) (by omega), by simp, d.app⟩
    | tup us =>
      obtain ⟨rs, rfl, d⟩ := x
      refine ⟨_, [.tup us], rfl, ?_⟩
      simp only [Dn]
      exact ⟨h.length, us, rfl, fun t => absurd (lt _ t) (by omega), by simp, d.app⟩
    | _ => exact x.elim
def O2D (f : O2) (g : P → P → Option P) : Prop := ∀ T h p q w v r, DnB T h p w → DnB T h q v → g p q = some r → OrD T h r (f w v h)
def pOp (g : P → P → Option P) (a b : PE) : PE := fun δ => (a δ).bind fun x => (b δ).bind fun y => g x y
theorem e_op {f : O2} {g : P → P → Option P} {a b : DE} {p q : PE} (k : O2D f g) (ha : Pb a p) (hb : Pb b q) : Pe (dOp f a b) (pOp g p q) := fun n B O s h δ r E e => by
  unfold pOp at e
  cases e1 : p δ with
  | none => rw [e1] at e; cases e
  | some x =>
    rw [e1] at e
    simp only [Option.bind_some] at e
    cases e2 : q δ with
    | none => rw [e2] at e; cases e
    | some y =>
      rw [e2] at e
      simp only [Option.bind_some] at e
      obtain ⟨w, l, c1, d1⟩ := ha n B O s h δ x E e1
      obtain ⟨v, l2, c2, d2⟩ := hb n B O s (h ++ l) δ y E.app e2
      have d1' : DnB (Tb B O) (h ++ l ++ l2) x w := d1.app
      obtain ⟨u, l3, c3, d3⟩ := fin_d (h := h ++ l ++ l2) (fun i t => Tb.lt (E.app (l := l) |>.app (l := l2)) t) (k _ _ _ _ _ _ _ d1' d2 e)
      refine ⟨u, l ++ l2 ++ l3, ?_, ?_⟩
      · unfold dOp
        rw [c1]
        simp only [R.bind]
        rw [c2]
        simp only
        rw [c3]
        simp only [List.append_assoc]
      · simp only [List.append_assoc] at d3 ⊢
        exact d3
/-! the operations, deep -/
theorem DnB.int {T : Nat → Prop} {i : Int} {w : W} (x : DnB T h (.int i) w) : w = .int i := by
  rcases x with x | ⟨xs, a, us, e, _⟩
  · simpa only [Dn] using x
  · cases e
theorem DnB.str {T : Nat → Prop} {i : Str} {w : W} (x : DnB T h (.str i) w) : w = .str i := by
  rcases x with x | ⟨xs, a, us, e, _⟩
  · simpa only [Dn] using x
  · cases e
theorem DnB.bl {T : Nat → Prop} {i : Bool} {w : W} (x : DnB T h (.bl i) w) : w = .bl i := by
  rcases x with x | ⟨xs, a, us, e, _⟩
  · simpa only [Dn] using x
  · cases e
theorem DnB.non {T : Nat → Prop} {w : W} (x : DnB T h .non w) : w = .non := by
  rcases x with x | ⟨xs, a, us, e, _⟩
  · simpa only [Dn] using x
  · cases e
theorem DnB.lst {T : Nat → Prop} {xs : List P} {w : W} (x : DnB T h (.lst xs) w) : ∃ a us, w = .ref a ∧ h[a]? = some (.lst us) ∧ Dns T h xs us := by
  rcases x with x | ⟨ys, a, us, e, e2, g, d⟩
  · simp only [Dn] at x
    obtain ⟨i, us, e, _, g, d⟩ := x
    exact ⟨i, us, e, g, d⟩
  · cases e; exact ⟨a, us, e2, g, d⟩
theorem DnB.rol {T : Nat → Prop} {xs : List P} {w : W} (x : DnB T h (.rol xs) w) : ∃ a us, w = .ref a ∧ h[a]? = some (.rol us) ∧ Dns T h xs us := by
  rcases x with x | ⟨ys, a, us, e, e2, g, d⟩
  · simp only [Dn] at x
    obtain ⟨i, us, e, _, g, d⟩ := x
    exact ⟨i, us, e, g, d⟩
  · cases e
theorem DnB.tup {T : Nat → Prop} {xs : List P} {w : W} (x : DnB T h (.tup xs) w) : ∃ a us, w = .ref a ∧ ¬ T a ∧ h[a]? = some (.tup us) ∧ Dns T h xs us := by
  rcases x with x | ⟨ys, a, us, e, e2, g, d⟩
  · simp only [Dn] at x
    obtain ⟨i, us, e, t, g, d⟩ := x
    exact ⟨i, us, e, t, g, d⟩
  · cases e
def qInt (c : Int → Int → Bool) (f : Int → Int → Int) : P → P → Option P
  | .int i, .int j => if c i j then some (.int (f i j)) else none
  | _, _ => none
theorem d_int {c : Int → Int → Bool} {f : Int → Int → Int} : O2D (oInt c f) (qInt c f) := fun T h p q w v r x y e => by
  unfold qInt at e
  split at e
  · split at e
    · rename_i hc
      cases e
      rw [x.int, y.int]
      unfold oInt
      simp only [hc, if_true, OrD, Dn]
    · cases e
  · cases e
def qCmp (c : Int → Int → Bool) : P → P → Option P
  | .int i, .int j => some (.bl (c i j))
  | _, _ => none
theorem d_cmp {c : Int → Int → Bool} : O2D (oCmp c) (qCmp c) := fun T h p q w v r x y e => by
  unfold qCmp at e
  split at e
  · cases e
    rw [x.int, y.int]
    unfold oCmp
    simp only [OrD, Dn]
  · cases e
def qAdd : P → P → Option P
  | .int i, .int j => some (.int (i + j))
  | .str s, .str t => if s.length + t.length ≤ LIM then some (.str (s ++ t)) else none
  | .lst xs, .lst ys => if xs.length + ys.length ≤ LIM then some (.lst (xs ++ ys)) else none
  | .tup xs, .tup ys => if xs.length + ys.length ≤ LIM ∧ !xs.isEmpty then some (.tup (xs ++ ys)) else none
  | _, _ => none
theorem d_add : O2D oAdd qAdd := fun T h p q w v r x y e => by
  unfold qAdd at e
  split at e
  · cases e; rw [x.int, y.int]; unfold oAdd; simp only [OrD, Dn]
  · split at e
    · rename_i hl; cases e; rw [x.str, y.str]; unfold oAdd; simp only [hl, if_true, OrD, Dn]
    · cases e
  · split at e
    · rename_i hl
      cases e
      obtain ⟨a, us, rfl, g1, d1⟩ := x.lst
      obtain ⟨b, vs, rfl, g2, d2⟩ := y.lst
      unfold oAdd
      simp only [g1, g2, d1.length, d2.length, hl, if_true, OrD]
      exact ⟨_, rfl, d1.append d2⟩
    · cases e
  · split at e
    · rename_i hl
      cases e
      obtain ⟨a, us, rfl, t1, g1, d1⟩ := x.tup
      obtain ⟨b, vs, rfl, t2, g2, d2⟩ := y.tup
      have e1 := d1.nil_iff
      have e2 := d2.nil_iff
      unfold oAdd
      simp only [g1, g2, d1.length, d2.length]
      have hu : us ≠ [] := fun z => by
        rw [z] at e1
        have := hl.2
        rw [← e1] at this
        simp at this
      rw [if_pos ⟨hl.1, hu⟩]
      by_cases hv : vs = []
      · rw [if_pos hv]
        subst hv
        have hy : ∀ ys : List P, Dns T h ys [] → ys = [] := fun ys d => by
          cases ys with
          | nil => rfl
          | cons a b => simp only [Dns] at d; obtain ⟨_, _, z, _⟩ := d; cases z
        rw [hy _ d2, List.append_nil]
        simp only [OrD, Dn]
        exact ⟨a, us, rfl, t1, g1, d1⟩
      · rw [if_neg hv]
        exact ⟨_, rfl, d1.append d2⟩
    · cases e
  · cases e
def qMul : P → P → Option P
  | .int i, .int j => if mulOk i j then some (.int (i * j)) else none
  | .lst xs, .int k => if k < 2 ^ 20 ∧ -(2 ^ 20) < k ∧ xs.length * k.toNat ≤ LIM then some (.lst (List.replicate k.toNat xs).flatten) else none
  | _, _ => none
theorem d_mul : O2D oMul qMul := fun T h p q w v r x y e => by
  unfold qMul at e
  split at e
  · split at e
    · rename_i hc; cases e; rw [x.int, y.int]; unfold oMul; simp only [hc, if_true, OrD, Dn]
    · cases e
  · split at e
    · rename_i hc
      cases e
      obtain ⟨a, us, rfl, g1, d1⟩ := x.lst
      rw [y.int]
      unfold oMul
      simp only [g1, d1.length]
      rw [if_pos hc]
      exact ⟨_, rfl, d1.rep _⟩
    · cases e
  · cases e
def seqP : P → Option (List P)
  | .lst xs => some xs
  | .rol xs => some xs
  | .tup xs => some xs
  | _ => none
theorem DnB.seq {T : Nat → Prop} {p : P} {xs : List P} {w : W} (x : DnB T h p w) (e : seqP p = some xs) : ∃ us, seqW h w = some us ∧ Dns T h xs us := by
  cases p with
  | lst ys => cases e; obtain ⟨a, us, rfl, g, d⟩ := x.lst; exact ⟨us, by simp [seqW, lstW, tupW, g], d⟩
  | rol ys => cases e; obtain ⟨a, us, rfl, g, d⟩ := x.rol; exact ⟨us, by simp [seqW, lstW, tupW, g], d⟩
  | tup ys => cases e; obtain ⟨a, us, rfl, _, g, d⟩ := x.tup; exact ⟨us, by simp [seqW, lstW, tupW, g], d⟩
  | _ => cases e
def atP (xs : List P) (i : Int) : Option P := (ixW xs.length i).bind fun j => xs[j]?
def qIx (p q : P) : Option P := match seqP p, q with
  | some xs, .int i => atP xs i
  | _, _ => none
theorem d_ix : O2D oIx qIx := fun T h p q w v r x y e => by
  unfold qIx at e
  split at e
  · rename_i xs i e1
    obtain ⟨us, g, d⟩ := x.seq e1
    rw [y.int]
    unfold oIx
    rw [g]
    simp only
    unfold atP at e
    unfold atW
    rw [d.length]
    cases e2 : ixW xs.length i with
    | none => rw [e2] at e; cases e
    | some j =>
      rw [e2] at e
      obtain ⟨u, hu, du⟩ := d.get (show xs[j]? = some r from e)
      simp only [Option.bind_some, hu, OrD]
      exact du
  · cases e
def qIs (n : Bool) (p q : P) : Option P := match q with
  | .non => some (.bl (match p with | .non => !n | _ => n))
  | _ => none
theorem is_non {T : Nat → Prop} {p : P} {w : W} (x : DnB T h p w) : decide (w = .non) = (match p with | .non => true | _ => false) := by
  rcases x with x | ⟨xs, a, us, rfl, rfl, _⟩
  · cases p <;> simp only [Dn] at x
    case non => subst x; rfl
    case lst => obtain ⟨_, _, rfl, _⟩ := x; rfl
    case rol => obtain ⟨_, _, rfl, _⟩ := x; rfl
    case tup => obtain ⟨_, _, rfl, _⟩ := x; rfl
    case ins => obtain ⟨_, _, rfl, _⟩ := x; rfl
    all_goals (subst x; rfl)
  · rfl
theorem d_is : O2D oIs (qIs false) := fun T h p q w v r x y e => by
  unfold qIs at e
  split at e
  · cases e
    rw [y.non]
    unfold oIs
    simp only [OrD, Dn, is_non x]
    cases p <;> rfl
  · cases e
theorem d_isNot : O2D oIsNot (qIs true) := fun T h p q w v r x y e => by
  unfold qIs at e
  split at e
  · cases e
    rw [y.non]
    unfold oIsNot
    simp only [OrD, Dn, is_non x]
    cases p <;> rfl
  · cases e
end
end HL


set_option Elab.async false
set_option linter.all false
set_option maxRecDepth 100000
set_option maxHeartbeats 4000000
namespace HL
open PySem (Str)
section
variable {n : Lo} {B : Nat → Prop} {O : List (List Nat)} {s : Sg} {h l : Sh} {δ : Dl}
/-! equality -/
def datsP (f : P → Option D) : List P → Option (List D)
  | [] => some []
  | x :: r => (f x).bind fun d => (datsP f r).map (d :: ·)
def datP : Nat → P → Option D
  | _, .non => some .non
  | _, .bl b => some (.bl b)
  | _, .int i => some (.int i)
  | _, .str x => if sOk x then some (.str x) else none
  | n + 1, .lst xs => (datsP (datP n) xs).map .lst
  | n + 1, .rol xs => (datsP (datP n) xs).map .lst
  | n + 1, .tup xs => (datsP (datP n) xs).map .tup
  | _, _ => none
theorem dats_p {T : Nat → Prop} {f : P → Option D} {g : W → Option D} (k : ∀ p w d, Dn T h p w → f p = some d → g w = some d) : ∀ (ps : List P) (us : List W) (ds : List D), Dns T h ps us → datsP f ps = some ds → dats g us = some ds
  | [], us, ds, x, e => by simp only [Dns] at x; rw [x]; exact e
  | p :: ps, us, ds, x, e => by
    simp only [Dns] at x
    obtain ⟨u, r, rfl, d, dr⟩ := x
    unfold datsP at e
    unfold dats
    cases e1 : f p with
    | none => rw [e1] at e; cases e
    | some a =>
      rw [e1] at e
      cases e2 : datsP f ps with
      | none => rw [e2] at e; cases e
      | some b => rw [e2] at e; rw [k p u a d e1, dats_p k ps r b dr e2]; exact e
theorem dat_p {T : Nat → Prop} : ∀ (n : Nat) (p : P) (w : W) (d : D), Dn T h p w → datP n p = some d → dat n h w = some d := by
  intro n
  induction n with
  | zero =>
    intro p w d x e
    cases p <;> simp only [Dn] at x <;> first
      | (subst x; exact e)
      | cases e
  | succ n ih =>
    intro p w d x e
    cases p <;> simp only [Dn] at x
    case lst ps =>
      obtain ⟨i, us, rfl, _, g, ds⟩ := x
      unfold datP at e
      unfold dat
      rw [g]
      simp only
      cases q : datsP (datP n) ps with
      | none => rw [q] at e; cases e
      | some b => rw [q] at e; rw [dats_p ih ps us b ds q]; exact e
    case rol ps =>
      obtain ⟨i, us, rfl, _, g, ds⟩ := x
      unfold datP at e
      unfold dat
      rw [g]
      simp only
      cases q : datsP (datP n) ps with
      | none => rw [q] at e; cases e
      | some b => rw [q] at e; rw [dats_p ih ps us b ds q]; exact e
    case tup ps =>
      obtain ⟨i, us, rfl, _, g, ds⟩ := x
      unfold datP at e
      unfold dat
      rw [g]
      simp only
      cases q : datsP (datP n) ps with
      | none => rw [q] at e; cases e
      | some b => rw [q] at e; rw [dats_p ih ps us b ds q]; exact e
    case ins => cases e
    all_goals first
      | (subst x; exact e)
theorem dat_b {T : Nat → Prop} {n : Nat} {p : P} {w : W} {d : D} (x : DnB T h p w) (e : datP (n + 1) p = some d) : dat (n + 1) h w = some d := by
  rcases x with x | ⟨xs, a, us, rfl, rfl, g, ds⟩
  · exact dat_p _ p w d x e
  · unfold datP at e
    unfold dat
    rw [g]
    simp only
    cases q : datsP (datP n) xs with
    | none => rw [q] at e; cases e
    | some b => rw [q] at e; rw [dats_p (dat_p n) xs us b ds q]; exact e
def eqP (p q : P) : Option Bool := match p, q with
  | .str a, .str b => some (decide (a = b))
  | .int a, .int b => some (decide (a = b))
  | p, q => (match datP DEEP p, datP DEEP q with
    | some a, some b => some (D.eq a b)
    | _, _ => none)
theorem d_eqH {T : Nat → Prop} {p q : P} {w v : W} {b : Bool} (x : DnB T h p w) (y : DnB T h q v) (e : eqP p q = some b) : eqH w v h = some b := by
  have deep : (match datP DEEP p, datP DEEP q with | some a, some b => some (D.eq a b) | _, _ => none) = some b → (match dat DEEP h w, dat DEEP h v with | some a, some b => some (D.eq a b) | _, _ => none) = some b := fun e => by
    split at e
    · rename_i a c e1 e2
      rw [show dat DEEP h w = some a from dat_b (n := 7) x e1, show dat DEEP h v = some c from dat_b (n := 7) y e2]
      exact e
    · cases e
  unfold eqP at e
  split at e
  · rw [x.str, y.str]; exact e
  · rw [x.int, y.int]; exact e
  · have z := deep e
    unfold eqH
    split
    · rename_i a c
      rw [← z]
      unfold dat
      split
      · rename_i d1 d2 h1 h2
        split at h1
        · split at h2
          · cases h1; cases h2; simp only [D.eq]; refine congrArg some ?_; rw [Bool.eq_iff_iff]; simp
          · cases h2
        · cases h1
      · rename_i hne
        split at z
        · rename_i d1 d2 h1 h2
          exact absurd (h1) (fun h1 => hne d1 d2 (by unfold dat at h1; exact h1) (by unfold dat at h2; exact h2))
        · cases z
    · rename_i a c
      rw [← z]
      simp only [dat, D.eq]
      refine congrArg some ?_
      rw [Bool.eq_iff_iff]; simp
    · exact z
def qEq (m : Bool) (p q : P) : Option P := (eqP p q).map fun b => .bl (m != b)
theorem d_eq : O2D oEq (qEq false) := fun T h p q w v r x y e => by
  unfold qEq at e
  cases e1 : eqP p q with
  | none => rw [e1] at e; cases e
  | some b =>
    rw [e1] at e; cases e
    unfold oEq
    rw [d_eqH x y e1]
    simp only [OrD, Dn]
    cases b <;> rfl
theorem d_ne : O2D oNe (qEq true) := fun T h p q w v r x y e => by
  unfold qEq at e
  cases e1 : eqP p q with
  | none => rw [e1] at e; cases e
  | some b =>
    rw [e1] at e; cases e
    unfold oNe
    rw [d_eqH x y e1]
    simp only [OrD, Dn]
    cases b <;> rfl
/-! in -/
def flatP : P → Option W
  | .non => some .non
  | .bl b => some (.bl b)
  | .int i => some (.int i)
  | .str s => some (.str s)
  | _ => none
/-! one place -/
def pUn (g : P → Option P) (a : PE) : PE := fun δ => (a δ).bind g
def lstP : P → Option (List P)
  | .lst xs => some xs
  | .rol xs => some xs
  | _ => none
theorem DnB.lstW {T : Nat → Prop} {p : P} {xs : List P} {w : W} (x : DnB T h p w) (e : lstP p = some xs) : ∃ us, HL.lstW h w = some us ∧ Dns T h xs us := by
  cases p with
  | lst ys => cases e; obtain ⟨a, us, rfl, g, d⟩ := x.lst; exact ⟨us, by simp [HL.lstW, g], d⟩
  | rol ys => cases e; obtain ⟨a, us, rfl, g, d⟩ := x.rol; exact ⟨us, by simp [HL.lstW, g], d⟩
  | _ => cases e
/-! arguments -/
def pNil : PA := fun _ => some []
def pCons (a : PE) (r : PA) : PA := fun δ => (a δ).bind fun x => (r δ).bind fun xs => some (x :: xs)
theorem a_nil : Pa dNil pNil := fun n B O s h δ r E e => by
  cases e
  exact ⟨[], [], by rw [List.append_nil]; rfl, by simp only [Dns]⟩
theorem a_cons {a : DE} {r : DA} {p : PE} {q : PA} (ha : Pe a p) (hr : Pa r q) : Pa (dCons a r) (pCons p q) := fun n B O s h δ rs E e => by
  unfold pCons at e
  cases e1 : p δ with
  | none => rw [e1] at e; cases e
  | some x =>
    rw [e1] at e
    simp only [Option.bind_some] at e
    cases e2 : q δ with
    | none => rw [e2] at e; cases e
    | some xs =>
      rw [e2] at e
      cases e
      obtain ⟨w, l, c1, d1⟩ := ha n B O s h δ x E e1
      obtain ⟨ws, l2, c2, d2⟩ := hr n B O s (h ++ l) δ xs E.app e2
      refine ⟨w :: ws, l ++ l2, ?_, ?_⟩
      · unfold dCons
        rw [c1]
        simp only [R.bind]
        rw [c2, List.append_assoc]
      · rw [← List.append_assoc]
        simp only [Dns]
        exact ⟨w, ws, rfl, d1.app, d2⟩
def DnsB (T : Nat → Prop) (h : Sh) : List P → List W → Prop
  | [], us => us = []
  | p :: ps, us => ∃ u r, us = u :: r ∧ DnB T h p u ∧ DnsB T h ps r
theorem DnsB.app {T : Nat → Prop} : ∀ {ps : List P} {us : List W}, DnsB T h ps us → DnsB T (h ++ l) ps us
  | [], us, x => x
  | p :: ps, us, ⟨u, r, e, d, dr⟩ => ⟨u, r, e, d.app, dr.app⟩
def Pab (d : DA) (p : PA) : Prop := ∀ n B O s h δ r, Env n B O s h δ → p δ = some r → ∃ w l, d s h = .ok w (h ++ l) ∧ DnsB (Tb B O) (h ++ l) r w
theorem ab_nil : Pab dNil pNil := fun n B O s h δ r E e => by
  cases e
  exact ⟨[], [], by rw [List.append_nil]; rfl, rfl⟩
theorem ab_cons {a : DE} {r : DA} {p : PE} {q : PA} (ha : Pb a p) (hr : Pab r q) : Pab (dCons a r) (pCons p q) := fun n B O s h δ rs E e => by
  unfold pCons at e
  cases e1 : p δ with
  | none => rw [e1] at e; cases e
  | some x =>
    rw [e1] at e
    simp only [Option.bind_some] at e
    cases e2 : q δ with
    | none => rw [e2] at e; cases e
    | some xs =>
      rw [e2] at e
      cases e
      obtain ⟨w, l, c1, d1⟩ := ha n B O s h δ x E e1
      obtain ⟨ws, l2, c2, d2⟩ := hr n B O s (h ++ l) δ xs E.app e2
      refine ⟨w :: ws, l ++ l2, ?_, ?_⟩
      · unfold dCons
        rw [c1]
        simp only [R.bind]
        rw [c2, List.append_assoc]
      · rw [← List.append_assoc]
        exact ⟨w, ws, rfl, d1.app, d2⟩
def BD (f : List W → Sh → OR) (g : List P → Option P) : Prop := ∀ T h ps ws r, DnsB T h ps ws → g ps = some r → OrD T h r (f ws h)
def pB (g : List P → Option P) (a : PA) : PE := fun δ => (a δ).bind g
theorem e_b {f : List W → Sh → OR} {g : List P → Option P} {a : DA} {p : PA} (k : BD f g) (ha : Pab a p) : Pe (dB f a) (pB g p) := fun n B O s h δ r E e => by
  unfold pB at e
  cases e1 : p δ with
  | none => rw [e1] at e; cases e
  | some x =>
    rw [e1] at e
    obtain ⟨w, l, c1, d1⟩ := ha n B O s h δ x E e1
    obtain ⟨u, l3, c3, d3⟩ := fin_d (h := h ++ l) (fun i t => Tb.lt (E.app (l := l)) t) (k _ _ _ _ _ d1 e)
    refine ⟨u, l ++ l3, ?_, by rw [← List.append_assoc]; exact d3⟩
    unfold dB
    rw [c1]
    simp only [R.bind]
    rw [c3, List.append_assoc]
theorem DnsB.one {T : Nat → Prop} {p : P} {us : List W} (x : DnsB T h [p] us) : ∃ u, us = [u] ∧ DnB T h p u := by
  obtain ⟨u, r, e, d, dr⟩ := x
  have : r = [] := dr
  subst this
  exact ⟨u, e, d⟩
theorem DnsB.two {T : Nat → Prop} {p q : P} {us : List W} (x : DnsB T h [p, q] us) : ∃ u v, us = [u, v] ∧ DnB T h p u ∧ DnB T h q v := by
  obtain ⟨u, r, e, d, dr⟩ := x
  obtain ⟨v, rfl, dv⟩ := dr.one
  exact ⟨u, v, e, d, dv⟩
def qLst (xs : List P) : Option (List P) := if xs.length ≤ LIM then some xs else none
def pO (g : List P → Option (List P)) (a : PA) : Dl → Option (List P) := fun δ => (a δ).bind g
theorem o_lst {a : DA} {p : PA} (ha : Pa a p) : Po (dB bLst a) (pO qLst p) := fun n B O s h δ r E e => by
  unfold pO at e
  cases e1 : p δ with
  | none => rw [e1] at e; cases e
  | some x =>
    rw [e1] at e
    have e : qLst x = some r := e
    unfold qLst at e
    by_cases hl : x.length ≤ LIM
    · rw [if_pos hl] at e
      have hr : x = r := Option.some.inj e
      subst hr
      obtain ⟨w, l, c1, d1⟩ := ha n B O s h δ x E e1
      refine ⟨(h ++ l).length, l ++ [.lst w], w, ?_, by simp, by rw [← List.append_assoc]; simp, ?_⟩
      · unfold dB
        rw [c1]
        simp only [R.bind, bLst, d1.length, hl, if_true, OR.fin, List.append_assoc]
      · rw [← List.append_assoc]
        refine Dns.mono (fun i o t e => ⟨app_at e, fun z => ?_⟩) x w d1
        rcases z with z | z
        · exact t z
        · have := (List.getElem?_eq_some_iff.mp e).1; omega
    · rw [if_neg hl] at e; cases e
def qTup (xs : List P) : Option P := if xs.length ≤ LIM then some (.tup xs) else none
theorem e_tup {a : DA} {p : PA} (ha : Pa a p) : Pe (dB bTup a) (pB qTup p) := fun n B O s h δ r E e => by
  unfold pB at e
  cases e1 : p δ with
  | none => rw [e1] at e; cases e
  | some x =>
    rw [e1] at e
    have e : qTup x = some r := e
    unfold qTup at e
    split at e
    · rename_i hl
      cases e
      obtain ⟨w, l, c1, d1⟩ := ha n B O s h δ x E e1
      obtain ⟨u, l3, c3, d3⟩ := fin_d (h := h ++ l) (o := .new (.tup w)) (r := .tup x) (fun i t => Tb.lt (E.app (l := l)) t) ⟨x, rfl, d1⟩
      refine ⟨u, l ++ l3, ?_, by rw [← List.append_assoc]; exact d3⟩
      unfold dB
      rw [c1]
      simp only [R.bind, bTup, d1.length, hl, if_true]
      rw [c3, List.append_assoc]
    · cases e
def qLen : List P → Option P
  | [.str s] => if s.length ≤ LIM then some (.int s.length) else none
  | [p] => (seqP p).map fun xs => .int xs.length
  | _ => none
theorem d_len : BD bLen qLen := fun T h ps ws r x e => by
  unfold qLen at e
  split at e
  · split at e
    · rename_i hl; cases e; obtain ⟨u, rfl, d⟩ := x.one; rw [d.str]; simp only [bLen, hl, if_true, OrD, Dn]
    · cases e
  · rename_i p hp
    cases e1 : seqP p with
    | none => rw [e1] at e; cases e
    | some xs =>
      rw [e1] at e; cases e
      obtain ⟨u, rfl, d⟩ := x.one
      obtain ⟨us, g, ds⟩ := d.seq e1
      unfold bLen
      split
      · rename_i s hs
        injection hs with hs _
        subst hs
        simp [seqW, lstW, tupW] at g
      · rename_i y hy hs
        injection hs with hs _
        subst hs
        rw [g]
        simp only [OrD, Dn, ds.length]
      · rename_i hne
        exact absurd rfl (hne u)
  · cases e
def qMax2 : List P → Option P
  | [.int i, .int j] => some (.int (if j > i then j else i))
  | _ => none
theorem d_max2 : BD bMax2 qMax2 := fun T h ps ws r x e => by
  unfold qMax2 at e
  split at e
  · cases e; obtain ⟨u, v, rfl, d1, d2⟩ := x.two; rw [d1.int, d2.int]; simp only [bMax2, OrD, Dn]
  · cases e
def qMin2 : List P → Option P
  | [.int i, .int j] => some (.int (if j < i then j else i))
  | _ => none
theorem d_min2 : BD bMin2 qMin2 := fun T h ps ws r x e => by
  unfold qMin2 at e
  split at e
  · cases e; obtain ⟨u, v, rfl, d1, d2⟩ := x.two; rw [d1.int, d2.int]; simp only [bMin2, OrD, Dn]
  · cases e
def qList : List P → Option P
  | [p] => (seqP p).map .lst
  | _ => none
theorem d_list : BD bList qList := fun T h ps ws r x e => by
  unfold qList at e
  split at e
  · rename_i p
    cases e1 : seqP p with
    | none => rw [e1] at e; cases e
    | some xs =>
      rw [e1] at e; cases e
      obtain ⟨u, rfl, d⟩ := x.one
      obtain ⟨us, g, ds⟩ := d.seq e1
      simp only [bList, g, OrD]
      exact ⟨_, rfl, ds⟩
  · cases e
def qTuple : List P → Option P
  | [.tup xs] => some (.tup xs)
  | [p] => (lstP p).map .tup
  | _ => none
theorem d_tuple : BD bTuple qTuple := fun T h ps ws r x e => by
  unfold qTuple at e
  split at e
  · cases e
    obtain ⟨u, rfl, d⟩ := x.one
    obtain ⟨a, us, rfl, t, g, ds⟩ := d.tup
    simp only [bTuple, lstW, tupW, g, OrD, Dn]
    exact ⟨a, us, rfl, t, g, ds⟩
  · rename_i p hp
    cases e1 : lstP p with
    | none => rw [e1] at e; cases e
    | some xs =>
      rw [e1] at e; cases e
      obtain ⟨u, rfl, d⟩ := x.one
      obtain ⟨us, g, ds⟩ := d.lstW e1
      simp only [bTuple, g, OrD]
      exact ⟨_, rfl, ds⟩
  · cases e
end
end HL


set_option Elab.async false
set_option linter.all false
set_option maxRecDepth 100000
set_option maxHeartbeats 4000000
namespace HL
open PySem (Str)
section
variable {n : Lo} {B : Nat → Prop} {O : List (List Nat)} {s : Sg} {h l : Sh} {δ : Dl}
/-! tests -/
def truP : P → Option Bool
  | .non => some false
  | .bl b => some b
  | .int i => some (i != 0)
  | .str s => if s.length ≤ LIM then some ((s.length : Int) != 0) else none
  | .lst xs => some (!xs.isEmpty)
  | .rol xs => some (!xs.isEmpty)
  | .tup xs => some (!xs.isEmpty)
  | _ => none
theorem tru_p {T : Nat → Prop} {p : P} {w : W} {b : Bool} (x : DnB T h p w) (e : truP p = some b) : truW w h = some b := by
  cases p with
  | non => rw [x.non]; exact e
  | bl b => rw [x.bl]; exact e
  | int i => rw [x.int]; exact e
  | str y => rw [x.str]; exact e
  | lst xs => obtain ⟨a, us, rfl, g, d⟩ := x.lst; cases e; simp only [truW, g, d.nil_iff]
  | rol xs => obtain ⟨a, us, rfl, g, d⟩ := x.rol; cases e; simp only [truW, g, d.nil_iff]
  | tup xs => obtain ⟨a, us, rfl, _, g, d⟩ := x.tup; cases e; simp only [truW, g, d.nil_iff]
  | _ => cases e
def pT (a : PE) : PT := fun δ => (a δ).bind truP
theorem t_e {a : DE} {p : PE} (ha : Pb a p) : Pt (dT a) (pT p) := fun n B O s h δ r E e => by
  unfold pT at e
  cases e1 : p δ with
  | none => rw [e1] at e; cases e
  | some x =>
    rw [e1] at e
    obtain ⟨w, l, c1, d1⟩ := ha n B O s h δ x E e1
    refine ⟨l, ?_⟩
    unfold dT
    rw [c1]
    simp only [R.bind, tru_p d1 (show truP x = some r from e)]
def ptNot (a : PT) : PT := fun δ => (a δ).map (!·)
theorem t_not {a : DT} {p : PT} (ha : Pt a p) : Pt (tNot a) (ptNot p) := fun n B O s h δ r E e => by
  unfold ptNot at e
  cases e1 : p δ with
  | none => rw [e1] at e; cases e
  | some x =>
    rw [e1] at e; cases e
    obtain ⟨l, c1⟩ := ha n B O s h δ x E e1
    exact ⟨l, by unfold tNot; rw [c1]; rfl⟩
def ptAnd (a b : PT) : PT := fun δ => (a δ).bind fun c => if c = true then b δ else some false
def ptOr (a b : PT) : PT := fun δ => (a δ).bind fun c => if c = true then some true else b δ
theorem t_and {a b : DT} {p q : PT} (ha : Pt a p) (hb : Pt b q) : Pt (tAnd a b) (ptAnd p q) := fun n B O s h δ r E e => by
  unfold ptAnd at e
  cases e1 : p δ with
  | none => rw [e1] at e; cases e
  | some x =>
    rw [e1] at e
    simp only [Option.bind_some] at e
    obtain ⟨l, c1⟩ := ha n B O s h δ x E e1
    cases x with
    | false => cases e; exact ⟨l, by unfold tAnd; rw [c1]; rfl⟩
    | true =>
      obtain ⟨l2, c2⟩ := hb n B O s (h ++ l) δ r E.app (by simpa using e)
      exact ⟨l ++ l2, by unfold tAnd; rw [c1]; simp only [R.bind, if_true]; rw [c2, List.append_assoc]⟩
theorem t_or {a b : DT} {p q : PT} (ha : Pt a p) (hb : Pt b q) : Pt (tOr a b) (ptOr p q) := fun n B O s h δ r E e => by
  unfold ptOr at e
  cases e1 : p δ with
  | none => rw [e1] at e; cases e
  | some x =>
    rw [e1] at e
    simp only [Option.bind_some] at e
    obtain ⟨l, c1⟩ := ha n B O s h δ x E e1
    cases x with
    | true => cases e; exact ⟨l, by unfold tOr; rw [c1]; rfl⟩
    | false =>
      obtain ⟨l2, c2⟩ := hb n B O s (h ++ l) δ r E.app (by simpa using e)
      exact ⟨l ++ l2, by unfold tOr; rw [c1]; simp only [R.bind, Bool.false_eq_true, if_false]; rw [c2, List.append_assoc]⟩
def ptTrue : PT := fun _ => some true
theorem t_true : Pt tTrue ptTrue := fun n B O s h δ r E e => by cases e; exact ⟨[], by rw [List.append_nil]; rfl⟩
/-! and, or, not, if as values -/
def blP : P → Option Bool
  | .bl b => some b
  | _ => none
theorem bl_p {T : Nat → Prop} {p : P} {w : W} {b : Bool} (x : Dn T h p w) (e : blP p = some b) : w = .bl b := by
  cases p <;> first
    | (cases e; simpa only [Dn] using x)
    | cases e
def pAnd (a b : PE) : PE := fun δ => (a δ).bind fun x => (blP x).bind fun c => if c = true then b δ else some (.bl false)
def pOr (a b : PE) : PE := fun δ => (a δ).bind fun x => (blP x).bind fun c => if c = true then some (.bl true) else b δ
def pNot (a : PE) : PE := fun δ => (a δ).bind fun x => (blP x).map fun c => .bl (!c)
theorem e_and {a b : DE} {p q : PE} (ha : Pe a p) (hb : Pe b q) : Pe (dAnd a b) (pAnd p q) := fun n B O s h δ r E e => by
  unfold pAnd at e
  cases e1 : p δ with
  | none => rw [e1] at e; cases e
  | some x =>
    rw [e1] at e
    simp only [Option.bind_some] at e
    cases e2 : blP x with
    | none => rw [e2] at e; cases e
    | some c =>
      rw [e2] at e
      simp only [Option.bind_some] at e
      obtain ⟨w, l, c1, d1⟩ := ha n B O s h δ x E e1
      have hw := bl_p d1 e2
      subst hw
      cases c with
      | false => cases e; exact ⟨.bl false, l, by unfold dAnd; rw [c1]; rfl, by simp only [Dn]⟩
      | true =>
        obtain ⟨u, l2, c2, d2⟩ := hb n B O s (h ++ l) δ r E.app (by simpa using e)
        exact ⟨u, l ++ l2, by unfold dAnd; rw [c1]; simp only [R.bind, if_true]; rw [c2, List.append_assoc], by rw [← List.append_assoc]; exact d2⟩
theorem e_not {a : DE} {p : PE} (ha : Pe a p) : Pe (dNot a) (pNot p) := fun n B O s h δ r E e => by
  unfold pNot at e
  cases e1 : p δ with
  | none => rw [e1] at e; cases e
  | some x =>
    rw [e1] at e
    simp only [Option.bind_some] at e
    cases e2 : blP x with
    | none => rw [e2] at e; cases e
    | some c =>
      rw [e2] at e; cases e
      obtain ⟨w, l, c1, d1⟩ := ha n B O s h δ x E e1
      have hw := bl_p d1 e2
      subst hw
      exact ⟨.bl (!c), l, by unfold dNot; rw [c1]; rfl, by simp only [Dn]⟩
def pIf (c : PT) (a b : PE) : PE := fun δ => (c δ).bind fun k => if k = true then a δ else b δ
theorem e_if {c : DT} {a b : DE} {pc : PT} {p q : PE} (hc : Pt c pc) (ha : Pe a p) (hb : Pe b q) : Pe (dIf c a b) (pIf pc p q) := fun n B O s h δ r E e => by
  unfold pIf at e
  cases e1 : pc δ with
  | none => rw [e1] at e; cases e
  | some k =>
    rw [e1] at e
    simp only [Option.bind_some] at e
    obtain ⟨l, c1⟩ := hc n B O s h δ k E e1
    cases k with
    | true =>
      obtain ⟨u, l2, c2, d2⟩ := ha n B O s (h ++ l) δ r E.app (by simpa using e)
      exact ⟨u, l ++ l2, by unfold dIf; rw [c1]; simp only [R.bind, if_true]; rw [c2, List.append_assoc], by rw [← List.append_assoc]; exact d2⟩
    | false =>
      obtain ⟨u, l2, c2, d2⟩ := hb n B O s (h ++ l) δ r E.app (by simpa using e)
      exact ⟨u, l ++ l2, by unfold dIf; rw [c1]; simp only [R.bind, Bool.false_eq_true, if_false]; rw [c2, List.append_assoc], by rw [← List.append_assoc]; exact d2⟩
def pChain (f g : Int → Int → Bool) (a b c : PE) : PE := fun δ => match a δ, b δ with
  | some (.int i), some (.int j) => if f i j then (match c δ with
      | some (.int k) => some (.bl (g j k))
      | _ => none) else some (.bl false)
  | _, _ => none
theorem e_chain {f g : Int → Int → Bool} {a b c : DE} {p q r : PE} (ha : Pe a p) (hb : Pe b q) (hc : Pe c r) : Pe (dChain (oCmp f) (oCmp g) a b c) (pChain f g p q r) := fun n B O s h δ v E e => by
  unfold pChain at e
  split at e
  · rename_i i j e1 e2
    obtain ⟨w, l, c1, d1⟩ := ha n B O s h δ _ E e1
    obtain ⟨u, l2, c2, d2⟩ := hb n B O s (h ++ l) δ _ E.app e2
    simp only [Dn] at d1 d2
    subst d1 d2
    split at e
    · rename_i hf
      split at e
      · rename_i k e3
        cases e
        obtain ⟨t, l3, c3, d3⟩ := hc n B O s (h ++ l ++ l2) δ _ (E.app.app) e3
        simp only [Dn] at d3
        subst d3
        refine ⟨.bl (g j k), l ++ l2 ++ l3, ?_, by simp only [Dn]⟩
        unfold dChain
        rw [c1]
        simp only [R.bind]
        rw [c2]
        simp only [oCmp, OR.fin, hf, if_true]
        rw [c3]
        simp only [List.append_assoc]
      · cases e
    · rename_i hf
      cases e
      refine ⟨.bl false, l ++ l2, ?_, by simp only [Dn]⟩
      unfold dChain
      rw [c1]
      simp only [R.bind]
      rw [c2]
      simp only [oCmp, OR.fin, Bool.eq_false_iff.mpr hf, Bool.false_eq_true, if_false, List.append_assoc]
  · cases e
/-! slices -/
abbrev PO := Dl → Option (Option Int)
def pNoPart : PO := fun _ => some none
def pPart (a : PE) : PO := fun δ => match a δ with
  | some (.int i) => some (some i)
  | _ => none
def cutP (xs : List P) (lo hi : Option Int) : List P := (xs.drop (sIx xs.length 0 lo)).take (sIx xs.length xs.length hi - sIx xs.length 0 lo)
def qSl (p : P) (lo hi : Option Int) : Option P := match p with
  | .lst xs => some (.lst (cutP xs lo hi))
  | .rol xs => some (.lst (cutP xs lo hi))
  | .tup xs => if sIx xs.length 0 lo = 0 ∧ sIx xs.length xs.length hi = xs.length then none else some (.tup (cutP xs lo hi))
  | _ => none
def pSl (a : PE) (lo hi : PO) : PE := fun δ => (a δ).bind fun x => (lo δ).bind fun l => (hi δ).bind fun u => qSl x l u
/-! defs -/
def ResD (T : Nat → Prop) (m : Nat) (h : Sh) (w : W) : RF → Prop
  | .v p => Dn T h p w
  | .o xs => ∃ a us, w = .ref a ∧ m ≤ a ∧ h[a]? = some (.lst us) ∧ Dns (fun i => T i ∨ i = a) h xs us
def Pf (f : Fn) (g : PF) : Prop := ∀ T h ws ps r, (∀ i, T i → i < h.length) → Dns T h ps ws → g ps = some r → ∃ w l, f ws h = .ok w (h ++ l) ∧ ResD T h.length (h ++ l) w r
def pCall (g : PF) (a : PA) : PE := fun δ => ((a δ).bind g).map RF.val
theorem e_call {f : Fn} {g : PF} {a : DA} {p : PA} (hf : Pf f g) (ha : Pa a p) : Pe (dCall f a) (pCall g p) := fun n B O s h δ r E e => by
  unfold pCall at e
  cases e1 : p δ with
  | none => rw [e1] at e; cases e
  | some x =>
    rw [e1] at e
    simp only [Option.bind_some] at e
    cases e2 : g x with
    | none => rw [e2] at e; cases e
    | some rf =>
      rw [e2] at e; cases e
      obtain ⟨ws, l, c1, d1⟩ := ha n B O s h δ x E e1
      obtain ⟨w, l2, c2, d2⟩ := hf (Tb B O) (h ++ l) ws x rf (fun i t => Tb.lt (E.app (l := l)) t) d1 e2
      refine ⟨w, l ++ l2, by unfold dCall; rw [c1]; simp only [R.bind]; rw [c2, List.append_assoc], ?_⟩
      rw [← List.append_assoc]
      cases rf with
      | v p => exact d2
      | o xs =>
        obtain ⟨a, us, rfl, ge, g, ds⟩ := d2
        simp only [RF.val, Dn]
        exact ⟨a, us, rfl, fun t => absurd (Tb.lt (E.app (l := l)) t) (by omega), g, ds.weak fun i t => .inl t⟩
def pCallO (g : PF) (a : PA) : Dl → Option (List P) := fun δ => ((a δ).bind g).bind fun r => match r with
  | .o xs => some xs
  | .v _ => none
end
end HL


set_option Elab.async false
set_option linter.all false
set_option maxRecDepth 100000
set_option maxHeartbeats 4000000
namespace HL
open PySem (Str)
section
variable {n : Lo} {B : Nat → Prop} {O O' O2 : List (List Nat)} {s : Sg} {h h' h2 l : Sh} {δ : Dl}
structure Keep (O : List (List Nat)) (h : Sh) (O' : List (List Nat)) (h' : Sh) : Prop where
  le : h.length ≤ h'.length
  at_ : ∀ (i : Nat) (o : SO), h[i]? = some o → ¬ Ow O i → h'[i]? = some o ∧ ¬ Ow O' i
theorem Keep.refl : Keep O h O h := ⟨Nat.le_refl _, fun _ _ e m => ⟨e, m⟩⟩
theorem Keep.trans (a : Keep O h O' h') (b : Keep O' h' O2 h2) : Keep O h O2 h2 := ⟨Nat.le_trans a.le b.le, fun i o e m => b.at_ i o (a.at_ i o e m).1 (a.at_ i o e m).2⟩
theorem Keep.app : Keep O h O (h ++ l) := ⟨by simp, fun i o e m => ⟨app_at e, m⟩⟩
def Kp (n : Lo) (h h' : Sh) : Prop := n.at_ ≤ h'.length ∧ ∀ (i : Nat) (o : SO), i < n.at_ → ¬ n.lent i → h[i]? = some o → h'[i]? = some o
theorem Keep.kp (k : Keep O h O' h') (E : Env n B O s h δ) : Kp n h h' := ⟨Nat.le_trans E.le k.le, fun i o hi hl e => (k.at_ i o e fun m => (E.new i m).1.elim (fun z => absurd z (by omega)) hl).1⟩
theorem Kp.trans {n : Lo} {h h' h2 : Sh} (a : Kp n h h') (b : Kp n h' h2) : Kp n h h2 := ⟨b.1, fun i o hi hl e => b.2 i o hi hl (a.2 i o hi hl e)⟩
theorem Keep.dns (k : Keep O h O' h') {p : List P} {w : List W} (x : Dns (Tb B O) h p w) : Dns (Tb B O') h' p w := Dns.mono (fun i o t e => by
  have := k.at_ i o e fun m => t (.inr m)
  exact ⟨this.1, fun z => z.elim (fun z => t (.inl z)) this.2⟩) p w x
def EndD (n : Lo) (B : Nat → Prop) (O : List (List Nat)) (h : Sh) (c : C) : RS → Prop
  | .er => True
  | .nx δ' => ∃ O' s' h', c = .nx s' h' ∧ Env n B O' s' h' δ' ∧ Keep O h O' h'
  | .bk δ' => ∃ O' s' h', c = .bk s' h' ∧ Env n B O' s' h' δ' ∧ Keep O h O' h'
  | .ct δ' => ∃ O' s' h', c = .ct s' h' ∧ Env n B O' s' h' δ' ∧ Keep O h O' h'
  | .rt r => ∃ w h', c = .rt w h' ∧ Kp n h h' ∧ Dn B h' r w
  | .rx r δ' => ∃ w O' s' h', c = .rt w h' ∧ Env n B O' s' h' δ' ∧ Keep O h O' h' ∧ Dn (Tb B O') h' r w
  | .ro xs => ∃ a us h', c = .rt (.ref a) h' ∧ Kp n h h' ∧ (n.at_ ≤ a ∨ n.lent a) ∧ h'[a]? = some (.lst us) ∧ Dns (fun i => B i ∨ i = a) h' xs us
def Ps (d : DS) (p : PS) : Prop := ∀ n B O s h δ, Env n B O s h δ → EndD n B O h (d s h) (p δ)
theorem EndD.before {c : C} {r : RS} (k : Keep O h O' h') (E : Env n B O s h δ) (x : EndD n B O' h' c r) : EndD n B O h c r := by
  cases r with
  | er => trivial
  | nx δ' => obtain ⟨O2, s2, h2, e, E2, k2⟩ := x; exact ⟨O2, s2, h2, e, E2, k.trans k2⟩
  | bk δ' => obtain ⟨O2, s2, h2, e, E2, k2⟩ := x; exact ⟨O2, s2, h2, e, E2, k.trans k2⟩
  | ct δ' => obtain ⟨O2, s2, h2, e, E2, k2⟩ := x; exact ⟨O2, s2, h2, e, E2, k.trans k2⟩
  | rt p => obtain ⟨w, h2, e, k2, d⟩ := x; exact ⟨w, h2, e, (k.kp E).trans k2, d⟩
  | rx p δ' => obtain ⟨w, O2, s2, h2, e, E2, k2, d⟩ := x; exact ⟨w, O2, s2, h2, e, E2, k.trans k2, d⟩
  | ro xs => obtain ⟨a, us, h2, e, k2, d⟩ := x; exact ⟨a, us, h2, e, (k.kp E).trans k2, d⟩
/-! names are set -/
theorem mem_set_none {O : List (List Nat)} {i a : Nat} (m : Ow (O.set i []) a) : Ow O a := m.set.elim id fun z => by cases z
theorem getD_set_ne {α : Type} {l : List (Option α)} {i j : Nat} {x : Option α} (ne : i ≠ j) : ((l.set i x)[j]?).getD none = (l[j]?).getD none := by rw [List.getElem?_set_ne ne]
theorem getL_set_ne {O : List (List Nat)} {i j : Nat} {x : List Nat} (ne : i ≠ j) : ((O.set i x)[j]?).getD [] = (O[j]?).getD [] := by rw [List.getElem?_set_ne ne]
theorem SlD.weak {T T' : Nat → Prop} {w : Option W} {o : List Nat} {sl : Sl} (x : SlD T h w o sl) (k : ∀ (i : Nat) (u : SO), h[i]? = some u → T' i → T i) : SlD T' h w o sl := x.mv (fun i o t e => ⟨e, fun z => t (k i o e z)⟩) fun _ _ _ e => e
theorem one_set (E : Env n B O s h δ) (i : Nat) {m : List Nat} (hm : ∀ a ∈ m, ¬ Ow O a) : ∀ (j k a : Nat) (l l' : List Nat), (O.set i m)[j]? = some l → (O.set i m)[k]? = some l' → a ∈ l → a ∈ l' → j = k := fun j k a l l' e1 e2 m1 m2 => by
  rw [List.getElem?_set] at e1 e2
  split at e1
  · rename_i hj
    split at e1
    · cases e1
      split at e2
      · rename_i hk; rw [← hj, ← hk]
      · exact absurd (Ow.of e2 m2) (hm a m1)
    · cases e1
  · split at e2
    · split at e2
      · cases e2; exact absurd (Ow.of e1 m1) (hm a m2)
      · cases e2
    · exact E.one j k a l l' e1 e2 m1 m2
theorem Env.set (E : Env n B O s h δ) (i : Nat) {p : P} {w : W} (d : Dn (Tb B O) h p w) : Env n B (O.set i []) (s.set i (some w)) h (δ.set i (.val p)) where
  le := E.le
  old := E.old
  ls := by rw [List.length_set, List.length_set]; exact E.ls
  lo := by rw [List.length_set, List.length_set]; exact E.lo
  one := one_set E i fun _ z => by cases z
  new := fun a m => E.new a (mem_set_none m)
  self := self_set E i fun _ _ z => by cases z
  at_ := fun j sl e => by
    have wk : ∀ (k : Nat) (u : SO), h[k]? = some u → Tb B (O.set i []) k → Tb B O k := fun k _ _ t => t.elim .inl fun m => .inr (mem_set_none m)
    by_cases hj : i = j
    · subst hj
      have hi : i < δ.length := by
        rcases Nat.lt_or_ge i δ.length with z | z
        · exact z
        · rw [List.getElem?_eq_none_iff.mpr (by rw [List.length_set]; exact z)] at e; cases e
      rw [List.getElem?_set_self hi] at e
      cases e
      refine ⟨?_, w, ?_, d.weak fun k t => t.elim .inl fun m => .inr (mem_set_none m)⟩
      · rw [List.getElem?_set_self (by rw [E.lo]; exact hi)]; rfl
      · rw [List.getElem?_set_self (by rw [E.ls]; exact hi)]; rfl
    · rw [List.getElem?_set_ne hj] at e
      rw [getD_set_ne hj, getL_set_ne hj]
      exact (E.at_ j sl e).weak wk
theorem Keep.drop {i : Nat} : Keep O h (O.set i []) h := ⟨Nat.le_refl _, fun j o e m => ⟨e, fun z => m (mem_set_none z)⟩⟩
theorem Env.own (E : Env n B O s h δ) (i : Nat) {a : Nat} {us : List W} {xs : List P} (ge : h.length ≤ a) (g : (h ++ l)[a]? = some (.lst us)) (d : Dns (fun j => Tb B O j ∨ j = a) (h ++ l) xs us) (hi : i < δ.length) :
    Env n B (O.set i [a]) (s.set i (some (.ref a))) (h ++ l) (δ.set i (.own xs)) where
  le := by rw [List.length_append]; have := E.le; omega
  old := E.old
  ls := by rw [List.length_set, List.length_set]; exact E.ls
  lo := by rw [List.length_set, List.length_set]; exact E.lo
  one := one_set E i fun b z t => by rw [List.mem_singleton.mp z] at t; exact absurd (E.new a t).2 (by omega)
  new := fun b m => by
    rcases m.set with z | z
    · exact ⟨(E.new b z).1, by rw [List.length_append]; have := (E.new b z).2; omega⟩
    · rw [List.mem_singleton.mp z]; exact ⟨.inl (Nat.le_trans E.le ge), (List.getElem?_eq_some_iff.mp g).1⟩
  self := self_set E i fun _ _ z => by cases z
  at_ := fun j sl e => by
    have tt : ∀ k, Tb B (O.set i [a]) k → Tb B O k ∨ k = a := fun k t => t.elim (fun z => .inl (.inl z)) fun m => by
      rcases m.set with z | z
      · exact .inl (.inr z)
      · exact .inr (List.mem_singleton.mp z)
    by_cases hj : i = j
    · subst hj
      rw [List.getElem?_set_self hi] at e
      cases e
      refine ⟨a, us, ?_, ?_, g, d.weak fun k t => tt k t⟩
      · rw [List.getElem?_set_self (by rw [E.lo]; exact hi)]; rfl
      · rw [List.getElem?_set_self (by rw [E.ls]; exact hi)]; rfl
    · rw [List.getElem?_set_ne hj] at e
      rw [getD_set_ne hj, getL_set_ne hj]
      exact ((E.at_ j sl e).weak (T' := Tb B (O.set i [a])) (fun k u ek t => by
        rcases tt k t with z | z
        · exact z
        · have := (List.getElem?_eq_some_iff.mp ek).1; omega)).app
theorem Keep.owned {i a : Nat} (ge : h.length ≤ a) : Keep O h (O.set i [a]) (h ++ l) := ⟨by simp, fun j o e m => ⟨app_at e, fun z => by
  rcases z.set with q | q
  · exact m q
  · rw [List.mem_singleton.mp q] at e; have := (List.getElem?_eq_some_iff.mp e).1; omega⟩⟩
def frz (i : Nat) (δ : Dl) : Dl := match δ[i]? with
  | some (.own xs) => δ.set i (.val (.lst xs))
  | _ => δ
theorem name_at {i a : Nat} (w : (s[i]?).getD none = some (.ref a)) : s[i]? = some (some (.ref a)) := by
  cases q2 : s[i]? with
  | none => rw [q2] at w; cases w
  | some z => rw [q2] at w; exact congrArg some w
theorem Env.frz (E : Env n B O s h δ) (i : Nat) : ∃ O', Env n B O' s h (frz i δ) ∧ Keep O h O' h := by
  unfold HL.frz
  split
  · rename_i xs q
    refine ⟨O.set i [], ?_, Keep.drop⟩
    obtain ⟨a, us, o, w, g, d⟩ := E.at_ i _ q
    have hi : i < δ.length := (List.getElem?_eq_some_iff.mp q).1
    have hoa := getD_one o
    have hsw := name_at w
    have nt : ∀ k, Tb B (O.set i []) k → Tb B O k := fun k t => t.elim .inl fun m => .inr (mem_set_none m)
    have na : ¬ Tb B (O.set i []) a := fun t => by
      rcases t with t | t
      · have z1 := E.old a t
        rcases (E.new a (Ow.one hoa)).1 with z | z
        · omega
        · exact z1.2 z
      · obtain ⟨j, l, hj, ml⟩ := t.at_
        rw [List.getElem?_set] at hj
        split at hj
        · split at hj
          · cases hj; cases ml
          · cases hj
        · rename_i ne; exact ne (E.one i j a _ _ hoa hj List.mem_cons_self ml)
    exact {
      le := E.le
      old := E.old
      ls := by rw [List.length_set]; exact E.ls
      lo := by rw [List.length_set, List.length_set]; exact E.lo
      one := one_set E i fun _ z => by cases z
      new := fun b m => E.new b (mem_set_none m)
      self := self_chg E i fun _ _ z => by cases z
      at_ := fun j sl e => by
        by_cases hj : i = j
        · subst hj
          rw [List.getElem?_set_self hi] at e
          cases e
          refine ⟨by rw [List.getElem?_set_self (by rw [E.lo]; exact hi)]; rfl, .ref a, by rw [hsw]; rfl, ?_⟩
          simp only [Dn]
          exact ⟨a, us, rfl, na, g, d.weak nt⟩
        · rw [List.getElem?_set_ne hj] at e
          rw [getL_set_ne hj]
          exact (E.at_ j sl e).weak fun k _ _ t => nt k t }
  · exact ⟨O, E, Keep.refl⟩
def psFrz (i : Nat) (q : PS) : PS := fun δ => q (frz i δ)
/-! statements -/
def psNx : PS := fun δ => .nx δ
theorem s_nx : Ps sNx psNx := fun n B O s h δ E => ⟨O, s, h, rfl, E, Keep.refl⟩
def psBk : PS := fun δ => .bk δ
def psCt : PS := fun δ => .ct δ
def psEr : PS := fun _ => .er
theorem s_er {d : DS} : Ps d psEr := fun n B O s h δ E => trivial
def psSeq (a b : PS) : PS := fun δ => match a δ with
  | .nx δ => b δ
  | r => r
theorem s_seq {a b : DS} {p q : PS} (ha : Ps a p) (hb : Ps b q) : Ps (sSeq a b) (psSeq p q) := fun n B O s h δ E => by
  have x := ha n B O s h δ E
  unfold psSeq sSeq
  cases e : p δ with
  | nx δ' =>
    rw [e] at x
    obtain ⟨O', s', h', e', E', k⟩ := x
    rw [e']
    exact (hb n B O' s' h' δ' E').before k E
  | er => trivial
  | bk δ' => rw [e] at x; obtain ⟨O', s', h', e', E', k⟩ := x; rw [e']; exact ⟨O', s', h', rfl, E', k⟩
  | ct δ' => rw [e] at x; obtain ⟨O', s', h', e', E', k⟩ := x; rw [e']; exact ⟨O', s', h', rfl, E', k⟩
  | rt r => rw [e] at x; obtain ⟨w, h', e', k⟩ := x; rw [e']; exact ⟨w, h', rfl, k⟩
  | rx r δ' => rw [e] at x; obtain ⟨w, O', s', h', e', k⟩ := x; rw [e']; exact ⟨w, O', s', h', rfl, k⟩
  | ro r => rw [e] at x; obtain ⟨a, us, h', e', k⟩ := x; rw [e']; exact ⟨a, us, h', rfl, k⟩
def psSet (i : Nat) (e : PE) : PS := fun δ => match e δ with
  | some p => .nx (δ.set i (.val p))
  | none => .er
theorem s_set {a : DE} {p : PE} (i : Nat) (ha : Pe a p) : Ps (sSet i a) (psSet i p) := fun n B O s h δ E => by
  unfold psSet sSet
  cases e : p δ with
  | none => trivial
  | some r =>
    obtain ⟨w, l, c1, d1⟩ := ha n B O s h δ r E e
    rw [c1]
    exact ⟨_, _, _, rfl, (E.app (l := l)).set i d1, Keep.trans Keep.app Keep.drop⟩
def psOwn (i : Nat) (e : Dl → Option (List P)) : PS := fun δ => match e δ with
  | some xs => if i < δ.length then .nx (δ.set i (.own xs)) else .er
  | none => .er
theorem s_own {a : DE} {p : Dl → Option (List P)} (i : Nat) (ha : Po a p) : Ps (sSet i a) (psOwn i p) := fun n B O s h δ E => by
  unfold psOwn sSet
  cases e : p δ with
  | none => trivial
  | some r =>
    obtain ⟨b, l, us, c1, ge, g, d1⟩ := ha n B O s h δ r E e
    rw [c1]
    by_cases hi : i < δ.length
    · simp only [if_pos hi]
      exact ⟨_, _, _, rfl, E.own i ge g d1 hi, Keep.owned ge⟩
    · simp only [if_neg hi]
      trivial
def psRet (e : PE) : PS := fun δ => match e δ with
  | some p => .rt p
  | none => .er
theorem s_ret {a : DE} {p : PE} (ha : Pe a p) : Ps (sRet a) (psRet p) := fun n B O s h δ E => by
  unfold psRet sRet
  cases e : p δ with
  | none => trivial
  | some r =>
    obtain ⟨w, l, c1, d1⟩ := ha n B O s h δ r E e
    rw [c1]
    exact ⟨w, h ++ l, rfl, Keep.app.kp E, d1.weak fun i t => .inl t⟩
def psRetO (e : Dl → Option (List P)) : PS := fun δ => match e δ with
  | some p => .ro p
  | none => .er
def psRetV (i : Nat) : PS := fun δ => match δ[i]? with
  | some (.own xs) => .ro xs
  | some (.val p) => .rt p
  | _ => .er
theorem s_retV (i : Nat) : Ps (sRet (dVar i)) (psRetV i) := fun n B O s h δ E => by
  unfold psRetV
  split
  · rename_i xs q
    obtain ⟨a, us, o, w, g, d⟩ := E.at_ i _ q
    have hoa := getD_one o
    have hsw := name_at w
    have m := Ow.one hoa
    refine ⟨a, us, h, by unfold sRet dVar; rw [hsw], Keep.refl.kp E, (E.new a m).1, g, d.weak fun k t => t.elim .inl fun z => ?_⟩
    subst z; exact .inr m
  · rename_i p q
    have := s_ret (e_var i) n B O s h δ E
    unfold psRet pVar at this
    rw [q] at this
    exact this
  · trivial
def psRetN : PS := fun _ => .rt .non
def psDrop (e : PE) : PS := fun δ => match e δ with
  | some _ => .nx δ
  | none => .er
def psIf (c : PT) (a b : PS) : PS := fun δ => match c δ with
  | some k => if k = true then a δ else b δ
  | none => .er
theorem s_if {c : DT} {a b : DS} {pc : PT} {p q : PS} (hc : Pt c pc) (ha : Ps a p) (hb : Ps b q) : Ps (sIf c a b) (psIf pc p q) := fun n B O s h δ E => by
  unfold psIf sIf
  cases e : pc δ with
  | none => trivial
  | some k =>
    obtain ⟨l, c1⟩ := hc n B O s h δ k E e
    rw [c1]
    cases k with
    | true => exact (ha n B O s (h ++ l) δ E.app).before Keep.app E
    | false => exact (hb n B O s (h ++ l) δ E.app).before Keep.app E
end
end HL


set_option Elab.async false
set_option linter.all false
set_option maxRecDepth 100000
set_option maxHeartbeats 4000000
namespace HL
open PySem (Str)
section
variable {n : Lo} {B : Nat → Prop} {O O' O2 : List (List Nat)} {s : Sg} {h h' h2 l : Sh} {δ : Dl}
/-! a name's own list is changed -/
theorem Env.at_own (E : Env n B O s h δ) {i : Nat} {xs : List P} (q : δ[i]? = some (.own xs)) : ∃ a us, O[i]? = some [a] ∧ s[i]? = some (some (.ref a)) ∧ h[a]? = some (.lst us) ∧ Dns (Tb B O) h xs us ∧ Ow O a := by
  obtain ⟨a, us, o, w, g, d⟩ := E.at_ i _ q
  have hoa := getD_one o
  exact ⟨a, us, hoa, name_at w, g, d, Ow.one hoa⟩
theorem set_other {a : Nat} {o u : SO} {k : Nat} (e : h[k]? = some u) (ne : a ≠ k) : (h.set a o)[k]? = some u := by rw [List.getElem?_set_ne ne]; exact e
theorem Env.chg (E : Env n B O s h δ) {i a : Nat} {xs ys : List P} {us : List W} (q : δ[i]? = some (.own xs)) (hoa : O[i]? = some [a]) (hsw : s[i]? = some (some (.ref a))) (d : Dns (Tb B O) h ys us) : Env n B O s (h.set a (.lst us)) (δ.set i (.own ys)) := by
  have m := Ow.one hoa
  have hi : i < δ.length := (List.getElem?_eq_some_iff.mp q).1
  have mv : ∀ (k : Nat) (o : SO), ¬ Tb B O k → h[k]? = some o → (h.set a (.lst us))[k]? = some o ∧ ¬ Tb B O k := fun k o t e => ⟨set_other e (fun z => t (.inr (z ▸ m))), t⟩
  exact {
    le := by rw [List.length_set]; exact E.le
    old := E.old
    ls := by rw [List.length_set]; exact E.ls
    lo := by rw [List.length_set]; exact E.lo
    one := E.one
    new := fun b mb => by rw [List.length_set]; exact E.new b mb
    self := self_chg E i fun _ _ z => by cases z
    at_ := fun j sl e => by
      by_cases hj : i = j
      · subst hj
        rw [List.getElem?_set_self hi] at e
        cases e
        exact ⟨a, us, by rw [hoa]; rfl, by rw [hsw]; rfl, List.getElem?_set_self (E.new a m).2, Dns.mono mv ys us d⟩
      · rw [List.getElem?_set_ne hj] at e
        refine (E.at_ j sl e).mv mv fun b mb u eb => set_other eb fun z => hj ?_
        subst z
        cases q2 : O[j]? with
        | none => rw [q2] at mb; cases mb
        | some y => rw [q2] at mb; exact E.one i j a _ _ hoa q2 List.mem_cons_self mb }
theorem Keep.chg {a : Nat} {o : SO} (m : Ow O a) : Keep O h O (h.set a o) := ⟨by simp, fun k u e nm => ⟨set_other e (fun z => nm (z ▸ m)), nm⟩⟩
def psSub (i : Nat) (k e : PE) : PS := fun δ => match δ[i]?, e δ, k δ with
  | some (.own xs), some v, some (.int j) => (match ixW xs.length j with
    | some m => .nx (δ.set i (.own (xs.set m v)))
    | none => .er)
  | _, _, _ => .er
theorem s_sub {i : Nat} {k e : DE} {pk pe : PE} (hk : Pe k pk) (he : Pe e pe) : Ps (sSub (dVar i) k e) (psSub i pk pe) := fun n B O s h δ E => by
  unfold psSub
  split
  · rename_i xs v j q ev ek
    split
    · rename_i m em
      obtain ⟨w, l, c1, d1⟩ := he n B O s h δ v E ev
      have E1 : Env n B O s (h ++ l) δ := E.app
      obtain ⟨u, l2, c2, d2⟩ := hk n B O s (h ++ l) δ _ E1 ek
      have E2 : Env n B O s (h ++ l ++ l2) δ := E1.app
      simp only [Dn] at d2
      subst d2
      obtain ⟨a, us, hoa, hsw, g, d, ma⟩ := E2.at_own q
      refine ⟨O, s, (h ++ l ++ l2).set a (.lst (us.set m w)), ?_, E2.chg q hoa hsw (Dns.set d1.app m d), ?_⟩
      · unfold sSub
        rw [c1]
        simp only [R.bind, dVar, hsw]
        rw [c2]
        simp only [g, d.length, em]
      · exact (Keep.app.trans Keep.app).trans (Keep.chg ma)
    · trivial
  · trivial
def psApp (i : Nat) (e : PE) : PS := fun δ => match δ[i]?, e δ with
  | some (.own xs), some v => if xs.length < LIM then .nx (δ.set i (.own (xs ++ [v]))) else .er
  | _, _ => .er
/-! targets -/
abbrev PG := P → Dl → Option Dl
def Pg (g : DG) (p : PG) : Prop := ∀ n B O s h δ x w δ', Env n B O s h δ → Dn (Tb B O) h x w → p x δ = some δ' → ∃ O' s', g w s h = some s' ∧ Env n B O' s' h δ' ∧ Keep O h O' h
def pgName (i : Nat) : PG := fun x δ => some (δ.set i (.val x))
theorem g_name (i : Nat) : Pg (gName i) (pgName i) := fun n B O s h δ x w δ' E d e => by
  cases e
  exact ⟨_, _, rfl, E.set i d, Keep.drop⟩
def setAllP : List Nat → List P → Dl → Dl
  | i :: is, v :: vs, δ => setAllP is vs (δ.set i (.val v))
  | _, _, δ => δ
def pgTup (is : List Nat) : PG := fun x δ => match x with
  | .tup xs => if xs.length = is.length then some (setAllP is xs δ) else none
  | _ => none
def psSetG (g : PG) (e : PE) : PS := fun δ => match (e δ).bind fun v => g v δ with
  | some δ => .nx δ
  | none => .er
/-! loops -/
abbrev PI := Dl → Option (List P)
def ItD (B : Nat → Prop) (O : List (List Nat)) (h : Sh) (t : It) (xs : List P) : Prop := Dns (Tb B O) h xs t.items ∧ t.stays h ∧ ∀ O' h', Keep O h O' h' → t.stays h'
def Pi (d : DI) (p : PI) : Prop := ∀ n B O s h δ r, Env n B O s h δ → p δ = some r → ∃ t l, d s h = .ok t (h ++ l) ∧ ItD B O (h ++ l) t r
def piSeq (a : PE) : PI := fun δ => (a δ).bind seqP
theorem i_seq {a : DE} {p : PE} (ha : Pe a p) : Pi (iSeq a) (piSeq p) := fun n B O s h δ r E e => by
  unfold piSeq at e
  cases e1 : p δ with
  | none => rw [e1] at e; cases e
  | some x =>
    rw [e1] at e
    have e : seqP x = some r := e
    obtain ⟨w, l, c1, d1⟩ := ha n B O s h δ x E e1
    have nm : ∀ i, ¬ Tb B O i → ¬ Ow O i := fun i t m => t (.inr m)
    cases x with
    | lst xs =>
      cases e
      simp only [Dn] at d1
      obtain ⟨i, us, rfl, t, g, ds⟩ := d1
      refine ⟨.lst i us, l, by unfold iSeq; rw [c1]; simp only [R.bind, lstW, g], ds, by show lstW _ _ = _; simp only [lstW, g], fun O' h' k => ?_⟩
      show lstW _ _ = _
      simp only [lstW, (k.at_ i _ g (nm i t)).1]
    | rol xs =>
      cases e
      simp only [Dn] at d1
      obtain ⟨i, us, rfl, t, g, ds⟩ := d1
      refine ⟨.lst i us, l, by unfold iSeq; rw [c1]; simp only [R.bind, lstW, g], ds, by show lstW _ _ = _; simp only [lstW, g], fun O' h' k => ?_⟩
      show lstW _ _ = _
      simp only [lstW, (k.at_ i _ g (nm i t)).1]
    | tup xs =>
      cases e
      simp only [Dn] at d1
      obtain ⟨i, us, rfl, t, g, ds⟩ := d1
      refine ⟨.tup i us, l, by unfold iSeq; rw [c1]; simp only [R.bind, lstW, tupW, g], ds, by show tupW _ _ = _; simp only [tupW, g], fun O' h' k => ?_⟩
      show tupW _ _ = _
      simp only [tupW, (k.at_ i _ g (nm i t)).1]
    | _ => cases e
def rangeP (lo : Int) (m : Nat) : List P := (List.range m).map fun (k : Nat) => .int (lo + (k : Int))
theorem dns_ints {T : Nat → Prop} : ∀ (l : List Nat) (lo : Int), Dns T h (l.map fun (k : Nat) => .int (lo + (k : Int))) (l.map fun (k : Nat) => .int (lo + (k : Int)))
  | [], lo => by simp only [List.map_nil, Dns]
  | k :: l, lo => by simp only [List.map_cons, Dns]; exact ⟨_, _, rfl, by simp only [Dn], dns_ints l lo⟩
def piRange1 (a : PE) : PI := fun δ => match a δ with
  | some (.int j) => if -(2 ^ 62) ≤ j ∧ j < 2 ^ 62 then some (rangeP 0 j.toNat) else none
  | _ => none
theorem i_range1 {a : DE} {p : PE} (ha : Pe a p) : Pi (iRange1 a) (piRange1 p) := fun n B O s h δ r E e => by
  unfold piRange1 at e
  split at e
  · rename_i j e1
    split at e
    · rename_i hj
      cases e
      obtain ⟨w, l, c1, d1⟩ := ha n B O s h δ _ E e1
      simp only [Dn] at d1
      subst d1
      exact ⟨.fix (rangeW 0 j.toNat), l, by unfold iRange1; rw [c1]; simp only [R.bind]; rw [if_pos hj], dns_ints _ _, trivial, fun _ _ _ => trivial⟩
    · cases e
  · cases e
def piRange2 (a b : PE) : PI := fun δ => match a δ, b δ with
  | some (.int i), some (.int j) => if -(2 ^ 62) ≤ i ∧ i < 2 ^ 62 ∧ -(2 ^ 62) ≤ j ∧ j < 2 ^ 62 then some (rangeP i (j - i).toNat) else none
  | _, _ => none
def forP (g : PG) (b : PS) : List P → PS
  | [], δ => .nx δ
  | x :: xs, δ => match g x δ with
    | none => .er
    | some δ1 => match b δ1 with
      | .nx δ2 => forP g b xs δ2
      | .ct δ2 => forP g b xs δ2
      | .bk δ2 => .nx δ2
      | r => r
def psFor (i : PI) (g : PG) (b : PS) : PS := fun δ => match i δ with
  | some xs => forP g b xs δ
  | none => .er
theorem for_p {g : DG} {b : DS} {pg : PG} {pb : PS} {t : It} (hg : Pg g pg) (hb : Ps b pb) : ∀ (xs : List P) (us : List W) (O : List (List Nat)) (s : Sg) (h : Sh) (δ : Dl), Env n B O s h δ → Dns (Tb B O) h xs us → (∀ O' h', Keep O h O' h' → t.stays h') → EndD n B O h (forW t g b us s h) (forP pg pb xs δ)
  | [], us, O, s, h, δ, E, d, st => by
    simp only [Dns] at d
    rw [d]
    exact ⟨O, s, h, rfl, E, Keep.refl⟩
  | x :: xs, us, O, s, h, δ, E, d, st => by
    simp only [Dns] at d
    obtain ⟨u, r, rfl, d1, d2⟩ := d
    unfold forP forW
    cases e1 : pg x δ with
    | none => trivial
    | some δ1 =>
      obtain ⟨O1, s1, c1, E1, k1⟩ := hg n B O s h δ x u δ1 E d1 e1
      rw [c1]
      simp only
      have y := hb n B O1 s1 h δ1 E1
      cases e2 : pb δ1 with
      | er => trivial
      | nx δ2 =>
        rw [e2] at y
        obtain ⟨O2, s2, h2, c2, E2, k2⟩ := y
        rw [c2]
        have kk := k1.trans k2
        simp only [st O2 h2 kk, if_true]
        exact (for_p hg hb xs r O2 s2 h2 δ2 E2 (kk.dns d2) fun O' h' k => st O' h' (kk.trans k)).before kk E
      | ct δ2 =>
        rw [e2] at y
        obtain ⟨O2, s2, h2, c2, E2, k2⟩ := y
        rw [c2]
        have kk := k1.trans k2
        simp only [st O2 h2 kk, if_true]
        exact (for_p hg hb xs r O2 s2 h2 δ2 E2 (kk.dns d2) fun O' h' k => st O' h' (kk.trans k)).before kk E
      | bk δ2 =>
        rw [e2] at y
        obtain ⟨O2, s2, h2, c2, E2, k2⟩ := y
        rw [c2]
        exact ⟨O2, s2, h2, rfl, E2, k1.trans k2⟩
      | rt p =>
        rw [e2] at y
        obtain ⟨w, h2, c2, k2, dd⟩ := y
        rw [c2]
        exact ⟨w, h2, rfl, (k1.kp E).trans k2, dd⟩
      | rx p δ2 =>
        rw [e2] at y
        obtain ⟨w, O2, s2, h2, c2, E2, k2, dd⟩ := y
        rw [c2]
        exact ⟨w, O2, s2, h2, rfl, E2, k1.trans k2, dd⟩
      | ro p =>
        rw [e2] at y
        obtain ⟨a, vs, h2, c2, k2, dd⟩ := y
        rw [c2]
        exact ⟨a, vs, h2, rfl, (k1.kp E).trans k2, dd⟩
theorem s_for {i : DI} {g : DG} {b : DS} {pi : PI} {pg : PG} {pb : PS} (hi : Pi i pi) (hg : Pg g pg) (hb : Ps b pb) : Ps (sFor i g b) (psFor pi pg pb) := fun n B O s h δ E => by
  unfold psFor sFor
  cases e : pi δ with
  | none => trivial
  | some xs =>
    obtain ⟨t, l, c1, d, _, st⟩ := hi n B O s h δ xs E e
    rw [c1]
    exact (for_p hg hb xs t.items O s (h ++ l) δ E.app d st).before Keep.app E
/-! defs -/
def startP (m : Nat) (ps : List P) : Dl := ps.map .val ++ List.replicate (m - ps.length) .no
def pfOf (p m : Nat) (b : PS) : PF := fun ps => if ps.length = p then (match b (startP m ps) with
  | .nx _ => some (.v .non)
  | .rt r => some (.v r)
  | .ro xs => some (.o xs)
  | _ => none) else none
theorem env_start {T : Nat → Prop} {m : Nat} {ps : List P} {ws : List W} (lt : ∀ i, T i → i < h.length) (d : Dns T h ps ws) : Env ⟨h.length, fun _ => False, none⟩ T (List.replicate (startP m ps).length []) (start m ws) h (startP m ps) where
  le := Nat.le_refl _
  old := fun i t => ⟨lt i t, fun z => z⟩
  ls := by unfold start startP; simp [d.length]
  lo := by simp
  one := fun i j a l m e _ z _ => (Ow.none (Ow.of e z)).elim
  new := fun a m => m.none.elim
  self := fun _ _ _ _ z => by cases z
  at_ := fun i sl e => by
    have tb : ∀ k, Tb T (List.replicate (startP m ps).length []) k → T k := fun k t => t.elim id fun z => z.none.elim
    have on : ((List.replicate (startP m ps).length ([] : List Nat))[i]?).getD [] = [] := by
      rw [List.getElem?_replicate]; split <;> rfl
    rw [on]
    unfold startP at e
    by_cases hi : i < ps.length
    · rw [List.getElem?_append_left (by simpa using hi), List.getElem?_map, List.getElem?_eq_getElem hi] at e
      cases e
      obtain ⟨u, hu, du⟩ := d.get (List.getElem?_eq_getElem hi)
      refine ⟨rfl, u, ?_, du.weak tb⟩
      unfold start
      rw [List.getElem?_append_left (by rw [List.length_map, d.length]; exact hi), List.getElem?_map, hu]
      rfl
    · rw [List.getElem?_append_right (by simpa using hi), List.getElem?_replicate] at e
      split at e
      · cases e; rfl
      · cases e
theorem kp_app {h h' : Sh} (k : Kp ⟨h.length, fun _ => False, none⟩ h h') : ∃ l, h' = h ++ l := by
  refine ⟨h'.drop h.length, List.ext_getElem? fun i => ?_⟩
  by_cases hi : i < h.length
  · rw [List.getElem?_append_left hi]
    exact (k.2 i _ hi (fun z => z) (List.getElem?_eq_getElem hi)).trans (List.getElem?_eq_getElem hi).symm
  · rw [List.getElem?_append_right (by omega), List.getElem?_drop]
    congr 1; omega
theorem f_of {b : DS} {pb : PS} {p m : Nat} (hb : Ps b pb) : Pf (fnOf p m b) (pfOf p m pb) := fun T h ws ps r lt d e => by
  unfold pfOf at e
  split at e
  · rename_i hp
    have y := hb ⟨h.length, fun _ => False, none⟩ T _ (start m ws) h (startP m ps) (env_start (m := m) lt d)
    unfold fnOf
    rw [if_pos (d.length.trans hp)]
    cases e1 : pb (startP m ps) with
    | nx δ' =>
      rw [e1] at e y
      cases e
      obtain ⟨O', s', h', c, E', k⟩ := y
      rw [c]
      obtain ⟨l, rfl⟩ := kp_app (k.kp (env_start (m := m) lt d))
      exact ⟨.non, l, rfl, by simp only [ResD, Dn]⟩
    | rt q =>
      rw [e1] at e y
      cases e
      obtain ⟨w, h', c, k, dd⟩ := y
      rw [c]
      obtain ⟨l, rfl⟩ := kp_app k
      exact ⟨w, l, rfl, dd⟩
    | ro xs =>
      rw [e1] at e y
      cases e
      obtain ⟨a, us, h', c, k, ge, g, dd⟩ := y
      rw [c]
      obtain ⟨l, rfl⟩ := kp_app k
      exact ⟨.ref a, l, rfl, a, us, rfl, ge.elim id fun z => z.elim, g, dd⟩
    | er => rw [e1] at e; cases e
    | bk => rw [e1] at e; cases e
    | ct => rw [e1] at e; cases e
    | rx => rw [e1] at e; cases e
  · cases e
end
end HL


set_option Elab.async false
set_option linter.all false
set_option maxRecDepth 100000
set_option maxHeartbeats 4000000
namespace HL
open PySem (Str)
section
variable {n : Lo} {B : Nat → Prop} {O O' : List (List Nat)} {s : Sg} {h h' h2 l : Sh} {δ : Dl}
/-! comprehensions -/
def capP (m : Nat) (js : List Nat) (δ : Dl) : Dl := List.replicate m .no ++ js.map fun j => match δ[j]? with
  | some (.val p) => .val p
  | _ => .no
def compP (g : PG) (c : PT) (e : PE) : List P → Dl → List P → Option (List P)
  | [], _, acc => some acc
  | x :: xs, δ, acc => match g x δ with
    | none => none
    | some δ1 => (c δ1).bind fun k => if k = true then (e δ1).bind fun v => if acc.length < LIM then compP g c e xs δ1 (acc ++ [v]) else none else compP g c e xs δ1 acc
def pComp (i : PI) (m : Nat) (js : List Nat) (g : PG) (c : PT) (e : PE) : Dl → Option (List P) := fun δ => (i δ).bind fun xs => compP g c e xs (capP m js δ) []
theorem Env.setB (E : Env n B O s h δ) {a : Nat} {o : SO} (b : B a) : Env n B O s (h.set a o) δ := by
  have mv : ∀ (k : Nat) (u : SO), ¬ Tb B O k → h[k]? = some u → (h.set a o)[k]? = some u ∧ ¬ Tb B O k := fun k u t e => ⟨set_other e (fun z => t (.inl (z ▸ b))), t⟩
  exact {
    le := by rw [List.length_set]; exact E.le
    old := E.old
    ls := E.ls
    lo := E.lo
    one := E.one
    new := fun b mb => by rw [List.length_set]; exact E.new b mb
    self := E.self
    at_ := fun j sl e => by
      refine (E.at_ j sl e).mv mv fun c mc u ec => set_other ec fun z => ?_
      subst z
      cases q2 : O[j]? with
      | none => rw [q2] at mc; cases mc
      | some y =>
        rw [q2] at mc
        have z1 := E.old a b
        rcases (E.new a (Ow.of q2 mc)).1 with z | z
        · omega
        · exact z1.2 z }
theorem Dns.setB {T : Nat → Prop} {a : Nat} {o : SO} {ps : List P} {us : List W} (t : T a) (x : Dns T h ps us) : Dns T (h.set a o) ps us := Dns.mono (fun k u tk e => ⟨set_other e (fun z => tk (z ▸ t)), tk⟩) ps us x
theorem comp_p {g : DG} {c : DT} {e : DE} {pg : PG} {pc : PT} {pe : PE} {t : It} {A : Nat} (hg : Pg g pg) (hc : Pt c pc) (he : Pe e pe) (bA : B A) :
    ∀ (xs : List P) (us : List W) (O : List (List Nat)) (s : Sg) (h : Sh) (δ : Dl) (acc : List P) (vs : List W) (r : List P), Env n B O s h δ → Dns (Tb B O) h xs us → h[A]? = some (.lst vs) → Dns (Tb B O) h acc vs →
      (∀ h', (∀ (i : Nat) (o : SO), i ≠ A → i < n.at_ → h[i]? = some o → h'[i]? = some o) → t.stays h') → compP pg pc pe xs δ acc = some r →
      ∃ vs' h', compW t g c e A us s h = .ok (.ref A) h' ∧ h'[A]? = some (.lst vs') ∧ Dns B h' r vs' ∧ (∀ (i : Nat) (o : SO), i ≠ A → i < n.at_ → h[i]? = some o → h'[i]? = some o) ∧ h.length ≤ h'.length
  | [], us, O, s, h, δ, acc, vs, r, E, d, gA, da, st, eq => by
    simp only [Dns] at d
    cases eq
    rw [d]
    exact ⟨vs, h, rfl, gA, da.weak fun i t => .inl t, fun _ _ _ _ e => e, Nat.le_refl _⟩
  | x :: xs, us, O, s, h, δ, acc, vs, r, E, d, gA, da, st, eq => by
    simp only [Dns] at d
    obtain ⟨u, us, rfl, d1, d2⟩ := d
    unfold compP at eq
    unfold compW
    cases e1 : pg x δ with
    | none => rw [e1] at eq; cases eq
    | some δ1 =>
      rw [e1] at eq
      simp only at eq
      obtain ⟨O1, s1, c1, E1, k1⟩ := hg n B O s h δ x u δ1 E d1 e1
      rw [c1]
      simp only
      cases e2 : pc δ1 with
      | none => rw [e2] at eq; cases eq
      | some k =>
        rw [e2] at eq
        simp only [Option.bind_some] at eq
        obtain ⟨l1, c2⟩ := hc n B O1 s1 h δ1 k E1 e2
        rw [c2]
        simp only [R.bind]
        have E2 : Env n B O1 s1 (h ++ l1) δ1 := E1.app
        have d2' : Dns (Tb B O1) (h ++ l1) xs us := (k1.dns d2).app
        have da' : Dns (Tb B O1) (h ++ l1) acc vs := (k1.dns da).app
        have gA' : (h ++ l1)[A]? = some (.lst vs) := app_at gA
        have pr : ∀ (i : Nat) (o : SO), i ≠ A → i < n.at_ → h[i]? = some o → (h ++ l1)[i]? = some o := fun i o _ _ e => app_at e
        cases k with
        | false =>
          simp only [Bool.false_eq_true, if_false] at eq ⊢
          rw [if_pos (st _ pr)]
          obtain ⟨vs', h', z1, z2, z3, z4, z5⟩ := comp_p hg hc he bA xs us O1 s1 (h ++ l1) δ1 acc vs r E2 d2' gA' da' (fun h' q => st h' fun i o a b e => q i o a b (pr i o a b e)) eq
          exact ⟨vs', h', z1, z2, z3, fun i o a b e => z4 i o a b (pr i o a b e), by rw [List.length_append] at z5; omega⟩
        | true =>
          simp only [if_true] at eq ⊢
          cases e3 : pe δ1 with
          | none => rw [e3] at eq; cases eq
          | some v =>
            rw [e3] at eq
            simp only [Option.bind_some] at eq
            split at eq
            · rename_i hl
              obtain ⟨w, l2, c3, d3⟩ := he n B O1 s1 (h ++ l1) δ1 v E2 e3
              rw [c3]
              have gA2 : (h ++ l1 ++ l2)[A]? = some (.lst vs) := app_at gA'
              have pr2 : ∀ (i : Nat) (o : SO), i ≠ A → i < n.at_ → h[i]? = some o → (h ++ l1 ++ l2)[i]? = some o := fun i o a b e => app_at (app_at e)
              have pr3 : ∀ (i : Nat) (o : SO), i ≠ A → i < n.at_ → h[i]? = some o → ((h ++ l1 ++ l2).set A (.lst (vs ++ [w])))[i]? = some o := fun i o a b e => set_other (pr2 i o a b e) (fun z => a z.symm)
              simp only [gA2]
              rw [if_pos ⟨by rw [da.length]; exact hl, st _ pr2, (List.getElem?_eq_some_iff.mp gA2).1⟩]
              have tA : Tb B O1 A := .inl bA
              obtain ⟨vs', h', z1, z2, z3, z4, z5⟩ := comp_p hg hc he bA xs us O1 s1 _ δ1 (acc ++ [v]) (vs ++ [w]) r (E2.app (l := l2) |>.setB (a := A) (o := .lst (vs ++ [w])) bA) (d2'.app.setB tA)
                (List.getElem?_set_self (List.getElem?_eq_some_iff.mp gA2).1) ((da'.app.append (Dns.one d3)).setB tA) (fun h' q => st h' fun i o a b e => q i o a b (pr3 i o a b e)) eq
              exact ⟨vs', h', z1, z2, z3, fun i o a b e => z4 i o a b (pr3 i o a b e), by rw [List.length_set, List.length_append, List.length_append] at z5; omega⟩
            · cases eq
theorem env_cap (E : Env n B O s h δ) {B' : Nat → Prop} {m : Nat} {js : List Nat} (hB : ∀ i, B' i → i < h'.length) (mv : ∀ (i : Nat) (o : SO), ¬ Tb B O i → h[i]? = some o → h'[i]? = some o ∧ ¬ B' i) :
    Env ⟨h'.length, fun _ => False, none⟩ B' (List.replicate (capP m js δ).length []) (capS m js s) h' (capP m js δ) where
  le := Nat.le_refl _
  old := fun i t => ⟨hB i t, fun z => z⟩
  ls := by unfold capS capP; simp
  lo := by simp
  one := fun i j a l m e _ z _ => (Ow.none (Ow.of e z)).elim
  new := fun a m => m.none.elim
  self := fun _ _ _ _ z => by cases z
  at_ := fun i sl e => by
    have tb : ∀ k, Tb B' (List.replicate (capP m js δ).length []) k → B' k := fun k t => t.elim id fun z => z.none.elim
    have on : ((List.replicate (capP m js δ).length ([] : List Nat))[i]?).getD [] = [] := by
      rw [List.getElem?_replicate]; split <;> rfl
    rw [on]
    unfold capP at e
    by_cases hi : i < m
    · rw [List.getElem?_append_left (by simpa using hi), List.getElem?_replicate, if_pos hi] at e
      cases e; rfl
    · rw [List.getElem?_append_right (by simpa using hi), List.length_replicate, List.getElem?_map] at e
      unfold capS
      rw [List.getElem?_append_right (by simpa using hi), List.length_replicate, List.getElem?_map]
      cases q : js[i - m]? with
      | none => rw [q] at e; cases e
      | some j =>
        rw [q] at e
        simp only [Option.map_some] at e ⊢
        cases q2 : δ[j]? with
        | none => rw [q2] at e; cases e; rfl
        | some z =>
          rw [q2] at e
          cases z with
          | val p =>
            cases e
            obtain ⟨_, u, a, b⟩ := E.at_ j _ q2
            exact ⟨rfl, u, a, Dn.mono (fun k o t e => ⟨(mv k o t e).1, fun z => (mv k o t e).2 (tb k z)⟩) p u b⟩
          | no => cases e; rfl
          | own xs => cases e; rfl
          | obj c fs => cases e; rfl
theorem o_comp {i : DI} {g : DG} {c : DT} {e : DE} {pi : PI} {pg : PG} {pc : PT} {pe : PE} {m : Nat} {js : List Nat} (hi : Pi i pi) (hg : Pg g pg) (hc : Pt c pc) (he : Pe e pe) : Po (dComp i m js g c e) (pComp pi m js pg pc pe) := fun n B O s h δ r E eq => by
  unfold pComp at eq
  cases e1 : pi δ with
  | none => rw [e1] at eq; cases eq
  | some xs =>
    rw [e1] at eq
    simp only [Option.bind_some] at eq
    obtain ⟨t, l, c1, d, st0, st⟩ := hi n B O s h δ xs E e1
    have E1 : Env n B O s (h ++ l) δ := E.app
    have tl : ∀ i, Tb B O i → i < (h ++ l).length := fun i t => Tb.lt E1 t
    have hlen : ((h ++ l) ++ [SO.lst []]).length = (h ++ l).length + 1 := by rw [List.length_append]; rfl
    have mv : ∀ (k : Nat) (o : SO), ¬ Tb B O k → (h ++ l)[k]? = some o → ((h ++ l) ++ [SO.lst []])[k]? = some o ∧ ¬ (Tb B O k ∨ k = (h ++ l).length) := fun k o t e => ⟨app_at e, fun z => by
      rcases z with z | z
      · exact t z
      · have := (List.getElem?_eq_some_iff.mp e).1; omega⟩
    have E2 := env_cap E1 (B' := fun i => Tb B O i ∨ i = (h ++ l).length) (m := m) (js := js) (h' := (h ++ l) ++ [SO.lst []]) (fun i z => by
      rw [hlen]
      rcases z with z | z
      · have := tl i z; omega
      · omega) mv
    have dd : Dns (Tb (fun i => Tb B O i ∨ i = (h ++ l).length) (List.replicate (capP m js δ).length [])) ((h ++ l) ++ [SO.lst []]) xs t.items := Dns.mono (fun k o t e => ⟨(mv k o t e).1, fun z => (mv k o t e).2 (z.elim id fun y => y.none.elim)⟩) xs _ d
    obtain ⟨vs', h', z1, z2, z3, z4, z5⟩ := comp_p (t := t) (A := (h ++ l).length) hg hc he (.inr rfl) xs t.items _ _ _ _ [] [] r E2 dd (by simp) (by simp only [Dns]) (fun h' q => st O h' ⟨by
        have : ∀ i < (h ++ l).length, i < h'.length := fun i hi => by
          have := q i _ (by omega) (by show i < ((h ++ l) ++ [SO.lst []]).length; rw [hlen]; omega) (app_at (List.getElem?_eq_getElem hi))
          exact (List.getElem?_eq_some_iff.mp this).1
        rcases Nat.eq_zero_or_pos (h ++ l).length with z | z
        · omega
        · have := this ((h ++ l).length - 1) (by omega); omega, fun i o e nm => ⟨q i o (by have := (List.getElem?_eq_some_iff.mp e).1; omega) (by show i < ((h ++ l) ++ [SO.lst []]).length; rw [hlen]; have := (List.getElem?_eq_some_iff.mp e).1; omega) (app_at e), nm⟩⟩) eq
    have kp : Kp ⟨h.length, fun _ => False, none⟩ h h' := ⟨by show h.length ≤ _; rw [hlen, List.length_append] at z5; omega, fun i o hi _ e => z4 i o (by rw [List.length_append]; have hi : i < h.length := hi; omega) (by show i < ((h ++ l) ++ [SO.lst []]).length; rw [hlen, List.length_append]; have hi : i < h.length := hi; omega) (app_at (app_at e))⟩
    obtain ⟨l', rfl⟩ := kp_app kp
    refine ⟨(h ++ l).length, l', vs', ?_, by rw [List.length_append]; omega, z2, z3⟩
    unfold dComp
    rw [c1]
    exact z1
/-! other new lists -/
def OrN (T : Nat → Prop) (h : Sh) (xs : List P) : OR → Prop
  | .new (.lst us) => Dns T h xs us
  | _ => False
theorem fin_n {T : Nat → Prop} {o : OR} {r : List P} (x : OrN T h r o) : ∃ a l us, o.fin h = .ok (.ref a) (h ++ l) ∧ h.length ≤ a ∧ (h ++ l)[a]? = some (.lst us) ∧ Dns (fun i => T i ∨ i = a) (h ++ l) r us := by
  cases o with
  | new o =>
    cases o with
    | lst us =>
      refine ⟨h.length, [.lst us], us, rfl, Nat.le_refl _, by simp, Dns.mono (fun i o t e => ⟨app_at e, fun z => ?_⟩) r us x⟩
      rcases z with z | z
      · exact t z
      · have := (List.getElem?_eq_some_iff.mp e).1; omega
    | _ => exact x.elim
  | _ => exact x.elim
theorem o_b {f : List W → Sh → OR} {g : List P → Option (List P)} {a : DA} {p : PA} (k : ∀ T h ps ws r, DnsB T h ps ws → g ps = some r → OrN T h r (f ws h)) (ha : Pab a p) : Po (dB f a) (pO g p) := fun n B O s h δ r E e => by
  unfold pO at e
  cases e1 : p δ with
  | none => rw [e1] at e; cases e
  | some x =>
    rw [e1] at e
    obtain ⟨w, l, c1, d1⟩ := ha n B O s h δ x E e1
    obtain ⟨b, l3, us, c3, ge, g3, d3⟩ := fin_n (k _ _ _ _ _ d1 e)
    refine ⟨b, l ++ l3, us, ?_, by rw [List.length_append] at ge; omega, by rw [← List.append_assoc]; exact g3, by rw [← List.append_assoc]; exact d3⟩
    unfold dB
    rw [c1]
    simp only [R.bind]
    rw [c3, List.append_assoc]
def oList : List P → Option (List P)
  | [p] => seqP p
  | _ => none
theorem o_list {a : DA} {p : PA} (ha : Pab a p) : Po (dB bList a) (pO oList p) := o_b (fun T h ps ws r x e => by
  unfold oList at e
  split at e
  · obtain ⟨u, rfl, d⟩ := x.one
    obtain ⟨us, g, ds⟩ := d.seq e
    simp only [bList, g, OrN]
    exact ds
  · cases e) ha
def pOpO (g : P → P → Option (List P)) (p q : PE) : Dl → Option (List P) := fun δ => (p δ).bind fun x => (q δ).bind fun y => g x y
/-! a call that only looks at its arguments and gives something flat -/
def flatB (p : P) : Bool := (flatP p).isSome
def pCallB (g : PF) (a : PA) : PE := fun δ => ((a δ).bind g).bind fun r => if flatB r.val then some r.val else none
theorem dn_flat {T T' : Nat → Prop} {h' : Sh} {p : P} {w : W} (f : flatB p = true) (x : Dn T h p w) : Dn T' h' p w := by
  cases p <;> first
    | (simp only [Dn] at x ⊢; exact x)
    | cases f
def lent : List P → List W → Nat → Prop
  | _ :: ps, w :: ws, i => w = .ref i ∨ lent ps ws i
  | _, _, _ => False
end
end HL


set_option Elab.async false
set_option linter.all false
set_option maxRecDepth 100000
set_option maxHeartbeats 4000000
namespace HL
open PySem (Str)
abbrev cLt (i j : Int) : Bool := decide (i < j)
abbrev cLe (i j : Int) : Bool := decide (i ≤ j)
abbrev cGt (i j : Int) : Bool := decide (j < i)
abbrev cGe (i j : Int) : Bool := decide (j ≤ i)
def qSub := qInt (fun _ _ => true) fun i j => i - j
def qDiv := qInt (fun _ j => decide (0 < j) && decide (j < 1073741824)) fun i j => i / j
def qMod := qInt (fun _ j => decide (0 < j)) fun i j => i % j
def qLt := qCmp cLt
def qLe := qCmp cLe
def qGt := qCmp cGt
def qGe := qCmp cGe
theorem d_sub : O2D oSub qSub := d_int
theorem d_div : O2D oDiv qDiv := d_int
theorem d_mod : O2D oMod qMod := d_int
theorem d_lt : O2D oLt qLt := d_cmp
theorem d_ge : O2D oGe qGe := d_cmp
section
variable {h l : Sh}
def tyP : P → Option Ty
  | .non => some (.bi "NoneType")
  | .bl _ => some (.bi "bool")
  | .int _ => some (.bi "int")
  | .str _ => some (.bi "str")
  | .lst _ => some (.bi "list")
  | .rol _ => some (.bi "list")
  | .tup _ => some (.bi "tuple")
  | .ins c _ => some (.own false c)
  | _ => none
theorem ty_p {T : Nat → Prop} {p : P} {w : W} {t : Ty} (x : DnB T h p w) (e : tyP p = some t) : tyW h w = some t := by
  rcases x with x | ⟨xs, a, us, rfl, rfl, g, d⟩
  · cases p <;> simp only [Dn] at x <;> first
      | (subst x; exact e)
      | (obtain ⟨i, us, rfl, _, g, _⟩ := x; simp only [tyW, g]; exact e)
  · simp only [tyW, g]; exact e
def clP : P → Option W
  | .ty n => some (.ty n)
  | .gl x => some (.gl x)
  | _ => none
def clsP : List P → Option (List W)
  | [] => some []
  | p :: ps => (clP p).bind fun u => (clsP ps).map (u :: ·)
theorem cl_p {T : Nat → Prop} {p : P} {w u : W} (x : Dn T h p w) (e : clP p = some u) : w = u ∧ isCl u = true := by
  cases p <;> first
    | (cases e; simp only [Dn] at x; exact ⟨x, rfl⟩)
    | cases e
theorem cls_p {T : Nat → Prop} : ∀ (ps : List P) (us vs : List W), Dns T h ps us → clsP ps = some vs → us = vs ∧ vs.all isCl = true
  | [], us, vs, x, e => by simp only [Dns] at x; rw [x]; cases e; exact ⟨rfl, rfl⟩
  | p :: ps, us, vs, x, e => by
    simp only [Dns] at x
    obtain ⟨u, r, rfl, d, dr⟩ := x
    unfold clsP at e
    cases e1 : clP p with
    | none => rw [e1] at e; cases e
    | some a =>
      rw [e1] at e
      cases e2 : clsP ps with
      | none => rw [e2] at e; cases e
      | some b =>
        rw [e2] at e
        cases e
        obtain ⟨z1, z2⟩ := cl_p d e1
        obtain ⟨z3, z4⟩ := cls_p ps r b dr e2
        subst z1 z3
        exact ⟨rfl, by rw [List.all_cons, z2, z4]; rfl⟩
def qIsi (T : CT) : List P → Option P
  | [p, .tup cs] => (tyP p).bind fun t => (clsP cs).bind fun us => if us.isEmpty then none else (isiN T t us).map .bl
  | [p, c] => (tyP p).bind fun t => (clP c).bind fun u => (isi1 T t u).map .bl
  | _ => none
theorem d_isi {T : CT} : BD (bIsi T) (qIsi T) := fun S h ps ws r x e => by
  unfold qIsi at e
  split at e
  · rename_i p cs
    obtain ⟨u, v, rfl, d1, d2⟩ := x.two
    cases e1 : tyP p with
    | none => rw [e1] at e; cases e
    | some t =>
      rw [e1] at e
      simp only [Option.bind_some] at e
      cases e2 : clsP cs with
      | none => rw [e2] at e; cases e
      | some us =>
        rw [e2] at e
        simp only [Option.bind_some] at e
        split at e
        · cases e
        · rename_i ne
          obtain ⟨a, vs, rfl, _, g, ds⟩ := d2.tup
          obtain ⟨rfl, ac⟩ := cls_p cs vs us ds e2
          cases e3 : isiN T t vs with
          | none => rw [e3] at e; cases e
          | some b =>
            rw [e3] at e; cases e
            simp only [bIsi, isi, ty_p d1 e1, g, ac, Bool.eq_false_iff.mpr ne, Bool.not_false, Bool.and_self, if_true, e3, OrD, Dn]
  · rename_i p c hc
    obtain ⟨u, v, rfl, d1, d2⟩ := x.two
    cases e1 : tyP p with
    | none => rw [e1] at e; cases e
    | some t =>
      rw [e1] at e
      simp only [Option.bind_some] at e
      cases e2 : clP c with
      | none => rw [e2] at e; cases e
      | some w =>
        rw [e2] at e
        simp only [Option.bind_some] at e
        cases e3 : isi1 T t w with
        | none => rw [e3] at e; cases e
        | some b =>
          rw [e3] at e; cases e
          have hv : v = w ∧ isCl w = true := by
            rcases d2 with d2 | ⟨xs, a, us, rfl, _⟩
            · exact cl_p d2 e2
            · cases e2
          obtain ⟨rfl, ic⟩ := hv
          have : isi T h u v = some b := by
            unfold isi
            rw [ty_p d1 e1]
            cases v with
            | ty n => exact e3
            | gl n => exact e3
            | _ => cases ic
          simp only [bIsi, this, OrD, Dn]
  · cases e
end
def pL (o : Dl → Option (List P)) : PE := fun δ => (o δ).map .lst
theorem e_l {d : DE} {o : Dl → Option (List P)} (x : Po d o) : Pe d (pL o) := x.e
/-! from a deep reading of the law to the interpreter -/
theorem law_of {f : Fn} {g : PF} {cs : List SO} (k : Pf f g) (ns : List Int) (e : g [.rol (ns.map P.int)] = some (.v (.bl true))) : ∃ h', f [.ref cs.length] (cs ++ [.rol (ns.map W.int)]) = .ok (.bl true) h' := by
  have di : ∀ (T : Nat → Prop) (h : Sh) (ns : List Int), Dns T h (ns.map P.int) (ns.map W.int) := fun T h ns => by
    induction ns with
    | nil => simp only [List.map_nil, Dns]
    | cons a r ih => simp only [List.map_cons, Dns]; exact ⟨_, _, rfl, by simp only [Dn], ih⟩
  have d : Dns (fun _ => False) (cs ++ [.rol (ns.map W.int)]) [.rol (ns.map P.int)] [.ref cs.length] := Dns.one (by
    simp only [Dn]
    exact ⟨cs.length, ns.map W.int, rfl, id, by simp, di _ _ ns⟩)
  obtain ⟨w, l, c, r⟩ := k _ _ _ _ _ (fun _ z => z.elim) d e
  have : w = .bl true := by simpa only [ResD, Dn] using r
  subst this
  exact ⟨_, c⟩
end HL


set_option Elab.async false
set_option linter.all false
set_option maxRecDepth 100000
set_option maxHeartbeats 4000000
namespace HL
open PySem (Str)
/-! reckoning with the deep code -/
def mixV (c k : Int) : Int :=
  ((c % 2147483647 * (c % 2147483647) % 2147483629) * (c % 2147483647 * (c % 2147483647) % 2147483629) + 69621 * (c % 2147483647 * (c % 2147483647) % 2147483629) + k) % 2147483587
def cellV (ns : List Int) (k : Int) : Int :=
  mixV (if ns = [] then 7919 * k + 11 else ns.getD (k % ns.length).toNat 0 * 48271 + 104729 * k + k / ns.length * 7919) k
theorem mulOk_l {i j : Int} (h : i.natAbs < 18446744073709551616) : mulOk i j = true := by unfold mulOk; simp [show i.natAbs < 2 ^ 64 from h]
theorem mulOk_r {i j : Int} (h : j.natAbs < 18446744073709551616) : mulOk i j = true := by unfold mulOk; simp [show j.natAbs < 2 ^ 64 from h]
theorem qMul_int (i j : Int) : qMul (.int i) (.int j) = if mulOk i j = true then some (.int (i * j)) else none := rfl
theorem qAdd_int (i j : Int) : qAdd (.int i) (.int j) = some (.int (i + j)) := rfl
theorem qSub_int (i j : Int) : qSub (.int i) (.int j) = some (.int (i - j)) := rfl
theorem qMod_int (i j : Int) (h : 0 < j) : qMod (.int i) (.int j) = some (.int (i % j)) := by unfold qMod qInt; simp [h]
theorem qDiv_int (i j : Int) (h : 0 < j) (h2 : j < 1073741824) : qDiv (.int i) (.int j) = some (.int (i / j)) := by unfold qDiv qInt; simp [h, h2]
theorem qLt_int (i j : Int) : qLt (.int i) (.int j) = some (.bl (decide (i < j))) := rfl
theorem qLe_int (i j : Int) : qLe (.int i) (.int j) = some (.bl (decide (i ≤ j))) := rfl
theorem qGt_int (i j : Int) : qGt (.int i) (.int j) = some (.bl (decide (j < i))) := rfl
theorem qGe_int (i j : Int) : qGe (.int i) (.int j) = some (.bl (decide (j ≤ i))) := rfl
theorem qEq_int (m : Bool) (i j : Int) : qEq m (.int i) (.int j) = some (.bl (m != decide (i = j))) := rfl
theorem qEq_str (m : Bool) (i j : Str) : qEq m (.str i) (.str j) = some (.bl (m != decide (i = j))) := rfl
theorem datsP_ints (n : Nat) (ns : List Int) : datsP (datP n) (ns.map P.int) = some (ns.map D.int) := by
  induction ns with
  | nil => rfl
  | cons a r ih => rw [List.map_cons]; unfold datsP; rw [ih]; cases n <;> rfl
theorem D_eqs_ints (xs ys : List Int) : D.eqs (xs.map D.int) (ys.map D.int) = decide (xs = ys) := by
  induction xs generalizing ys with
  | nil => cases ys <;> simp [D.eqs]
  | cons x xs ih =>
    cases ys with
    | nil => simp [D.eqs]
    | cons y ys =>
      simp only [List.map_cons, D.eqs, D.eq, ih]
      rw [Bool.eq_iff_iff]; simp
theorem qEq_scr (m : Bool) (ns : List Int) : qEq m (.rol (ns.map .int)) (.lst []) = some (.bl (m != decide (ns = []))) := by
  unfold qEq eqP
  simp only [DEEP, datP, datsP_ints, Option.map_some, datsP]
  have := D_eqs_ints ns []
  simp only [D.eq, List.map_nil] at this ⊢
  rw [this]
theorem atP_ints (ns : List Int) (i : Int) (h0 : 0 ≤ i) (h : i < ns.length) : atP (ns.map P.int) i = some (.int (ns.getD i.toNat 0)) := by
  have h1 : i.toNat < ns.length := by omega
  unfold atP ixW
  rw [List.length_map, if_pos h0, if_pos h]
  simp only [Option.bind_some, List.getElem?_map]
  rw [List.getElem?_eq_getElem h1, List.getD_eq_getElem?_getD, List.getElem?_eq_getElem h1]
  rfl
theorem qIx_lst (xs : List P) (i : Int) : qIx (.lst xs) (.int i) = atP xs i := rfl
theorem qIx_rol (xs : List P) (i : Int) : qIx (.rol xs) (.int i) = atP xs i := rfl
theorem qIx_tup (xs : List P) (i : Int) : qIx (.tup xs) (.int i) = atP xs i := rfl
theorem qLen_rol (xs : List P) : qLen [.rol xs] = some (.int xs.length) := rfl
theorem qLen_lst (xs : List P) : qLen [.lst xs] = some (.int xs.length) := rfl
theorem qLen_tup (xs : List P) : qLen [.tup xs] = some (.int xs.length) := rfl
theorem atP_0 (x0 : P) (r : List P) : atP (x0 :: r) 0 = some x0 := by
  unfold atP ixW
  rw [if_pos (by decide), if_pos (by simp only [List.length_cons]; omega)]
  rfl
theorem atP_1 (x0 x1 : P) (r : List P) : atP (x0 :: x1 :: r) 1 = some x1 := by
  unfold atP ixW
  rw [if_pos (by decide), if_pos (by simp only [List.length_cons]; omega)]
  rfl
theorem atP_2 (x0 x1 x2 : P) (r : List P) : atP (x0 :: x1 :: x2 :: r) 2 = some x2 := by
  unfold atP ixW
  rw [if_pos (by decide), if_pos (by simp only [List.length_cons]; omega)]
  rfl
theorem atP_3 (x0 x1 x2 x3 : P) (r : List P) : atP (x0 :: x1 :: x2 :: x3 :: r) 3 = some x3 := by
  unfold atP ixW
  rw [if_pos (by decide), if_pos (by simp only [List.length_cons]; omega)]
  rfl
theorem atP_4 (x0 x1 x2 x3 x4 : P) (r : List P) : atP (x0 :: x1 :: x2 :: x3 :: x4 :: r) 4 = some x4 := by
  unfold atP ixW
  rw [if_pos (by decide), if_pos (by simp only [List.length_cons]; omega)]
  rfl
theorem atP_5 (x0 x1 x2 x3 x4 x5 : P) (r : List P) : atP (x0 :: x1 :: x2 :: x3 :: x4 :: x5 :: r) 5 = some x5 := by
  unfold atP ixW
  rw [if_pos (by decide), if_pos (by simp only [List.length_cons]; omega)]
  rfl
theorem atP_6 (x0 x1 x2 x3 x4 x5 x6 : P) (r : List P) : atP (x0 :: x1 :: x2 :: x3 :: x4 :: x5 :: x6 :: r) 6 = some x6 := by
  unfold atP ixW
  rw [if_pos (by decide), if_pos (by simp only [List.length_cons]; omega)]
  rfl
theorem atP_7 (x0 x1 x2 x3 x4 x5 x6 x7 : P) (r : List P) : atP (x0 :: x1 :: x2 :: x3 :: x4 :: x5 :: x6 :: x7 :: r) 7 = some x7 := by
  unfold atP ixW
  rw [if_pos (by decide), if_pos (by simp only [List.length_cons]; omega)]
  rfl
theorem atP_8 (x0 x1 x2 x3 x4 x5 x6 x7 x8 : P) (r : List P) : atP (x0 :: x1 :: x2 :: x3 :: x4 :: x5 :: x6 :: x7 :: x8 :: r) 8 = some x8 := by
  unfold atP ixW
  rw [if_pos (by decide), if_pos (by simp only [List.length_cons]; omega)]
  rfl
theorem atP_9 (x0 x1 x2 x3 x4 x5 x6 x7 x8 x9 : P) (r : List P) : atP (x0 :: x1 :: x2 :: x3 :: x4 :: x5 :: x6 :: x7 :: x8 :: x9 :: r) 9 = some x9 := by
  unfold atP ixW
  rw [if_pos (by decide), if_pos (by simp only [List.length_cons]; omega)]
  rfl
theorem atP_10 (x0 x1 x2 x3 x4 x5 x6 x7 x8 x9 x10 : P) (r : List P) : atP (x0 :: x1 :: x2 :: x3 :: x4 :: x5 :: x6 :: x7 :: x8 :: x9 :: x10 :: r) 10 = some x10 := by
  unfold atP ixW
  rw [if_pos (by decide), if_pos (by simp only [List.length_cons]; omega)]
  rfl
theorem atP_11 (x0 x1 x2 x3 x4 x5 x6 x7 x8 x9 x10 x11 : P) (r : List P) : atP (x0 :: x1 :: x2 :: x3 :: x4 :: x5 :: x6 :: x7 :: x8 :: x9 :: x10 :: x11 :: r) 11 = some x11 := by
  unfold atP ixW
  rw [if_pos (by decide), if_pos (by simp only [List.length_cons]; omega)]
  rfl
theorem seqP_lst (xs : List P) : seqP (.lst xs) = some xs := rfl
theorem seqP_rol (xs : List P) : seqP (.rol xs) = some xs := rfl
theorem seqP_tup (xs : List P) : seqP (.tup xs) = some xs := rfl
theorem lstP_lst (xs : List P) : lstP (.lst xs) = some xs := rfl
theorem lstP_rol (xs : List P) : lstP (.rol xs) = some xs := rfl
theorem truP_non : truP .non = some false := rfl
theorem truP_bl (b : Bool) : truP (.bl b) = some b := rfl
theorem truP_int (i : Int) : truP (.int i) = some (i != 0) := rfl
theorem truP_lst (xs : List P) : truP (.lst xs) = some (!xs.isEmpty) := rfl
theorem truP_rol (xs : List P) : truP (.rol xs) = some (!xs.isEmpty) := rfl
theorem truP_tup (xs : List P) : truP (.tup xs) = some (!xs.isEmpty) := rfl
theorem blP_bl (b : Bool) : blP (.bl b) = some b := rfl
theorem forP_range {g : PG} {b : PS} (lo : Int) (N : Nat) (I : Nat → Dl → Prop) (δ : Dl) (h0 : I 0 δ)
    (step : ∀ j δ, j < N → I j δ → ∃ δ1, g (.int (lo + (j : Int))) δ = some δ1 ∧ ∃ δ2, b δ1 = .nx δ2 ∧ I (j + 1) δ2) : ∃ δ', forP g b (rangeP lo N) δ = .nx δ' ∧ I N δ' := by
  have key : ∀ (m j : Nat) (δ : Dl), j + m = N → I j δ → ∃ δ', forP g b ((List.range' j m).map fun (k : Nat) => P.int (lo + (k : Int))) δ = .nx δ' ∧ I N δ' := by
    intro m
    induction m with
    | zero =>
      intro j δ e i
      have : j = N := by omega
      subst this
      exact ⟨δ, rfl, i⟩
    | succ m ih =>
      intro j δ e i
      obtain ⟨δ1, e1, δ2, e2, i2⟩ := step j δ (by omega) i
      obtain ⟨δ', e3, i3⟩ := ih (j + 1) δ2 (by omega) i2
      refine ⟨δ', ?_, i3⟩
      rw [List.range'_succ, List.map_cons]
      unfold forP
      simp only [e1, e2]
      exact e3
  obtain ⟨δ', e, i⟩ := key N 0 δ (by omega) h0
  refine ⟨δ', ?_, i⟩
  unfold rangeP
  rw [List.range_eq_range']
  exact e
/-! one statement at a time -/
theorem seq_nx {a b : PS} {δ δ' : Dl} {r : RS} (h : a δ = .nx δ') (k : b δ' = r) : psSeq a b δ = r := by unfold psSeq; rw [h]; exact k
theorem for_nx {i : PI} {g : PG} {b : PS} {δ : Dl} {xs : List P} {r : RS} (h : i δ = some xs) (k : forP g b xs δ = r) : psFor i g b δ = r := by unfold psFor; rw [h]; exact k
theorem set_nx {i : Nat} {e : PE} {δ : Dl} {p : P} (h : e δ = some p) : psSet i e δ = .nx (δ.set i (.val p)) := by unfold psSet; rw [h]
theorem pf_rt {p m : Nat} {b : PS} {ps : List P} {δ : Dl} {r : P} (hp : ps.length = p) (hs : startP m ps = δ) (h : b δ = .rt r) : pfOf p m b ps = some (.v r) := by unfold pfOf; rw [if_pos hp, hs, h]
end HL


set_option Elab.async false
set_option linter.all false
set_option maxRecDepth 100000
namespace HL
mutual
theorem D.eq_rfl : ∀ d : D, D.eq d d = true
  | .non => by simp only [D.eq]
  | .bl b => by simp only [D.eq, beq_self_eq_true]
  | .int i => by simp only [D.eq, beq_self_eq_true]
  | .str s => by simp only [D.eq, beq_self_eq_true]
  | .lst xs => by simp only [D.eq]; exact D.eqs_rfl xs
  | .tup xs => by simp only [D.eq]; exact D.eqs_rfl xs
theorem D.eqs_rfl : ∀ xs : List D, D.eqs xs xs = true
  | [] => by simp only [D.eqs, List.isEmpty_nil]
  | x :: xs => by simp only [D.eqs, D.eq_rfl x, D.eqs_rfl xs, Bool.and_self]
end
theorem qEq_self (m : Bool) {p : P} {d : D} (h : datP DEEP p = some d) : qEq m p p = some (.bl (!m)) := by
  unfold qEq eqP
  split
  · simp
  · simp
  · simp only [h, D.eq_rfl, Option.map_some]; simp
theorem qEq_nil {xs : List P} {ds : List D} (m : Bool) (h : datsP (datP 7) xs = some ds) : qEq m (.lst xs) (.lst []) = some (.bl (m != xs.isEmpty)) := by
  have e1 : datP DEEP (.lst xs) = some (.lst ds) := by simp only [DEEP, datP, h, Option.map_some]
  have e2 : datP DEEP (.lst []) = some (.lst []) := rfl
  unfold qEq eqP
  simp only [e1, e2, Option.map_some, D.eq]
  cases xs with
  | nil => simp only [datsP, Option.some.injEq] at h; subst h; simp only [D.eqs]; rfl
  | cons x xs =>
    cases ds with
    | nil =>
      simp only [datsP] at h
      cases hx : datP 7 x <;> rw [hx] at h <;> simp only [Option.bind_none, Option.bind_some, reduceCtorEq] at h
      cases hy : datsP (datP 7) xs <;> rw [hy] at h <;> simp at h
    | cons d ds => simp only [D.eqs, List.isEmpty_cons]
theorem datsP_map {β : Type} (n : Nat) (f : β → P) (g : β → D) (h : ∀ b, datP n (f b) = some (g b)) (xs : List β) : datsP (datP n) (xs.map f) = some (xs.map g) := by
  induction xs with
  | nil => rfl
  | cons x xs ih => simp only [List.map_cons, datsP, h, ih, Option.bind_some, Option.map_some]
theorem comp_fm {β : Type} {t : PT} {e : PE} {τ : Dl} (emb f : β → P) (q : β → Bool) : ∀ (xs : List β) (acc : List P) (x0 : Sl), (∀ b ∈ xs, t (.val (emb b) :: τ) = some (q b)) → (∀ b ∈ xs, q b = true → e (.val (emb b) :: τ) = some (f b)) → acc.length + xs.length ≤ 1000 →
    compP (pgName 0) t e (xs.map emb) (x0 :: τ) acc = some (acc ++ (xs.filter q).map f)
  | [], acc, x0, _, _, _ => by simp [compP]
  | x :: xs, acc, x0, ht, he, hl => by
    rw [List.map_cons]
    unfold compP
    rw [List.length_cons] at hl
    have hlen : acc.length < LIM := by unfold LIM; omega
    have r0 := ht x List.mem_cons_self
    have r1 := fun (a : List P) (ha : a.length + xs.length ≤ 1000) => comp_fm emb f q xs a (.val (emb x)) (fun b hb => ht b (List.mem_cons_of_mem _ hb)) (fun b hb => he b (List.mem_cons_of_mem _ hb)) ha
    simp only [pgName, List.set_cons_zero, r0, Option.bind_some]
    cases hq : q x with
    | true =>
      simp only [if_true, he x List.mem_cons_self hq, Option.bind_some, if_pos hlen]
      rw [r1 _ (by rw [List.length_append, List.length_cons, List.length_nil]; omega), List.filter_cons_of_pos hq]
      simp
    | false =>
      simp only [Bool.false_eq_true, if_false]
      rw [r1 _ (by omega), List.filter_cons_of_neg (by rw [hq]; decide)]
theorem comp_mp {β : Type} {e : PE} {τ : Dl} (emb f : β → P) (xs : List β) (x0 : Sl) (he : ∀ b ∈ xs, e (.val (emb b) :: τ) = some (f b)) (hl : xs.length ≤ 1000) :
    compP (pgName 0) ptTrue e (xs.map emb) (x0 :: τ) [] = some (xs.map f) := by
  rw [comp_fm emb f (fun _ => true) xs [] x0 (fun _ _ => rfl) (fun b hb _ => he b hb) (by simp; omega), List.filter_eq_self.mpr (fun _ _ => rfl), List.nil_append]
end HL


set_option Elab.async false
set_option linter.all false
set_option maxRecDepth 100000
set_option maxHeartbeats 4000000
namespace HL
open PySem (Str)
section
variable {n : Lo} {B : Nat → Prop} {O O' O2 : List (List Nat)} {s : Sg} {h h' h2 l : Sh} {δ : Dl}
/-! objects that nobody changes -/
theorem Dnf.app {T : Nat → Prop} {fs : List (Str × P)} {gs : List (Str × W)} (x : Dnf T h fs gs) : Dnf T (h ++ l) fs gs := Dnf.mono (fun _ _ t e => ⟨app_at e, t⟩) fs gs x
theorem Dnf.get {T : Nat → Prop} {f : Str} {p : P} : ∀ {fs : List (Str × P)} {gs : List (Str × W)}, Dnf T h fs gs → fs.lookup f = some p → ∃ w, gs.lookup f = some w ∧ Dn T h p w
  | [], gs, x, e => by cases e
  | (g, q) :: fs, gs, x, e => by
    simp only [Dnf] at x
    obtain ⟨u, r, rfl, d, ds⟩ := x
    by_cases z : f = g
    · subst z
      simp only [List.lookup, beq_self_eq_true, Option.some.injEq] at e
      subst e
      exact ⟨u, by simp only [List.lookup, beq_self_eq_true], d⟩
    · have zb : (f == g) = false := by simpa using z
      simp only [List.lookup, zb] at e
      obtain ⟨w, a, b⟩ := Dnf.get ds e
      exact ⟨w, by simp only [List.lookup, zb]; exact a, b⟩
theorem Dnf.no {T : Nat → Prop} {f : Str} : ∀ {fs : List (Str × P)} {gs : List (Str × W)}, Dnf T h fs gs → fs.lookup f = none → gs.lookup f = none
  | [], gs, x, e => by simp only [Dnf] at x; rw [x]; rfl
  | (g, q) :: fs, gs, x, e => by
    simp only [Dnf] at x
    obtain ⟨u, r, rfl, d, ds⟩ := x
    by_cases z : f = g
    · subst z
      simp only [List.lookup, beq_self_eq_true, reduceCtorEq] at e
    · have zb : (f == g) = false := by simpa using z
      simp only [List.lookup, zb] at e ⊢
      exact Dnf.no ds e
def qFld (cs : List Str) (f : Str) : P → Option P
  | .ins c fs => if cs.contains c = true then fs.lookup f else none
  | _ => none
def pFld (cs : List Str) (f : Str) (a : PE) : PE := fun δ => (a δ).bind (qFld cs f)
theorem e_fld {cs : List Str} {f : Str} {a : DE} {p : PE} (ha : Pe a p) : Pe (dFld cs f a) (pFld cs f p) := fun n B O s h δ r E e => by
  unfold pFld at e
  cases e1 : p δ with
  | none => rw [e1] at e; cases e
  | some x =>
    rw [e1] at e
    simp only [Option.bind_some] at e
    obtain ⟨w, l, c1, d1⟩ := ha n B O s h δ x E e1
    cases x with
    | ins c fs =>
      simp only [qFld] at e
      split at e
      · rename_i hc
        simp only [Dn] at d1
        obtain ⟨i, gs, rfl, _, g, ds⟩ := d1
        obtain ⟨u, lu, du⟩ := ds.get e
        refine ⟨u, l, ?_, du⟩
        unfold dFld
        rw [c1]
        simp only [R.bind, getF, g, hc, if_true, lu]
      · cases e
    | _ => cases e
def TbD (tb : List (Str × Fn)) (pt : List (Str × PF)) : Prop := ∀ c g, pt.lookup c = some g → ∃ f, tb.lookup c = some f ∧ Pf f g
theorem TbD.nil : TbD [] [] := fun c g e => by cases e
theorem TbD.cons {c : Str} {f : Fn} {g : PF} {tb : List (Str × Fn)} {pt : List (Str × PF)} (k : Pf f g) (r : TbD tb pt) : TbD ((c, f) :: tb) ((c, g) :: pt) := fun c' g' e => by
  by_cases z : c' = c
  · subst z
    simp only [List.lookup, beq_self_eq_true, Option.some.injEq] at e ⊢
    subst e
    exact ⟨f, rfl, k⟩
  · have zb : (c' == c) = false := by simpa using z
    simp only [List.lookup, zb] at e ⊢
    exact r c' g' e
def qMt (pt : List (Str × PF)) (m : Str) : P → Option PF
  | .ins c fs => if fs.lookup m = none then pt.lookup c else none
  | _ => none
def pMeth (pt : List (Str × PF)) (m : Str) (a : PE) (as : PA) : PE := fun δ => (a δ).bind fun x => (qMt pt m x).bind fun g => (as δ).bind fun xs => (g (x :: xs)).map RF.val
theorem e_meth {tb : List (Str × Fn)} {pt : List (Str × PF)} {m : Str} {a : DE} {p : PE} {as : DA} {ps : PA} (k : TbD tb pt) (ha : Pe a p) (hs : Pa as ps) : Pe (dMeth tb m a as) (pMeth pt m p ps) := fun n B O s h δ r E e => by
  unfold pMeth at e
  cases e1 : p δ with
  | none => rw [e1] at e; cases e
  | some x =>
    rw [e1] at e
    simp only [Option.bind_some] at e
    obtain ⟨w, l, c1, d1⟩ := ha n B O s h δ x E e1
    cases x with
    | ins c fs =>
      simp only [qMt] at e
      split at e
      · rename_i hn
        cases e2 : pt.lookup c with
        | none => rw [e2] at e; cases e
        | some g =>
          rw [e2] at e
          simp only [Option.bind_some] at e
          cases e3 : ps δ with
          | none => rw [e3] at e; cases e
          | some xs =>
            rw [e3] at e
            simp only [Option.bind_some] at e
            cases e4 : g (.ins c fs :: xs) with
            | none => rw [e4] at e; cases e
            | some rf =>
              rw [e4] at e; cases e
              obtain ⟨f, lf, pf⟩ := k c g e2
              obtain ⟨ws, l2, c2, d2⟩ := hs n B O s (h ++ l) δ xs E.app e3
              have d1' : Dn (Tb B O) (h ++ l ++ l2) (.ins c fs) w := d1.app
              have dd : Dns (Tb B O) (h ++ l ++ l2) (.ins c fs :: xs) (w :: ws) := by simp only [Dns]; exact ⟨w, ws, rfl, d1', d2⟩
              obtain ⟨v, l3, c3, d3⟩ := pf (Tb B O) (h ++ l ++ l2) (w :: ws) _ rf (fun i t => Tb.lt (E.app (l := l) |>.app (l := l2)) t) dd e4
              refine ⟨v, l ++ l2 ++ l3, ?_, ?_⟩
              · simp only [Dn] at d1
                obtain ⟨i, gs, rfl, _, g1, ds⟩ := d1
                unfold dMeth
                rw [c1]
                simp only [R.bind, findM, g1, ds.no hn, if_true, lf]
                rw [c2]
                simp only
                rw [c3]
                simp only [List.append_assoc]
              · rw [← List.append_assoc, ← List.append_assoc]
                cases rf with
                | v p => exact d3
                | o xs =>
                  obtain ⟨a, us, rfl, ge, g, ds⟩ := d3
                  simp only [RF.val, Dn]
                  exact ⟨a, us, rfl, fun t => absurd (Tb.lt (E.app (l := l) |>.app (l := l2)) t) (by omega), g, ds.weak fun i t => .inl t⟩
      · cases e
    | _ => cases e
/-! new objects, their names set one after the other of what is handed in -/
theorem Dnf.zip {T : Nat → Prop} : ∀ (ns : List Str) (xs : List P) (us : List W), Dns T h xs us → Dnf T h (ns.zip xs) (ns.zip us)
  | [], xs, us, d => by simp only [List.zip_nil_left, Dnf]
  | f :: ns, [], us, d => by simp only [Dns] at d; rw [d]; simp only [List.zip_nil_right, Dnf]
  | f :: ns, x :: xs, us, d => by
    simp only [Dns] at d
    obtain ⟨u, r, rfl, d1, d2⟩ := d
    simp only [List.zip_cons_cons, Dnf]
    exact ⟨u, _, rfl, d1, Dnf.zip ns xs r d2⟩
end
end HL


set_option Elab.async false
set_option linter.all false
set_option maxRecDepth 100000
set_option maxHeartbeats 4000000
namespace HL
open PySem (Str)
section
variable {n : Lo} {B : Nat → Prop} {O O' : List (List Nat)} {s : Sg} {h h' h2 l : Sh} {δ : Dl}
/-! ### what changes things -/
abbrev PX := Dl → Option (P × Dl)
def Px (d : DE) (p : PX) : Prop := ∀ n B O s h δ r δ', Env n B O s h δ → p δ = some (r, δ') → ∃ w O' h', d s h = .ok w h' ∧ Env n B O' s h' δ' ∧ Keep O h O' h' ∧ Dn (Tb B O') h' r w
def pxE (p : PE) : PX := fun δ => (p δ).map fun r => (r, δ)
theorem Pe.x {d : DE} {p : PE} (x : Pe d p) : Px d (pxE p) := fun n B O s h δ r δ' E e => by
  unfold pxE at e
  cases e1 : p δ with
  | none => rw [e1] at e; cases e
  | some q =>
    rw [e1] at e; cases e
    obtain ⟨w, l, c, d⟩ := x n B O s h δ _ E e1
    exact ⟨w, O, h ++ l, c, E.app, Keep.app, d⟩
def psDropX (p : PX) : PS := fun δ => match p δ with
  | some (_, δ') => .nx δ'
  | none => .er
theorem x_drop {a : DE} {p : PX} (ha : Px a p) : Ps (sDrop a) (psDropX p) := fun n B O s h δ E => by
  unfold psDropX sDrop
  cases e : p δ with
  | none => trivial
  | some z =>
    obtain ⟨r, δ'⟩ := z
    obtain ⟨w, O', h', c1, E', k, d⟩ := ha n B O s h δ _ _ E e
    rw [c1]
    exact ⟨_, _, _, rfl, E', k⟩
/-! tests -/
abbrev PXT := Dl → Option (Bool × Dl)
def Pxt (d : DT) (p : PXT) : Prop := ∀ n B O s h δ r δ', Env n B O s h δ → p δ = some (r, δ') → ∃ O' h', d s h = .ok r h' ∧ Env n B O' s h' δ' ∧ Keep O h O' h'
def pxT (p : PT) : PXT := fun δ => (p δ).map fun r => (r, δ)
theorem Pt.x {d : DT} {p : PT} (x : Pt d p) : Pxt d (pxT p) := fun n B O s h δ r δ' E e => by
  unfold pxT at e
  cases e1 : p δ with
  | none => rw [e1] at e; cases e
  | some q =>
    rw [e1] at e; cases e
    obtain ⟨l, c⟩ := x n B O s h δ _ E e1
    exact ⟨O, h ++ l, c, E.app, Keep.app⟩
end
end HL


set_option Elab.async false
set_option linter.all false
set_option maxRecDepth 100000
set_option maxHeartbeats 4000000
namespace HL
open PySem (Str)
section
variable {n : Lo} {B : Nat → Prop} {O O' : List (List Nat)} {s : Sg} {h h' h2 l : Sh} {δ : Dl}
/-! ### an object is lent to a def -/
abbrev PM := List (Str × Fv) → List P → Option (P × List (Str × Fv))
def Ad (T : Nat → Prop) (o : List Nat) : Nat → Prop := fun i => T i ∨ i ∈ o
def Pm (c : Str) (f : Fn) (m : PM) : Prop := ∀ (T : Nat → Prop) (h : Sh) (a : Nat) (gs : List (Str × W)) (o : List Nat) (fs : List (Str × Fv)) (ws : List W) (xs : List P) (r : P) (fs' : List (Str × Fv)),
  (∀ i, T i → i < h.length) → (∀ i ∈ a :: o, ¬ T i) → (a :: o).Nodup → h[a]? = some (.ins c gs) → FsD (Ad T (a :: o)) h fs gs o → Dns (Ad T (a :: o)) h xs ws → m fs xs = some (r, fs') →
  ∃ w h' gs' o', f (.ref a :: ws) h = .ok w h' ∧ h.length ≤ h'.length ∧ (∀ (i : Nat) (u : SO), i ∉ a :: o → h[i]? = some u → h'[i]? = some u) ∧ h'[a]? = some (.ins c gs') ∧ (a :: o').Nodup ∧ (∀ i ∈ o', i ∈ o ∨ h.length ≤ i) ∧ FsD (Ad T (a :: o')) h' fs' gs' o' ∧ Dn (Ad T (a :: o')) h' r w
theorem FsD.lt {T : Nat → Prop} : ∀ {fs : List (Str × Fv)} {gs : List (Str × W)} {o : List Nat}, FsD T h fs gs o → ∀ i ∈ o, i < h.length
  | [], gs, o, x, i, hi => by simp only [FsD] at x; rw [x.2] at hi; cases hi
  | (f, .val p) :: fs, gs, o, x, i, hi => by
    simp only [FsD] at x
    obtain ⟨u, r, e, d, y⟩ := x
    exact FsD.lt y i hi
  | (f, .own xs) :: fs, gs, o, x, i, hi => by
    simp only [FsD] at x
    obtain ⟨a, us, r, o', e1, e2, g, d, y⟩ := x
    subst e2
    rcases List.mem_cons.mp hi with z | z
    · rw [z]; exact (List.getElem?_eq_some_iff.mp g).1
    · exact FsD.lt y i z
theorem FsD.weak {T T' : Nat → Prop} {fs : List (Str × Fv)} {gs : List (Str × W)} {o : List Nat} (x : FsD T h fs gs o) (k : ∀ i, T' i → T i) : FsD T' h fs gs o := FsD.mv (fun i u t e => ⟨e, fun z => t (k i z)⟩) fs gs o (fun _ _ _ e => e) x
theorem FsD.app {T : Nat → Prop} {fs : List (Str × Fv)} {gs : List (Str × W)} {o : List Nat} (x : FsD T h fs gs o) : FsD T (h ++ l) fs gs o := FsD.mv (fun i u t e => ⟨app_at e, t⟩) fs gs o (fun _ _ _ e => app_at e) x
theorem FsD.no {T : Nat → Prop} {f : Str} : ∀ {fs : List (Str × Fv)} {gs : List (Str × W)} {o : List Nat}, FsD T h fs gs o → fs.lookup f = none → gs.lookup f = none
  | [], gs, o, x, e => by simp only [FsD] at x; rw [x.1]; rfl
  | (g, .val q) :: fs, gs, o, x, e => by
    simp only [FsD] at x
    obtain ⟨u, r, rfl, d, ds⟩ := x
    by_cases z : f = g
    · subst z; simp only [List.lookup, beq_self_eq_true, reduceCtorEq] at e
    · have zb : (f == g) = false := by simpa using z
      simp only [List.lookup, zb] at e ⊢
      exact FsD.no ds e
  | (g, .own q) :: fs, gs, o, x, e => by
    simp only [FsD] at x
    obtain ⟨a, us, r, o', rfl, _, _, d, ds⟩ := x
    by_cases z : f = g
    · subst z; simp only [List.lookup, beq_self_eq_true, reduceCtorEq] at e
    · have zb : (f == g) = false := by simpa using z
      simp only [List.lookup, zb] at e ⊢
      exact FsD.no ds e
theorem Env.at_obj (E : Env n B O s h δ) {i : Nat} {c : Str} {fs : List (Str × Fv)} (q : δ[i]? = some (.obj c fs)) : ∃ a gs o, O[i]? = some (a :: o) ∧ (a :: o).Nodup ∧ s[i]? = some (some (.ref a)) ∧ h[a]? = some (.ins c gs) ∧ FsD (Tb B O) h fs gs o := by
  obtain ⟨a, gs, o, e, nd, w, g, d⟩ := E.at_ i _ q
  rw [e] at nd
  exact ⟨a, gs, o, getD_one e, nd, name_at w, g, d⟩
theorem Env.obj (E : Env n B O s h δ) {i a : Nat} {c : Str} {fs fs' : List (Str × Fv)} {o o' : List Nat} {gs' : List (Str × W)} (q : δ[i]? = some (.obj c fs)) (hoa : O[i]? = some (a :: o)) (hsw : s[i]? = some (some (.ref a)))
    (le : h.length ≤ h'.length) (fr : ∀ (k : Nat) (u : SO), k ∉ a :: o → h[k]? = some u → h'[k]? = some u) (g : h'[a]? = some (.ins c gs')) (nd : (a :: o').Nodup) (nw : ∀ k ∈ o', k ∈ o ∨ h.length ≤ k)
    (d : FsD (Ad (fun k => B k ∨ Ow (O.set i []) k) (a :: o')) h' fs' gs' o') : Env n B (O.set i (a :: o')) s h' (δ.set i (.obj c fs')) ∧ Keep O h (O.set i (a :: o')) h' ∧ ∀ k, Tb B (O.set i (a :: o')) k → Ad (fun k => B k ∨ Ow (O.set i []) k) (a :: o') k := by
  have hi : i < δ.length := (List.getElem?_eq_some_iff.mp q).1
  have es : O.set i (a :: o') = (O.set i []).set i (a :: o') := by rw [List.set_set]
  have tb : ∀ k, Tb B (O.set i (a :: o')) k → Ad (fun k => B k ∨ Ow (O.set i []) k) (a :: o') k := fun k t => by
    rcases t with t | t
    · exact .inl (.inl t)
    · rw [es] at t
      rcases t.set with z | z
      · exact .inl (.inr z)
      · exact .inr z
  have oa : Ow O a := Ow.of hoa List.mem_cons_self
  have nk : ∀ (k : Nat) (u : SO), ¬ Ow O k → h[k]? = some u → ¬ Ow (O.set i (a :: o')) k := fun k u t e z => by
    rw [es] at z
    rcases z.set with z | z
    · exact t (mem_set_none z)
    · rcases List.mem_cons.mp z with z | z
      · rw [z] at t; exact t oa
      · rcases nw k z with z | z
        · exact t (Ow.of hoa (List.mem_cons_of_mem _ z))
        · have := (List.getElem?_eq_some_iff.mp e).1; omega
  have nm : ∀ k, ¬ Ow O k → k ∉ a :: o := fun k t z => t (Ow.of hoa z)
  refine ⟨?_, ⟨le, fun k u e t => ⟨fr k u (nm k t) e, nk k u t e⟩⟩, tb⟩
  exact {
    le := Nat.le_trans E.le le
    old := E.old
    ls := by rw [List.length_set]; exact E.ls
    lo := by rw [List.length_set, List.length_set]; exact E.lo
    one := fun j k b l m e1 e2 m1 m2 => by
      have key : ∀ (k : Nat) (l : List Nat), i ≠ k → (O.set i (a :: o'))[k]? = some l → ∀ b ∈ l, b ∉ a :: o' := fun k l ne e b hb z => by
        rw [List.getElem?_set_ne ne] at e
        rcases List.mem_cons.mp z with z | z
        · exact ne (E.one i k a _ _ hoa e List.mem_cons_self (z ▸ hb))
        · rcases nw b z with z | z
          · exact ne (E.one i k b _ _ hoa e (List.mem_cons_of_mem _ z) hb)
          · have := (E.new b (Ow.of e hb)).2; omega
      have self : ∀ (l : List Nat), (O.set i (a :: o'))[i]? = some l → l = a :: o' := fun l e => by
        rw [List.getElem?_set_self (by rw [E.lo]; exact hi)] at e; cases e; rfl
      by_cases hj : i = j
      · by_cases hk : i = k
        · rw [← hj, ← hk]
        · subst hj
          rw [self l e1] at m1
          exact absurd m1 (key k m hk e2 b m2)
      · by_cases hk : i = k
        · subst hk
          rw [self m e2] at m2
          exact absurd m2 (key j l hj e1 b m1)
        · rw [List.getElem?_set_ne hj] at e1
          rw [List.getElem?_set_ne hk] at e2
          exact E.one j k b l m e1 e2 m1 m2
    new := fun b m => by
      rw [es] at m
      rcases m.set with z | z
      · have := E.new b (mem_set_none z); exact ⟨this.1, by omega⟩
      · rcases List.mem_cons.mp z with z | z
        · rw [z]; have := E.new a oa; exact ⟨this.1, by omega⟩
        · refine ⟨?_, d.lt b z⟩
          rcases nw b z with z | z
          · exact (E.new b (Ow.of hoa (List.mem_cons_of_mem _ z))).1
          · exact .inl (Nat.le_trans E.le z)
    self := fun c2 f2 w e m => by
      by_cases hi0 : i = 0
      · subst hi0; exact E.self c fs w q m
      · rw [List.getElem?_set_ne hi0] at e; exact E.self c2 f2 w e m
    at_ := fun j sl e => by
      by_cases hj : i = j
      · subst hj
        rw [List.getElem?_set_self hi] at e
        cases e
        refine ⟨a, gs', o', ?_, ?_, by rw [hsw]; rfl, g, d.weak tb⟩
        · rw [List.getElem?_set_self (by rw [E.lo]; exact hi)]; rfl
        · rw [List.getElem?_set_self (by rw [E.lo]; exact hi)]; exact nd
      · rw [List.getElem?_set_ne hj] at e
        rw [getL_set_ne hj]
        refine (E.at_ j sl e).mv (fun k u t ek => ⟨fr k u (nm k fun z => t (.inr z)) ek, fun z => z.elim (fun z => t (.inl z)) fun z => nk k u (fun z => t (.inr z)) ek z⟩) fun b hb u eb => fr b u (fun z => ?_) eb
        cases q2 : O[j]? with
        | none => rw [q2] at hb; cases hb
        | some y => rw [q2] at hb; exact hj (E.one i j b _ _ hoa q2 z hb) }
theorem lend_core {c : Str} {f : Fn} {m : PM} (hm : Pm c f m) (E : Env n B O s h δ) {i : Nat} {fs fs' : List (Str × Fv)} {xs : List P} {r : P} {ws : List W} (q : δ[i]? = some (.obj c fs)) (ds : Dns (Tb B O) h xs ws) (e : m fs xs = some (r, fs')) :
    ∃ a w O' h', s[i]? = some (some (.ref a)) ∧ f (.ref a :: ws) h = .ok w h' ∧ Env n B O' s h' (δ.set i (.obj c fs')) ∧ Keep O h O' h' ∧ Dn (Tb B O') h' r w := by
  obtain ⟨a, gs, o, hoa, nd, hsw, g, d⟩ := E.at_obj q
  have ta : ∀ k, Ad (fun k => B k ∨ Ow (O.set i []) k) (a :: o) k → Tb B O k := fun k t => by
    rcases t with (t | t) | t
    · exact .inl t
    · exact .inr (mem_set_none t)
    · exact .inr (Ow.of hoa t)
  obtain ⟨w, h', gs', o', c1, le, fr, g', nd', nw, d', dr⟩ := hm (fun k => B k ∨ Ow (O.set i []) k) h a gs o fs ws xs r fs' (fun k t => by
      rcases t with t | t
      · exact Tb.lt E (.inl t)
      · exact Tb.lt E (.inr (mem_set_none t))) (fun k hk t => by
      rcases t with t | t
      · have z1 := E.old k t
        rcases (E.new k (Ow.of hoa hk)).1 with z | z
        · omega
        · exact z1.2 z
      · obtain ⟨j, l, hj, ml⟩ := t.at_
        rw [List.getElem?_set] at hj
        split at hj
        · split at hj
          · cases hj; cases ml
          · cases hj
        · rename_i ne; exact ne (E.one i j k _ _ hoa hj hk ml)) nd g (d.weak ta) (ds.weak ta) e
  obtain ⟨E', k, tb⟩ := E.obj q hoa hsw le fr g' nd' nw d'
  exact ⟨a, w, _, h', hsw, c1, E', k, dr.weak tb⟩
def pLendM (c nm : Str) (m : PM) (i : Nat) (as : PA) : PX := fun δ => match δ[i]? with
  | some (.obj c' fs) => if c' = c ∧ fs.lookup nm = none then (as δ).bind fun xs => (m fs xs).map fun z => (z.1, δ.set i (.obj c z.2)) else none
  | _ => none
theorem x_lendM {c nm : Str} {tb : List (Str × Fn)} {f : Fn} {m : PM} {i : Nat} {as : DA} {ps : PA} (ht : tb.lookup c = some f) (hm : Pm c f m) (ha : Pa as ps) : Px (dMeth tb nm (dVar i) as) (pLendM c nm m i ps) := fun n B O s h δ r δ' E e => by
  unfold pLendM at e
  split at e
  · rename_i c' fs q
    split at e
    · rename_i hc
      obtain ⟨hc, hl⟩ := hc
      subst hc
      cases e1 : ps δ with
      | none => rw [e1] at e; cases e
      | some xs =>
        rw [e1] at e
        simp only [Option.bind_some] at e
        cases e2 : m fs xs with
        | none => rw [e2] at e; cases e
        | some z =>
          obtain ⟨r', fs'⟩ := z
          rw [e2] at e; cases e
          obtain ⟨ws, l, c1, d1⟩ := ha n B O s h δ xs E e1
          obtain ⟨a0, gs, o, _, _, hs0, g, dd⟩ := E.at_obj q
          obtain ⟨a, w, O', h', hs, c2, E', k, d⟩ := lend_core hm (E.app (l := l)) q d1 e2
          have : a0 = a := by rw [hs0] at hs; cases hs; rfl
          subst this
          refine ⟨w, O', h', ?_, E', Keep.app.trans k, d⟩
          unfold dMeth dVar
          rw [hs]
          simp only [R.bind, findM, g, dd.no hl, if_true, ht]
          rw [c1]
          exact c2
    · cases e
  · cases e
end
end HL


set_option Elab.async false
set_option linter.all false
set_option maxRecDepth 100000
set_option maxHeartbeats 4000000
namespace HL
open PySem (Str)
section
variable {n : Lo} {B : Nat → Prop} {O O' : List (List Nat)} {s : Sg} {h h' h2 l : Sh} {δ : Dl}
/-! ### a def to which an object is lent -/
def objOf (c : Str) (δ : Dl) : Option (List (Str × Fv)) := match (δ[0]? : Option Sl) with
  | some (.obj c' fs) => if c' = c then some fs else none
  | _ => none
def pmOf (c : Str) (p m : Nat) (b : PS) : PM := fun fs xs => if xs.length + 1 = p then (match b (.obj c fs :: startP (m - 1) xs) with
  | .nx δ' => (objOf c δ').map fun fs' => (.non, fs')
  | .rx r δ' => (objOf c δ').map fun fs' => (r, fs')
  | _ => none) else none
theorem start_cons {m : Nat} {w : W} {ws : List W} (hm : 0 < m) : start m (w :: ws) = some w :: start (m - 1) ws := by
  unfold start
  rw [List.map_cons, List.cons_append, List.length_cons, show m - (ws.length + 1) = m - 1 - ws.length by omega]
theorem env_lent {T : Nat → Prop} {m a : Nat} {c : Str} {gs : List (Str × W)} {o : List Nat} {fs : List (Str × Fv)} {ws : List W} {xs : List P} (hm : 0 < m) (lt : ∀ i, T i → i < h.length) (ap : ∀ i ∈ a :: o, ¬ T i) (nd : (a :: o).Nodup) (g : h[a]? = some (.ins c gs)) (d : FsD (Ad T (a :: o)) h fs gs o) (ds : Dns (Ad T (a :: o)) h xs ws) :
    Env ⟨h.length, fun i => i ∈ a :: o, some (.ref a)⟩ T ((a :: o) :: List.replicate (startP (m - 1) xs).length []) (start m (.ref a :: ws)) h (.obj c fs :: startP (m - 1) xs) := by
  have ow : ∀ k, Ow ((a :: o) :: List.replicate (startP (m - 1) xs).length []) k → k ∈ a :: o := fun k t => by
    obtain ⟨l, ml, z⟩ := t
    rcases List.mem_cons.mp ml with q | q
    · rw [q] at z; exact z
    · rw [(List.mem_replicate.mp q).2] at z; cases z
  have tb : ∀ k, Tb T ((a :: o) :: List.replicate (startP (m - 1) xs).length []) k → Ad T (a :: o) k := fun k t => t.elim .inl fun z => .inr (ow k z)
  have E0 := env_start (m := m - 1) (fun i (t : Ad T (a :: o) i) => t.elim (lt i) fun z => by
    rcases List.mem_cons.mp z with q | q
    · rw [q]; exact (List.getElem?_eq_some_iff.mp g).1
    · exact d.lt i q) ds
  rw [start_cons hm]
  exact {
    le := Nat.le_refl _
    old := fun i t => ⟨lt i t, fun z => ap i z t⟩
    ls := by rw [List.length_cons, List.length_cons, E0.ls]
    lo := by simp
    one := fun i j b l l2 e1 e2 m1 m2 => by
      have z : ∀ (k : Nat) (l : List Nat), (((a :: o) :: List.replicate (startP (m - 1) xs).length [])[k]? = some l) → b ∈ l → k = 0 := fun k l e mb => by
        cases k with
        | zero => rfl
        | succ k =>
          rw [List.getElem?_cons_succ, List.getElem?_replicate] at e
          split at e
          · cases e; cases mb
          · cases e
      rw [z i l e1 m1, z j l2 e2 m2]
    new := fun b mb => ⟨.inr (ow b mb), by
      rcases List.mem_cons.mp (ow b mb) with q | q
      · rw [q]; exact (List.getElem?_eq_some_iff.mp g).1
      · exact d.lt b q⟩
    self := fun _ _ w _ e => by cases e; rfl
    at_ := fun i sl e => by
      cases i with
      | zero =>
        cases e
        exact ⟨a, gs, o, rfl, nd, rfl, g, d.weak tb⟩
      | succ i =>
        rw [List.getElem?_cons_succ] at e
        have x := E0.at_ i sl e
        rw [List.getElem?_cons_succ, List.getElem?_cons_succ]
        refine x.weak fun k _ _ t => .inl (tb k t) }
theorem m_of {c : Str} {b : DS} {pb : PS} {p m : Nat} (hm : 0 < m) (hb : Ps b pb) : Pm c (fnOf p m b) (pmOf c p m pb) := fun T h a gs o fs ws xs r fs' lt ap nd g d ds e => by
  have E := env_lent hm lt ap nd g d ds
  have y := hb _ T _ _ h _ E
  unfold pmOf at e
  split at e
  · rename_i hp
    have fin : ∀ (O' : List (List Nat)) (s' : Sg) (h' : Sh) (δ' : Dl) (r : P) (w : W), Env ⟨h.length, fun i => i ∈ a :: o, some (.ref a)⟩ T O' s' h' δ' → Keep ((a :: o) :: List.replicate (startP (m - 1) xs).length []) h O' h' → Dn (Tb T O') h' r w → objOf c δ' = some fs' →
        h.length ≤ h'.length ∧ (∀ (i : Nat) (u : SO), i ∉ a :: o → h[i]? = some u → h'[i]? = some u) ∧ ∃ gs' o', h'[a]? = some (.ins c gs') ∧ (a :: o').Nodup ∧ (∀ i ∈ o', i ∈ o ∨ h.length ≤ i) ∧ FsD (Ad T (a :: o')) h' fs' gs' o' ∧ Dn (Ad T (a :: o')) h' r w := fun O' s' h' δ' r w E' k dr eo => by
      refine ⟨k.le, fun i u ni ei => (k.at_ i u ei fun z => ni ?_).1, ?_⟩
      · obtain ⟨l, ml, z⟩ := z
        rcases List.mem_cons.mp ml with q | q
        · rw [q] at z; exact z
        · rw [(List.mem_replicate.mp q).2] at z; cases z
      · unfold objOf at eo
        split at eo
        · rename_i c' f2 q
          split at eo
          · rename_i hc
            subst hc
            cases eo
            obtain ⟨a', gs', o', hoa, nd', hsw, g', d'⟩ := E'.at_obj q
            have me := E'.self _ _ _ q rfl
            rw [me] at hsw
            cases hsw
            have ta : ∀ k, Ad T (a :: o') k → Tb T O' k := fun k t => t.elim .inl fun z => .inr (Ow.of hoa z)
            refine ⟨gs', o', g', nd', fun i hi => ?_, d'.weak ta, dr.weak ta⟩
            rcases (E'.new i (Ow.of hoa (List.mem_cons_of_mem _ hi))).1 with z | z
            · exact .inr z
            · rcases List.mem_cons.mp z with z | z
              · rw [z] at hi; exact absurd hi (List.nodup_cons.mp nd').1
              · exact .inl z
          · cases eo
        · cases eo
    unfold fnOf
    rw [if_pos (by rw [List.length_cons, ds.length]; exact hp)]
    cases e1 : pb (.obj c fs :: startP (m - 1) xs) with
    | nx δ' =>
      rw [e1] at e y
      obtain ⟨O', s', h', c1, E', k⟩ := y
      simp only at e
      cases e2 : objOf c δ' with
      | none => rw [e2] at e; cases e
      | some f2 =>
        rw [e2] at e; cases e
        rw [c1]
        obtain ⟨z1, z2, gs', o', z3⟩ := fin O' s' h' δ' .non .non E' k (by simp only [Dn]) e2
        exact ⟨.non, h', gs', o', rfl, z1, z2, z3⟩
    | rx r2 δ' =>
      rw [e1] at e y
      obtain ⟨w, O', s', h', c1, E', k, dr⟩ := y
      simp only at e
      cases e2 : objOf c δ' with
      | none => rw [e2] at e; cases e
      | some f2 =>
        rw [e2] at e; cases e
        rw [c1]
        obtain ⟨z1, z2, gs', o', z3⟩ := fin O' s' h' δ' _ w E' k dr e2
        exact ⟨w, h', gs', o', rfl, z1, z2, z3⟩
    | er => rw [e1] at e; cases e
    | bk => rw [e1] at e; cases e
    | ct => rw [e1] at e; cases e
    | rt => rw [e1] at e; cases e
    | ro => rw [e1] at e; cases e
  · cases e
end
end HL


set_option Elab.async false
set_option linter.all false
set_option maxRecDepth 100000
set_option maxHeartbeats 4000000
namespace HL
open PySem (Str)
section
variable {n : Lo} {B : Nat → Prop} {O O' : List (List Nat)} {s : Sg} {h h' h2 l : Sh} {δ : Dl} {T : Nat → Prop}
/-! ### fields of an object that a name owns -/
theorem FsD.val {f : Str} {p : P} : ∀ {fs : List (Str × Fv)} {gs : List (Str × W)} {o : List Nat}, FsD T h fs gs o → fs.lookup f = some (.val p) → ∃ w, gs.lookup f = some w ∧ Dn T h p w
  | [], gs, o, x, e => by cases e
  | (g, .val q) :: fs, gs, o, x, e => by
    simp only [FsD] at x
    obtain ⟨u, r, rfl, d, ds⟩ := x
    by_cases z : f = g
    · subst z
      simp only [List.lookup, beq_self_eq_true, Option.some.injEq, Fv.val.injEq] at e ⊢
      subst e; exact ⟨u, rfl, d⟩
    · have zb : (f == g) = false := by simpa using z
      simp only [List.lookup, zb] at e ⊢
      exact FsD.val ds e
  | (g, .own q) :: fs, gs, o, x, e => by
    simp only [FsD] at x
    obtain ⟨a, us, r, o', rfl, _, _, d, ds⟩ := x
    by_cases z : f = g
    · subst z
      simp only [List.lookup, beq_self_eq_true, Option.some.injEq, reduceCtorEq] at e
    · have zb : (f == g) = false := by simpa using z
      simp only [List.lookup, zb] at e ⊢
      exact FsD.val ds e
def putFv (f : Str) (v : Fv) : List (Str × Fv) → List (Str × Fv)
  | [] => [(f, v)]
  | (g, x) :: r => if g = f then (g, v) :: r else (g, x) :: putFv f v r
theorem FsD.own {f : Str} {xs : List P} : ∀ {fs : List (Str × Fv)} {gs : List (Str × W)} {o : List Nat}, FsD T h fs gs o → fs.lookup f = some (.own xs) → ∃ b us, gs.lookup f = some (.ref b) ∧ b ∈ o ∧ h[b]? = some (.lst us) ∧ Dns T h xs us ∧
      ∀ ys vs, Dns T h ys vs → T b → o.Nodup → FsD T (h.set b (.lst vs)) (putFv f (.own ys) fs) gs o
  | [], gs, o, x, e => by cases e
  | (g, .val q) :: fs, gs, o, x, e => by
    simp only [FsD] at x
    obtain ⟨u, r, rfl, d, ds⟩ := x
    by_cases z : f = g
    · subst z
      simp only [List.lookup, beq_self_eq_true, Option.some.injEq, reduceCtorEq] at e
    · have zb : (f == g) = false := by simpa using z
      simp only [List.lookup, zb] at e ⊢
      obtain ⟨b, us, e1, mb, gb, db, k⟩ := FsD.own ds e
      refine ⟨b, us, e1, mb, gb, db, fun ys vs dy tb nd => ?_⟩
      unfold putFv
      rw [if_neg (fun q => z q.symm)]
      simp only [FsD]
      exact ⟨u, r, rfl, Dn.mono (fun i o t e => ⟨set_other e (fun q => t (q ▸ tb)), t⟩) q u d, k ys vs dy tb nd⟩
  | (g, .own q) :: fs, gs, o, x, e => by
    simp only [FsD] at x
    obtain ⟨a, us, r, o', rfl, rfl, ga, d, ds⟩ := x
    by_cases z : f = g
    · subst z
      simp only [List.lookup, beq_self_eq_true, Option.some.injEq, Fv.own.injEq] at e ⊢
      subst e
      refine ⟨a, us, rfl, List.mem_cons_self, ga, d, fun ys vs dy tb nd => ?_⟩
      unfold putFv
      rw [if_pos rfl]
      simp only [FsD]
      have mv : ∀ (i : Nat) (o : SO), ¬ T i → h[i]? = some o → (h.set a (.lst vs))[i]? = some o ∧ ¬ T i := fun i o t e => ⟨set_other e (fun q => t (q ▸ tb)), t⟩
      exact ⟨a, vs, r, o', rfl, rfl, List.getElem?_set_self (List.getElem?_eq_some_iff.mp ga).1, Dns.mono mv ys vs dy, FsD.mv mv fs r o' (fun i hi u e => set_other e (fun q => (List.nodup_cons.mp nd).1 (q ▸ hi))) ds⟩
    · have zb : (f == g) = false := by simpa using z
      simp only [List.lookup, zb] at e ⊢
      obtain ⟨b, us2, e1, mb, gb, db, k⟩ := FsD.own ds e
      refine ⟨b, us2, e1, List.mem_cons_of_mem _ mb, gb, db, fun ys vs dy tb nd => ?_⟩
      unfold putFv
      rw [if_neg (fun q => z q.symm)]
      simp only [FsD]
      have nd' := List.nodup_cons.mp nd
      exact ⟨a, us, r, o', rfl, rfl, set_other ga (fun q => nd'.1 (q ▸ mb)), Dns.mono (fun i o t e => ⟨set_other e (fun q => t (q ▸ tb)), t⟩) q us d, k ys vs dy tb nd'.2⟩
theorem FsD.putOwn {f : Str} {b : Nat} {us : List W} {xs : List P} (gb : h[b]? = some (.lst us)) (dx : Dns T h xs us) : ∀ {fs : List (Str × Fv)} {gs : List (Str × W)} {o : List Nat}, FsD T h fs gs o → b ∉ o → ∃ o', FsD T h (putFv f (.own xs) fs) (putW f (.ref b) gs) o' ∧ (∀ k ∈ o', k ∈ o ∨ k = b) ∧ (o.Nodup → o'.Nodup)
  | [], gs, o, x, nb => by
    simp only [FsD] at x
    obtain ⟨rfl, rfl⟩ := x
    exact ⟨[b], by simp only [putFv, putW, FsD]; exact ⟨b, us, [], [], rfl, rfl, gb, dx, rfl, rfl⟩, fun k hk => .inr (List.mem_singleton.mp hk), fun _ => by simp⟩
  | (g, .val q) :: fs, gs, o, x, nb => by
    simp only [FsD] at x
    obtain ⟨u, r, rfl, d, ds⟩ := x
    unfold putFv putW
    by_cases z : g = f
    · rw [if_pos z, if_pos z]
      exact ⟨b :: o, by simp only [FsD]; exact ⟨b, us, r, o, rfl, rfl, gb, dx, ds⟩, fun k hk => (List.mem_cons.mp hk).elim .inr .inl, fun nd => List.nodup_cons.mpr ⟨nb, nd⟩⟩
    · rw [if_neg z, if_neg z]
      obtain ⟨o', k, sb, nd⟩ := FsD.putOwn gb dx ds nb
      exact ⟨o', by simp only [FsD]; exact ⟨u, _, rfl, d, k⟩, sb, nd⟩
  | (g, .own q) :: fs, gs, o, x, nb => by
    simp only [FsD] at x
    obtain ⟨a, us2, r, o', rfl, rfl, ga, d, ds⟩ := x
    unfold putFv putW
    have nb' : b ∉ o' := fun z => nb (List.mem_cons_of_mem _ z)
    by_cases z : g = f
    · rw [if_pos z, if_pos z]
      exact ⟨b :: o', by simp only [FsD]; exact ⟨b, us, r, o', rfl, rfl, gb, dx, ds⟩, fun k hk => (List.mem_cons.mp hk).elim .inr fun y => .inl (List.mem_cons_of_mem _ y), fun nd => List.nodup_cons.mpr ⟨nb', (List.nodup_cons.mp nd).2⟩⟩
    · rw [if_neg z, if_neg z]
      obtain ⟨o2, k, sb, nd⟩ := FsD.putOwn gb dx ds nb'
      refine ⟨a :: o2, by simp only [FsD]; exact ⟨a, us2, _, o2, rfl, rfl, ga, d, k⟩, fun k hk => ?_, fun nda => ?_⟩
      · rcases List.mem_cons.mp hk with y | y
        · exact .inl (by rw [y]; exact List.mem_cons_self)
        · exact (sb k y).imp (List.mem_cons_of_mem _) id
      · have n2 := List.nodup_cons.mp nda
        refine List.nodup_cons.mpr ⟨fun y => ?_, nd n2.2⟩
        rcases sb a y with y | y
        · exact n2.1 y
        · exact nb (by rw [← y]; exact List.mem_cons_self)
theorem FsD.len : ∀ {fs : List (Str × Fv)} {gs : List (Str × W)} {o : List Nat}, FsD T h fs gs o → gs.length = fs.length
  | [], gs, o, x => by simp only [FsD] at x; rw [x.1]; rfl
  | (g, .val q) :: fs, gs, o, x => by
    simp only [FsD] at x
    obtain ⟨u, r, rfl, d, ds⟩ := x
    rw [List.length_cons, List.length_cons, FsD.len ds]
  | (g, .own q) :: fs, gs, o, x => by
    simp only [FsD] at x
    obtain ⟨a, us, r, o', rfl, rfl, ga, d, ds⟩ := x
    rw [List.length_cons, List.length_cons, FsD.len ds]
/-! o.f read -/
def fldO (cs : List Str) (f : Str) (i : Nat) (δ : Dl) : Option Fv := match δ[i]? with
  | some (.obj c fs) => if cs.contains c = true then fs.lookup f else none
  | _ => none
def pFldO (cs : List Str) (f : Str) (i : Nat) : PE := fun δ => match fldO cs f i δ with
  | some (.val p) => some p
  | _ => none
def pFldB (cs : List Str) (f : Str) (i : Nat) : PE := fun δ => match fldO cs f i δ with
  | some (.val p) => some p
  | some (.own xs) => some (.lst xs)
  | _ => none
theorem fldO_some {cs : List Str} {f : Str} {i : Nat} {v : Fv} (e : fldO cs f i δ = some v) : ∃ c fs, δ[i]? = some (.obj c fs) ∧ cs.contains c = true ∧ fs.lookup f = some v := by
  unfold fldO at e
  split at e
  · rename_i c fs q
    split at e
    · rename_i hc; exact ⟨c, fs, q, hc, e⟩
    · cases e
  · cases e
theorem dFld_at {cs : List Str} {c f : Str} {i a : Nat} {gs : List (Str × W)} {w : W} (hs : s[i]? = some (some (.ref a))) (g : h[a]? = some (.ins c gs)) (hc : cs.contains c = true) (e : gs.lookup f = some w) : dFld cs f (dVar i) s h = .ok w h := by
  unfold dFld dVar
  rw [hs]
  simp only [R.bind, getF, g, hc, if_true, e]
theorem e_fldO {cs : List Str} {f : Str} {i : Nat} : Pe (dFld cs f (dVar i)) (pFldO cs f i) := fun n B O s h δ r E e => by
  unfold pFldO at e
  split at e
  · rename_i p q
    cases e
    obtain ⟨c, fs, q1, hc, q2⟩ := fldO_some q
    obtain ⟨a, gs, o, hoa, nd, hsw, g, d⟩ := E.at_obj q1
    obtain ⟨w, e1, d1⟩ := d.val q2
    exact ⟨w, [], by rw [List.append_nil]; exact dFld_at hsw g hc e1, by rw [List.append_nil]; exact d1⟩
  · cases e
theorem b_fldO {cs : List Str} {f : Str} {i : Nat} : Pb (dFld cs f (dVar i)) (pFldB cs f i) := fun n B O s h δ r E e => by
  unfold pFldB at e
  split at e
  · rename_i p q
    cases e
    exact e_fldO.b n B O s h δ _ E (by unfold pFldO; rw [q])
  · rename_i xs q
    cases e
    obtain ⟨c, fs, q1, hc, q2⟩ := fldO_some q
    obtain ⟨a, gs, o, hoa, nd, hsw, g, d⟩ := E.at_obj q1
    obtain ⟨b, us, e1, mb, gb, db, _⟩ := d.own q2
    exact ⟨.ref b, [], by rw [List.append_nil]; exact dFld_at hsw g hc e1, by rw [List.append_nil]; exact .inr ⟨xs, b, us, rfl, rfl, gb, db⟩⟩
  · cases e
end
end HL


set_option Elab.async false
set_option linter.all false
set_option maxRecDepth 100000
set_option maxHeartbeats 4000000
namespace HL
open PySem (Str)
section
variable {n : Lo} {B : Nat → Prop} {O O' : List (List Nat)} {s : Sg} {h h' h2 l : Sh} {δ : Dl} {T : Nat → Prop}
theorem of_ad {i a : Nat} {o o' : List Nat} (hoa : O[i]? = some (a :: o)) (sub : ∀ k, k ∈ a :: o' → k ∈ a :: o) {k : Nat} (t : Ad (fun k => B k ∨ Ow (O.set i []) k) (a :: o') k) : Tb B O k := by
  rcases t with (t | t) | t
  · exact .inl t
  · exact .inr (mem_set_none t)
  · exact .inr (Ow.of hoa (sub k t))
/-! o.f[k] = e -/
def psSubF (cs : List Str) (f : Str) (i : Nat) (k e : PE) : PS := fun δ => match δ[i]?, e δ, k δ with
  | some (.obj c fs), some v, some (.int j) => if cs.contains c = true then (match fs.lookup f with
    | some (.own xs) => (match ixW xs.length j with
      | some m => .nx (δ.set i (.obj c (putFv f (.own (xs.set m v)) fs)))
      | none => .er)
    | _ => .er) else .er
  | _, _, _ => .er
theorem s_subF {cs : List Str} {f : Str} {i : Nat} {k e : DE} {pk pe : PE} (hk : Pe k pk) (he : Pe e pe) : Ps (sSub (dFld cs f (dVar i)) k e) (psSubF cs f i pk pe) := fun n B O s h δ E => by
  unfold psSubF
  split
  · rename_i c fs v j q ev ek
    split
    · rename_i hc
      split
      · rename_i xs el
        split
        · rename_i m em
          obtain ⟨w, l, c1, d1⟩ := he n B O s h δ v E ev
          have E1 : Env n B O s (h ++ l) δ := E.app
          obtain ⟨u, l2, c2, d2⟩ := hk n B O s (h ++ l) δ _ E1 ek
          have E2 : Env n B O s (h ++ l ++ l2) δ := E1.app
          simp only [Dn] at d2
          subst d2
          obtain ⟨a1, gs1, o1, hoa1, _, hsw1, g1, dd1⟩ := E1.at_obj q
          obtain ⟨a, gs, o, hoa, nd, hsw, g, d⟩ := E2.at_obj q
          have ea : a1 = a := by rw [hsw1] at hsw; cases hsw; rfl
          subst ea
          have eg : gs1 = gs := by
            have := app_at (l := l2) g1
            rw [g] at this; cases this; rfl
          subst eg
          obtain ⟨b, us, eb, mb, gb, db, chg⟩ := d.own el
          have tb : Tb B O b := .inr (Ow.of hoa (List.mem_cons_of_mem _ mb))
          have d' := chg (xs.set m v) (us.set m w) (Dns.set d1.app m db) tb (List.nodup_cons.mp nd).2
          have nb : a1 ≠ b := fun z => (List.nodup_cons.mp nd).1 (z ▸ mb)
          obtain ⟨E', k', _⟩ := E2.obj (h' := (h ++ l ++ l2).set b (.lst (us.set m w))) (o' := o) (gs' := gs1) (fs' := putFv f (.own (xs.set m v)) fs) q hoa hsw (by rw [List.length_set]; exact Nat.le_refl _)
            (fun k u nk ek => set_other ek fun z => nk (z ▸ List.mem_cons_of_mem _ mb)) (set_other g nb.symm) nd (fun k hk => .inl hk) (d'.weak fun k t => of_ad hoa (fun _ z => z) t)
          refine ⟨_, s, _, ?_, E', (Keep.app.trans Keep.app).trans k'⟩
          unfold sSub
          rw [c1]
          simp only [R.bind]
          rw [dFld_at hsw1 g1 hc eb]
          simp only
          rw [c2]
          simp only [gb, db.length, em]
        · trivial
      · trivial
    · trivial
  · trivial
/-! o.f = e -/
def psFldO (cs : List Str) (f : Str) (i : Nat) (e : Dl → Option (List P)) : PS := fun δ => match δ[i]?, e δ with
  | some (.obj c fs), some xs => if cs.contains c = true ∧ fs.length < 1000 then .nx (δ.set i (.obj c (putFv f (.own xs) fs))) else .er
  | _, _ => .er
theorem s_fldO {cs : List Str} {f : Str} {i : Nat} {e : DE} {pe : Dl → Option (List P)} (he : Po e pe) : Ps (sFld cs f (dVar i) e) (psFldO cs f i pe) := fun n B O s h δ E => by
  unfold psFldO
  split
  · rename_i c fs xs q ev
    split
    · rename_i hc
      obtain ⟨b, l, us, c1, ge, gb, db⟩ := he n B O s h δ xs E ev
      have E1 : Env n B O s (h ++ l) δ := E.app
      obtain ⟨a, gs, o, hoa, nd, hsw, g, d⟩ := E1.at_obj q
      have nb : ∀ k, Tb B O k → k ≠ b := fun k t z => by have := Tb.lt E t; omega
      have nob : b ∉ o := fun z => nb b (.inr (Ow.of hoa (List.mem_cons_of_mem _ z))) rfl
      have ab : a ≠ b := nb a (.inr (Ow.of hoa List.mem_cons_self))
      have dB : FsD (fun k => Tb B O k ∨ k = b) (h ++ l) fs gs o := by
        obtain ⟨a0, gs0, o0, hoa0, nd0, hsw0, g0, d0⟩ := E.at_obj q
        rw [hoa0] at hoa; cases hoa
        have := app_at (l := l) g0
        rw [g] at this; cases this
        exact FsD.mv (fun k u t ek => ⟨app_at ek, fun z => z.elim t fun z => by have := (List.getElem?_eq_some_iff.mp ek).1; omega⟩) _ _ _ (fun _ _ _ ek => app_at ek) d0
      obtain ⟨o', d', sb, nd'⟩ := dB.putOwn (f := f) gb db nob
      have ta : Tb B O a := .inr (Ow.of hoa List.mem_cons_self)
      have na : a ∉ o := (List.nodup_cons.mp nd).1
      have na' : a ∉ o' := fun z => (sb a z).elim na ab
      obtain ⟨E', k', _⟩ := E.obj (h' := (h ++ l).set a (.ins c (putW f (.ref b) gs))) (o' := o') (gs' := putW f (.ref b) gs) (fs' := putFv f (.own xs) fs) q hoa hsw (by rw [List.length_set, List.length_append]; omega)
        (fun k u nk ek => set_other (app_at ek) fun z => nk (z ▸ List.mem_cons_self)) (List.getElem?_set_self (List.getElem?_eq_some_iff.mp g).1) (List.nodup_cons.mpr ⟨na', nd' (List.nodup_cons.mp nd).2⟩) (fun k hk => (sb k hk).imp id fun z => by rw [z]; exact ge)
        ((FsD.mv (T' := fun k => Tb B O k ∨ k = b) (fun k u t ek => ⟨set_other ek (fun z => t (.inl (z ▸ ta))), t⟩) _ _ _ (fun x hx u eb => set_other eb fun z => na' (z ▸ hx)) d').weak fun k t => by
          rcases t with (t | t) | t
          · exact .inl (.inl t)
          · exact .inl (.inr (mem_set_none t))
          · rcases List.mem_cons.mp t with z | z
            · rw [z]; exact .inl ta
            · exact (sb k z).imp (fun z => .inr (Ow.of hoa (List.mem_cons_of_mem _ z))) id)
      refine ⟨_, s, _, ?_, E', k'⟩
      unfold sFld dVar
      rw [c1]
      simp only [R.bind, hsw, setF, g, hc.1, d.len, hc.2, and_self, if_true]
    · trivial
  · trivial
/-! a new object for a name -/
def psNewO (i : Nat) (c : Str) (m : PM) (ds : List P) (as : PA) : PS := fun δ => match as δ with
  | some xs => if 0 < i ∧ i < δ.length then (match m [] (xs ++ ds) with
    | some (.non, fs) => .nx (δ.set i (.obj c fs))
    | _ => .er) else .er
  | none => .er
theorem s_newO {c : Str} {f : Fn} {m : PM} {i : Nat} {ds : List P} {vs : List W} {as : DA} {ps : PA} (hm : Pm c f m) (hd : ∀ T h, Dns T h ds vs) (ha : Pa as ps) : Ps (sSet i (dNew c f vs as)) (psNewO i c m ds ps) := fun n B O s h δ E => by
  unfold psNewO
  split
  · rename_i xs ex
    split
    · rename_i hi
      obtain ⟨hi0, hi⟩ := hi
      split
      · rename_i fs em
        obtain ⟨ws, l, c1, d1⟩ := ha n B O s h δ xs E ex
        have E1 : Env n B O s (h ++ l) δ := E.app
        have lt : ∀ k, Tb B O k → k < (h ++ l).length := fun k t => Tb.lt E1 t
        have g0 : ((h ++ l) ++ [SO.ins c []])[(h ++ l).length]? = some (.ins c []) := by rw [List.getElem?_append_right (Nat.le_refl _), Nat.sub_self]; rfl
        have dd : Dns (Ad (Tb B O) [(h ++ l).length]) ((h ++ l) ++ [SO.ins c []]) (xs ++ ds) (ws ++ vs) := by
          refine (Dns.mono (fun k u t ek => ⟨app_at ek, fun z => z.elim t fun z => ?_⟩) xs ws d1).append (hd _ _)
          have := (List.getElem?_eq_some_iff.mp ek).1
          rw [List.mem_singleton.mp z] at this; omega
        obtain ⟨w, h', gs', o', c2, le, fr, g', nd', nw, d', dr⟩ := hm (Tb B O) ((h ++ l) ++ [.ins c []]) (h ++ l).length [] [] [] (ws ++ vs) (xs ++ ds) .non fs (fun k t => by have := lt k t; rw [List.length_append]; omega)
          (fun k hk t => by rw [List.mem_singleton.mp hk] at t; exact absurd (lt _ t) (Nat.lt_irrefl _)) (by simp) g0 (by simp [FsD]) dd em
        simp only [Dn] at dr
        subst dr
        have len2 : ((h ++ l) ++ [SO.ins c []]).length = (h ++ l).length + 1 := by rw [List.length_append]; rfl
        have fresh : ∀ k ∈ (h ++ l).length :: o', (h ++ l).length ≤ k := fun k hk => by
          rcases List.mem_cons.mp hk with z | z
          · omega
          · rcases nw k z with z | z
            · cases z
            · omega
        have nT : ∀ k ∈ (h ++ l).length :: o', ¬ Ow O k := fun k hk t => by have := lt k (.inr t); have := fresh k hk; omega
        have fr' : ∀ (k : Nat) (u : SO), (h ++ l)[k]? = some u → h'[k]? = some u := fun k u ek => fr k u (fun z => by
          rw [List.mem_singleton.mp z] at ek
          have := (List.getElem?_eq_some_iff.mp ek).1; omega) (app_at ek)
        have tb : ∀ k, Tb B (O.set i ((h ++ l).length :: o')) k → Ad (Tb B O) ((h ++ l).length :: o') k := fun k t => t.elim (fun z => .inl (.inl z)) fun z => z.set.elim (fun z => .inl (.inr z)) .inr
        refine ⟨O.set i ((h ++ l).length :: o'), s.set i (some (.ref (h ++ l).length)), h', ?_, ?_, ?_⟩
        · unfold sSet dNew
          rw [c1]
          simp only [R.bind]
          rw [c2]
          simp only [if_true]
        · exact {
            le := Nat.le_trans E1.le (by omega)
            old := E.old
            ls := by rw [List.length_set, List.length_set]; exact E.ls
            lo := by rw [List.length_set, List.length_set]; exact E.lo
            one := one_set E i nT
            new := fun b mb => by
              rcases mb.set with z | z
              · have := E1.new b z; exact ⟨this.1, by omega⟩
              · refine ⟨.inl (Nat.le_trans E1.le (fresh b z)), ?_⟩
                rcases List.mem_cons.mp z with z | z
                · rw [z]; exact (List.getElem?_eq_some_iff.mp g').1
                · exact d'.lt b z
            self := fun c2 f2 w2 e2 m2 => by
              have ne : i ≠ 0 := by omega
              rw [List.getElem?_set_ne ne] at e2 ⊢
              exact E.self c2 f2 w2 e2 m2
            at_ := fun j sl ej => by
              by_cases hj : i = j
              · subst hj
                rw [List.getElem?_set_self hi] at ej
                cases ej
                refine ⟨(h ++ l).length, gs', o', ?_, ?_, ?_, g', d'.weak tb⟩
                · rw [List.getElem?_set_self (by rw [E.lo]; exact hi)]; rfl
                · rw [List.getElem?_set_self (by rw [E.lo]; exact hi)]; exact nd'
                · rw [List.getElem?_set_self (by rw [E.ls]; exact hi)]; rfl
              · rw [List.getElem?_set_ne hj] at ej
                rw [getD_set_ne hj, getL_set_ne hj]
                exact (E1.at_ j sl ej).mv (fun k u t ek => ⟨fr' k u ek, fun z => (tb k z).elim t fun z => by
                  have := fresh k z; have := (List.getElem?_eq_some_iff.mp ek).1; omega⟩) fun b hb u eb => fr' b u eb }
        · exact ⟨Nat.le_trans (Nat.le_trans (by rw [List.length_append]; omega) (Nat.le_of_eq len2.symm)) le, fun k u ek nk => ⟨fr' k u (app_at ek), fun z => z.set.elim nk fun z => by
            have := fresh k z; have := (List.getElem?_eq_some_iff.mp (app_at (l := l) ek)).1; omega⟩⟩
      · trivial
    · trivial
  · trivial
end
end HL


set_option Elab.async false
set_option linter.all false
set_option maxRecDepth 100000
set_option maxHeartbeats 4000000
namespace HL
open PySem (Str)
section
variable {n : Lo} {B : Nat → Prop} {O O' : List (List Nat)} {s : Sg} {h h' h2 l : Sh} {δ : Dl} {T : Nat → Prop}
/-! ### an owned object, looked at -/
def imm : Fv → P
  | .val p => p
  | .own xs => .lst xs
def immF (fs : List (Str × Fv)) : List (Str × P) := fs.map fun x => (x.1, imm x.2)
theorem FsD.look {T' : Nat → Prop} (sub : ∀ k, T' k → T k) : ∀ {fs : List (Str × Fv)} {gs : List (Str × W)} {o : List Nat}, FsD T h fs gs o → (∀ k ∈ o, ¬ T' k) → Dnf T' h (immF fs) gs
  | [], gs, o, x, no => by simp only [FsD] at x; rw [x.1]; simp only [immF, List.map_nil, Dnf]
  | (f, .val p) :: fs, gs, o, x, no => by
    simp only [FsD] at x
    obtain ⟨u, r, rfl, d, y⟩ := x
    simp only [immF, List.map_cons, Dnf]
    exact ⟨u, r, rfl, d.weak sub, FsD.look sub y no⟩
  | (f, .own xs) :: fs, gs, o, x, no => by
    simp only [FsD] at x
    obtain ⟨a, us, r, o', rfl, rfl, g, d, y⟩ := x
    simp only [immF, List.map_cons, Dnf]
    refine ⟨.ref a, r, rfl, ?_, FsD.look sub y fun k hk => no k (List.mem_cons_of_mem _ hk)⟩
    simp only [imm, Dn]
    exact ⟨a, us, rfl, no a List.mem_cons_self, g, d.weak sub⟩
theorem Env.apart (E : Env n B O s h δ) {i : Nat} {m : List Nat} (hoa : O[i]? = some m) : ∀ k ∈ m, ¬ (B k ∨ Ow (O.set i []) k) := fun k hk t => by
  rcases t with t | t
  · have z1 := E.old k t
    rcases (E.new k (Ow.of hoa hk)).1 with z | z
    · omega
    · exact z1.2 z
  · obtain ⟨j, l, hj, ml⟩ := t.at_
    rw [List.getElem?_set] at hj
    split at hj
    · split at hj
      · cases hj; cases ml
      · cases hj
    · rename_i ne; exact ne (E.one i j k _ _ hoa hj hk ml)
theorem Env.look (E : Env n B O s h δ) {i : Nat} {c : Str} {fs : List (Str × Fv)} (q : δ[i]? = some (.obj c fs)) : ∃ a, s[i]? = some (some (.ref a)) ∧ (∃ gs, h[a]? = some (.ins c gs) ∧ (∀ m, fs.lookup m = none → gs.lookup m = none)) ∧ Dn (fun k => B k ∨ Ow (O.set i []) k) h (.ins c (immF fs)) (.ref a) := by
  obtain ⟨a, gs, o, hoa, nd, hsw, g, d⟩ := E.at_obj q
  have ap := E.apart hoa
  refine ⟨a, hsw, ⟨gs, g, fun m e => d.no e⟩, ?_⟩
  simp only [Dn]
  exact ⟨a, gs, rfl, ap a List.mem_cons_self, g, d.look (fun k t => t.imp id mem_set_none) fun k hk => ap k (List.mem_cons_of_mem _ hk)⟩
def pMethB (c nm : Str) (g : PF) (i : Nat) (as : PA) : PE := fun δ => match δ[i]? with
  | some (.obj c' fs) => if c' = c ∧ fs.lookup nm = none then (as δ).bind fun xs => (g (.ins c (immF fs) :: xs)).bind fun r => if flatB r.val then some r.val else none else none
  | _ => none
theorem e_methB {c nm : Str} {tb : List (Str × Fn)} {f : Fn} {g : PF} {i : Nat} {as : DA} {ps : PA} (ht : tb.lookup c = some f) (hg : Pf f g) (ha : Pa as ps) : Pe (dMeth tb nm (dVar i) as) (pMethB c nm g i ps) := fun n B O s h δ r E e => by
  unfold pMethB at e
  split at e
  · rename_i c' fs q
    split at e
    · rename_i hc
      obtain ⟨hc, hl⟩ := hc
      subst hc
      cases e1 : ps δ with
      | none => rw [e1] at e; cases e
      | some xs =>
        rw [e1] at e
        simp only [Option.bind_some] at e
        cases e2 : g (.ins c' (immF fs) :: xs) with
        | none => rw [e2] at e; cases e
        | some rf =>
          rw [e2] at e
          simp only [Option.bind_some] at e
          split at e
          · rename_i fl
            cases e
            obtain ⟨a0, hs0, ⟨gs, g0, no⟩, _⟩ := E.look q
            obtain ⟨ws, l, c1, d1⟩ := ha n B O s h δ xs E e1
            obtain ⟨a, hs, _, dv⟩ := (E.app (l := l)).look q
            have : a0 = a := by rw [hs0] at hs; cases hs; rfl
            subst this
            have d1' := d1.weak (T' := fun k => B k ∨ Ow (O.set i []) k) fun k t => t.imp id mem_set_none
            obtain ⟨w, l2, c2, d2⟩ := hg (fun k => B k ∨ Ow (O.set i []) k) (h ++ l) (.ref a0 :: ws) _ rf (fun k t => Tb.lt (E.app (l := l)) (t.imp id mem_set_none)) (by simp only [Dns]; exact ⟨_, _, rfl, dv, d1'⟩) e2
            refine ⟨w, l ++ l2, ?_, ?_⟩
            · unfold dMeth dVar
              rw [hs0]
              simp only [R.bind, findM, g0, no nm hl, if_true, ht]
              rw [c1]
              simp only
              rw [c2, List.append_assoc]
            · cases rf with
              | v p => exact dn_flat (h := h ++ l ++ l2) fl d2
              | o xs => cases fl
          · cases e
    · cases e
  · cases e
def pCallL (c : Str) (g : PF) (i : Nat) (as : PA) : PE := fun δ => match δ[i]? with
  | some (.obj c' fs) => if c' = c then (as δ).bind fun xs => (g (.ins c (immF fs) :: xs)).bind fun r => if flatB r.val then some r.val else none else none
  | _ => none
theorem e_callL {c : Str} {f : Fn} {g : PF} {i : Nat} {as : DA} {ps : PA} (hg : Pf f g) (ha : Pa as ps) : Pe (dCall f (dCons (dVar i) as)) (pCallL c g i ps) := fun n B O s h δ r E e => by
  unfold pCallL at e
  split at e
  · rename_i c' fs q
    split at e
    · rename_i hc
      subst hc
      cases e1 : ps δ with
      | none => rw [e1] at e; cases e
      | some xs =>
        rw [e1] at e
        simp only [Option.bind_some] at e
        cases e2 : g (.ins c' (immF fs) :: xs) with
        | none => rw [e2] at e; cases e
        | some rf =>
          rw [e2] at e
          simp only [Option.bind_some] at e
          split at e
          · rename_i fl
            cases e
            obtain ⟨ws, l, c1, d1⟩ := ha n B O s h δ xs E e1
            obtain ⟨a, hs, _, dv⟩ := (E.app (l := l)).look q
            have d1' := d1.weak (T' := fun k => B k ∨ Ow (O.set i []) k) fun k t => t.imp id mem_set_none
            obtain ⟨w, l2, c2, d2⟩ := hg (fun k => B k ∨ Ow (O.set i []) k) (h ++ l) (.ref a :: ws) _ rf (fun k t => Tb.lt (E.app (l := l)) (t.imp id mem_set_none)) (by simp only [Dns]; exact ⟨_, _, rfl, dv, d1'⟩) e2
            refine ⟨w, l ++ l2, ?_, ?_⟩
            · unfold dCall dCons dVar
              rw [hs]
              simp only [R.bind]
              rw [c1]
              simp only
              rw [c2, List.append_assoc]
            · cases rf with
              | v p => exact dn_flat (h := h ++ l ++ l2) fl d2
              | o xs => cases fl
          · cases e
    · cases e
  · cases e
def isOwn : Fv → Bool
  | .own _ => true
  | .val _ => false
def shape (fs : List (Str × Fv)) : List Bool := fs.map fun x => isOwn x.2
end
end HL


set_option Elab.async false
set_option linter.all false
set_option maxRecDepth 100000
namespace K53
open HL
open PySem (Str)
def CTab : CT := []
def consts : List SO := []
def b__law_cell : DS := (sSeq (sSet 2 (dOp oAdd (dOp oMul (dC (.int 7919)) (dVar 1)) (dC (.int 11))))
    (sSeq (sIf (dT (dOp oNe (dVar 0) (dB bLst dNil))) (sSeq (sSet 2 (dOp oAdd (dOp oMul (dOp oIx (dVar 0) (dOp oMod (dVar 1) (dB bLen (dCons (dVar 0) dNil)))) (dC (.int 48271))) (dOp oMul (dC (.int 104729)) (dVar 1))))
    (sSet 2 (dOp oAdd (dVar 2) (dOp oMul (dOp oDiv (dVar 1) (dB bLen (dCons (dVar 0) dNil))) (dC (.int 7919)))))) sNx)
    (sSeq (sSet 3 (dOp oMod (dVar 2) (dC (.int 2147483647))))
    (sSeq (sSet 3 (dOp oMod (dOp oMul (dVar 3) (dVar 3)) (dC (.int 2147483629))))
    (sRet (dOp oMod (dOp oAdd (dOp oAdd (dOp oMul (dVar 3) (dVar 3)) (dOp oMul (dC (.int 69621)) (dVar 3))) (dVar 1)) (dC (.int 2147483587))))))))
abbrev f__law_cell : Fn := fnOf 2 4 b__law_cell
def d__law_cell : PS := (psSeq (psSet 2 (pOp qAdd (pOp qMul (pC (.int 7919)) (pVar 1)) (pC (.int 11))))
    (psSeq (psIf (pT (pOp (qEq true) (pVar 0) (pL (pO qLst pNil)))) (psSeq (psSet 2 (pOp qAdd (pOp qMul (pOp qIx (pVar 0) (pOp qMod (pVar 1) (pB qLen (pCons (pVar 0) pNil)))) (pC (.int 48271))) (pOp qMul (pC (.int 104729)) (pVar 1))))
    (psSet 2 (pOp qAdd (pVar 2) (pOp qMul (pOp qDiv (pVar 1) (pB qLen (pCons (pVar 0) pNil))) (pC (.int 7919)))))) psNx)
    (psSeq (psSet 3 (pOp qMod (pVar 2) (pC (.int 2147483647))))
    (psSeq (psSet 3 (pOp qMod (pOp qMul (pVar 3) (pVar 3)) (pC (.int 2147483629))))
    (psRet (pOp qMod (pOp qAdd (pOp qAdd (pOp qMul (pVar 3) (pVar 3)) (pOp qMul (pC (.int 69621)) (pVar 3))) (pVar 1)) (pC (.int 2147483587))))))))
def p__law_cell : PF := pfOf 2 4 d__law_cell
theorem a__law_cell : Pf f__law_cell p__law_cell := f_of (show Ps b__law_cell d__law_cell from (s_seq (s_set 2 (e_op d_add ((e_op d_mul ((e_int _)).b ((e_var 1)).b)).b ((e_int _)).b))
    (s_seq (s_if (t_e ((e_op d_ne ((e_var 0)).b ((e_l (o_lst a_nil))).b)).b) (s_seq (s_set 2 (e_op d_add ((e_op d_mul ((e_op d_ix ((e_var 0)).b ((e_op d_mod ((e_var 1)).b ((e_b d_len (ab_cons ((e_var 0)).b ab_nil))).b)).b)).b ((e_int _)).b)).b ((e_op d_mul ((e_int _)).b ((e_var 1)).b)).b))
    (s_set 2 (e_op d_add ((e_var 2)).b ((e_op d_mul ((e_op d_div ((e_var 1)).b ((e_b d_len (ab_cons ((e_var 0)).b ab_nil))).b)).b ((e_int _)).b)).b))) s_nx)
    (s_seq (s_set 3 (e_op d_mod ((e_var 2)).b ((e_int _)).b))
    (s_seq (s_set 3 (e_op d_mod ((e_op d_mul ((e_var 3)).b ((e_var 3)).b)).b ((e_int _)).b))
    (s_ret (e_op d_mod ((e_op d_add ((e_op d_add ((e_op d_mul ((e_var 3)).b ((e_var 3)).b)).b ((e_op d_mul ((e_int _)).b ((e_var 3)).b)).b)).b ((e_var 1)).b)).b ((e_int _)).b)))))))
def b_is_number : DS := (sRet (dAnd (dB (bIsi CTab) (dCons (dVar 0) (dCons (dC (.ty "int")) dNil))) (dNot (dB (bIsi CTab) (dCons (dVar 0) (dCons (dC (.ty "bool")) dNil))))))
abbrev f_is_number : Fn := fnOf 1 1 b_is_number
def d_is_number : PS := (psRet (pAnd (pB (qIsi CTab) (pCons (pVar 0) (pCons (pC (.ty "int")) pNil))) (pNot (pB (qIsi CTab) (pCons (pVar 0) (pCons (pC (.ty "bool")) pNil))))))
def p_is_number : PF := pfOf 1 1 d_is_number
theorem a_is_number : Pf f_is_number p_is_number := f_of (show Ps b_is_number d_is_number from (s_ret (e_and (e_b d_isi (ab_cons ((e_var 0)).b (ab_cons ((e_ty _)).b ab_nil))) (e_not (e_b d_isi (ab_cons ((e_var 0)).b (ab_cons ((e_ty _)).b ab_nil)))))))
def b_is_within : DS := (sRet (dAnd (dCall f_is_number (dCons (dVar 0) dNil)) (dChain oLe oLe (dVar 1) (dVar 0) (dVar 2))))
abbrev f_is_within : Fn := fnOf 3 3 b_is_within
def d_is_within : PS := (psRet (pAnd (pCall p_is_number (pCons (pVar 0) pNil)) (pChain cLe cLe (pVar 1) (pVar 0) (pVar 2))))
def p_is_within : PF := pfOf 3 3 d_is_within
theorem a_is_within : Pf f_is_within p_is_within := f_of (show Ps b_is_within d_is_within from (s_ret (e_and (e_call a_is_number (a_cons (e_var 0) a_nil)) (e_chain (e_var 1) (e_var 0) (e_var 2)))))
def b_Guesses_init : DS := (sSeq (sIf (tNot (dT (dCall f_is_within (dCons (dVar 1) (dCons (dC (.int 1)) (dCons (dC (.int 16)) dNil)))))) sNever sNx)
    (sFld ["Guesses"] "entries" (dVar 0) (dComp (iRange1 (dVar 1)) 1 [] (gName 0) tTrue (dC .non))))
abbrev f_Guesses_init : Fn := fnOf 2 2 b_Guesses_init
def dm_Guesses_init : PS := (psSeq (psIf (ptNot (pT (pCall p_is_within (pCons (pVar 1) (pCons (pC (.int 1)) (pCons (pC (.int 16)) pNil)))))) psEr psNx)
    (psFldO ["Guesses"] "entries" 0 (pComp (piRange1 (pVar 1)) 1 [] (pgName 0) ptTrue (pC .non))))
def m_Guesses_init : PM := pmOf "Guesses" 2 2 dm_Guesses_init
theorem am_Guesses_init : Pm "Guesses" f_Guesses_init m_Guesses_init := m_of (by decide) (show Ps b_Guesses_init dm_Guesses_init from (s_seq (s_if (t_not (t_e ((e_call a_is_within (a_cons (e_var 1) (a_cons (e_int _) (a_cons (e_int _) a_nil))))).b)) s_er s_nx)
    (s_fldO (o_comp (i_range1 (e_var 1)) (g_name 0) t_true e_non))))
def b_Guesses_slots : DS := (sRet (dB bTuple (dCons (dFld ["Guesses"] "entries" (dVar 0)) dNil)))
abbrev f_Guesses_slots : Fn := fnOf 1 1 b_Guesses_slots
def d_Guesses_slots : PS := (psRet (pB qTuple (pCons (pFld ["Guesses"] "entries" (pVar 0)) pNil)))
def p_Guesses_slots : PF := pfOf 1 1 d_Guesses_slots
theorem a_Guesses_slots : Pf f_Guesses_slots p_Guesses_slots := f_of (show Ps b_Guesses_slots d_Guesses_slots from (s_ret (e_b d_tuple (ab_cons ((e_fld (e_var 0))).b ab_nil))))
def tb_slots : List (Str × Fn) := [("Guesses", f_Guesses_slots)]
def pt_slots : List (Str × PF) := [("Guesses", p_Guesses_slots)]
theorem tbd_slots : TbD tb_slots pt_slots := (TbD.cons a_Guesses_slots TbD.nil)
def b__law_kept : DS := (sSeq (sSet 2 (dMeth tb_slots "slots" (dVar 0) dNil))
    (sSeq (sIf (tOr (tNot (dT (dB (bIsi CTab) (dCons (dVar 2) (dCons (dC (.ty "tuple")) dNil))))) (dT (dOp oNe (dB bList (dCons (dVar 2) dNil)) (dVar 1)))) (sRet (dC (.bl false))) sNx)
    (sSeq (sFor (iSeq (dVar 2)) (gName 3) (sSeq (sIf (tAnd (dT (dOp oIsNot (dVar 3) (dC .non))) (tNot (dT (dB (bIsi CTab) (dCons (dVar 3) (dCons (dC (.ty "tuple")) dNil)))))) (sRet (dC (.bl false))) sNx)
    (sIf (tAnd (dT (dOp oIsNot (dVar 3) (dC .non))) (dT (dOp oNe (dComp (iSeq (dVar 3)) 1 [] (gName 0) (dT (dB (bIsi CTab) (dCons (dVar 0) (dCons (dC (.ty "bool")) dNil)))) (dVar 0)) (dB bLst dNil)))) (sRet (dC (.bl false))) sNx)))
    (sRet (dC (.bl true))))))
abbrev f__law_kept : Fn := fnOf 2 4 b__law_kept
def l1__law_kept : PS := (psSeq (psIf (ptAnd (pT (pOp (qIs true) (pVar 3) (pC .non))) (ptNot (pT (pB (qIsi CTab) (pCons (pVar 3) (pCons (pC (.ty "tuple")) pNil)))))) (psRet (pC (.bl false))) psNx)
    (psIf (ptAnd (pT (pOp (qIs true) (pVar 3) (pC .non))) (pT (pOp (qEq true) (pL (pComp (piSeq (pVar 3)) 1 [] (pgName 0) (pT (pB (qIsi CTab) (pCons (pVar 0) (pCons (pC (.ty "bool")) pNil)))) (pVar 0))) (pL (pO qLst pNil))))) (psRet (pC (.bl false))) psNx))
def d__law_kept : PS := (psSeq (psSet 2 (pMeth pt_slots "slots" (pVar 0) pNil))
    (psSeq (psIf (ptOr (ptNot (pT (pB (qIsi CTab) (pCons (pVar 2) (pCons (pC (.ty "tuple")) pNil))))) (pT (pOp (qEq true) (pB qList (pCons (pVar 2) pNil)) (pVar 1)))) (psRet (pC (.bl false))) psNx)
    (psSeq (psFor (piSeq (pVar 2)) (pgName 3) l1__law_kept)
    (psRet (pC (.bl true))))))
def p__law_kept : PF := pfOf 2 4 d__law_kept
theorem a__law_kept : Pf f__law_kept p__law_kept := f_of (show Ps b__law_kept d__law_kept from (s_seq (s_set 2 (e_meth tbd_slots (e_var 0) a_nil))
    (s_seq (s_if (t_or (t_not (t_e ((e_b d_isi (ab_cons ((e_var 2)).b (ab_cons ((e_ty _)).b ab_nil)))).b)) (t_e ((e_op d_ne ((e_b d_list (ab_cons ((e_var 2)).b ab_nil))).b ((e_var 1)).b)).b)) (s_ret (e_bl _)) s_nx)
    (s_seq (s_for (i_seq (e_var 2)) (g_name 3) (s_seq (s_if (t_and (t_e ((e_op d_isNot ((e_var 3)).b (e_non).b)).b) (t_not (t_e ((e_b d_isi (ab_cons ((e_var 3)).b (ab_cons ((e_ty _)).b ab_nil)))).b))) (s_ret (e_bl _)) s_nx)
    (s_if (t_and (t_e ((e_op d_isNot ((e_var 3)).b (e_non).b)).b) (t_e ((e_op d_ne ((e_l (o_comp (i_seq (e_var 3)) (g_name 0) (t_e ((e_b d_isi (ab_cons ((e_var 0)).b (ab_cons ((e_ty _)).b ab_nil)))).b) (e_var 0)))).b ((e_l (o_lst a_nil))).b)).b)) (s_ret (e_bl _)) s_nx)))
    (s_ret (e_bl _))))))
def b__law_place_by : DS := (sSeq (sSet 1 (dOp oIx (dB bLst (dCons (dOp oMod (dOp oDiv (dVar 0) (dC (.int 4))) (dC (.int 1024))) (dCons (dOp oSub (dC (.int 65536)) (dOp oMod (dOp oDiv (dVar 0) (dC (.int 4))) (dC (.int 3)))) dNil))) (dOp oMod (dOp oDiv (dVar 0) (dC (.int 4096))) (dC (.int 2)))))
    (sRet (dOp oIx (dB bLst (dCons (dOp oMod (dOp oDiv (dVar 0) (dC (.int 4))) (dC (.int 4))) (dCons (dOp oMod (dOp oDiv (dVar 0) (dC (.int 4))) (dC (.int 70))) (dCons (dVar 1) (dCons (dOp oMul (dOp oMod (dOp oDiv (dVar 0) (dC (.int 4))) (dC (.int 3))) (dC (.int 16))) dNil))))) (dOp oMod (dVar 0) (dC (.int 4))))))
abbrev f__law_place_by : Fn := fnOf 1 2 b__law_place_by
def d__law_place_by : PS := (psSeq (psSet 1 (pOp qIx (pL (pO qLst (pCons (pOp qMod (pOp qDiv (pVar 0) (pC (.int 4))) (pC (.int 1024))) (pCons (pOp qSub (pC (.int 65536)) (pOp qMod (pOp qDiv (pVar 0) (pC (.int 4))) (pC (.int 3)))) pNil)))) (pOp qMod (pOp qDiv (pVar 0) (pC (.int 4096))) (pC (.int 2)))))
    (psRet (pOp qIx (pL (pO qLst (pCons (pOp qMod (pOp qDiv (pVar 0) (pC (.int 4))) (pC (.int 4))) (pCons (pOp qMod (pOp qDiv (pVar 0) (pC (.int 4))) (pC (.int 70))) (pCons (pVar 1) (pCons (pOp qMul (pOp qMod (pOp qDiv (pVar 0) (pC (.int 4))) (pC (.int 3))) (pC (.int 16))) pNil)))))) (pOp qMod (pVar 0) (pC (.int 4))))))
def p__law_place_by : PF := pfOf 1 2 d__law_place_by
theorem a__law_place_by : Pf f__law_place_by p__law_place_by := f_of (show Ps b__law_place_by d__law_place_by from (s_seq (s_set 1 (e_op d_ix ((e_l (o_lst (a_cons (e_op d_mod ((e_op d_div ((e_var 0)).b ((e_int _)).b)).b ((e_int _)).b) (a_cons (e_op d_sub ((e_int _)).b ((e_op d_mod ((e_op d_div ((e_var 0)).b ((e_int _)).b)).b ((e_int _)).b)).b) a_nil))))).b ((e_op d_mod ((e_op d_div ((e_var 0)).b ((e_int _)).b)).b ((e_int _)).b)).b))
    (s_ret (e_op d_ix ((e_l (o_lst (a_cons (e_op d_mod ((e_op d_div ((e_var 0)).b ((e_int _)).b)).b ((e_int _)).b) (a_cons (e_op d_mod ((e_op d_div ((e_var 0)).b ((e_int _)).b)).b ((e_int _)).b) (a_cons (e_var 1) (a_cons (e_op d_mul ((e_op d_mod ((e_op d_div ((e_var 0)).b ((e_int _)).b)).b ((e_int _)).b)).b ((e_int _)).b) a_nil))))))).b ((e_op d_mod ((e_var 0)).b ((e_int _)).b)).b))))
def b__law_goal_by : DS := (sRet (dOp oIx (dB bLst (dCons (dOp oAdd (dVar 1) (dC (.int 1))) (dCons (dOp oAdd (dVar 1) (dC (.int 1))) (dCons (dOp oMod (dOp oDiv (dVar 0) (dC (.int 4))) (dC (.int 3))) (dCons (dOp oMod (dOp oDiv (dVar 0) (dC (.int 4))) (dC (.int 1024))) dNil))))) (dOp oMod (dVar 0) (dC (.int 4)))))
abbrev f__law_goal_by : Fn := fnOf 2 2 b__law_goal_by
def d__law_goal_by : PS := (psRet (pOp qIx (pL (pO qLst (pCons (pOp qAdd (pVar 1) (pC (.int 1))) (pCons (pOp qAdd (pVar 1) (pC (.int 1))) (pCons (pOp qMod (pOp qDiv (pVar 0) (pC (.int 4))) (pC (.int 3))) (pCons (pOp qMod (pOp qDiv (pVar 0) (pC (.int 4))) (pC (.int 1024))) pNil)))))) (pOp qMod (pVar 0) (pC (.int 4)))))
def p__law_goal_by : PF := pfOf 2 2 d__law_goal_by
theorem a__law_goal_by : Pf f__law_goal_by p__law_goal_by := f_of (show Ps b__law_goal_by d__law_goal_by from (s_ret (e_op d_ix ((e_l (o_lst (a_cons (e_op d_add ((e_var 1)).b ((e_int _)).b) (a_cons (e_op d_add ((e_var 1)).b ((e_int _)).b) (a_cons (e_op d_mod ((e_op d_div ((e_var 0)).b ((e_int _)).b)).b ((e_int _)).b) (a_cons (e_op d_mod ((e_op d_div ((e_var 0)).b ((e_int _)).b)).b ((e_int _)).b) a_nil))))))).b ((e_op d_mod ((e_var 0)).b ((e_int _)).b)).b)))
def b_Guesses_slot_number : DS := (sRet (dOp oMod (dVar 1) (dB bLen (dCons (dFld ["Guesses"] "entries" (dVar 0)) dNil))))
abbrev f_Guesses_slot_number : Fn := fnOf 2 2 b_Guesses_slot_number
def d_Guesses_slot_number : PS := (psRet (pOp qMod (pVar 1) (pB qLen (pCons (pFld ["Guesses"] "entries" (pVar 0)) pNil))))
def p_Guesses_slot_number : PF := pfOf 2 2 d_Guesses_slot_number
theorem a_Guesses_slot_number : Pf f_Guesses_slot_number p_Guesses_slot_number := f_of (show Ps b_Guesses_slot_number d_Guesses_slot_number from (s_ret (e_op d_mod ((e_var 1)).b ((e_b d_len (ab_cons ((e_fld (e_var 0))).b ab_nil))).b)))
def tb_slot_number : List (Str × Fn) := [("Guesses", f_Guesses_slot_number)]
def pt_slot_number : List (Str × PF) := [("Guesses", p_Guesses_slot_number)]
theorem tbd_slot_number : TbD tb_slot_number pt_slot_number := (TbD.cons a_Guesses_slot_number TbD.nil)
def b_Guesses_guess : DS := (sSeq (sSet 2 (dOp oIx (dFld ["Guesses"] "entries" (dVar 0)) (dMeth tb_slot_number "slot_number" (dVar 0) (dCons (dVar 1) dNil))))
    (sSeq (sIf (tAnd (dT (dOp oIsNot (dVar 2) (dC .non))) (tAnd (dT (dOp oEq (dOp oIx (dVar 2) (dC (.int 0))) (dVar 1))) (dT (dOp oGe (dOp oIx (dVar 2) (dC (.int 2))) (dC (.int 2)))))) (sRet (dOp oIx (dVar 2) (dC (.int 1)))) sNx)
    (sRet (dOp oAdd (dVar 1) (dC (.int 1))))))
abbrev f_Guesses_guess : Fn := fnOf 2 3 b_Guesses_guess
def d_Guesses_guess : PS := (psSeq (psSet 2 (pOp qIx (pFld ["Guesses"] "entries" (pVar 0)) (pMeth pt_slot_number "slot_number" (pVar 0) (pCons (pVar 1) pNil))))
    (psSeq (psIf (ptAnd (pT (pOp (qIs true) (pVar 2) (pC .non))) (ptAnd (pT (pOp (qEq false) (pOp qIx (pVar 2) (pC (.int 0))) (pVar 1))) (pT (pOp qGe (pOp qIx (pVar 2) (pC (.int 2))) (pC (.int 2)))))) (psRet (pOp qIx (pVar 2) (pC (.int 1)))) psNx)
    (psRet (pOp qAdd (pVar 1) (pC (.int 1))))))
def p_Guesses_guess : PF := pfOf 2 3 d_Guesses_guess
theorem a_Guesses_guess : Pf f_Guesses_guess p_Guesses_guess := f_of (show Ps b_Guesses_guess d_Guesses_guess from (s_seq (s_set 2 (e_op d_ix ((e_fld (e_var 0))).b ((e_meth tbd_slot_number (e_var 0) (a_cons (e_var 1) a_nil))).b))
    (s_seq (s_if (t_and (t_e ((e_op d_isNot ((e_var 2)).b (e_non).b)).b) (t_and (t_e ((e_op d_eq ((e_op d_ix ((e_var 2)).b ((e_int _)).b)).b ((e_var 1)).b)).b) (t_e ((e_op d_ge ((e_op d_ix ((e_var 2)).b ((e_int _)).b)).b ((e_int _)).b)).b))) (s_ret (e_op d_ix ((e_var 2)).b ((e_int _)).b)) s_nx)
    (s_ret (e_op d_add ((e_var 1)).b ((e_int _)).b)))))
def tb_guess : List (Str × Fn) := [("Guesses", f_Guesses_guess)]
def b__law_guess : DS := (sSeq (sSet 2 (dOp oIx (dVar 0) (dOp oMod (dVar 1) (dB bLen (dCons (dVar 0) dNil)))))
    (sSeq (sIf (tOr (dT (dOp oIs (dVar 2) (dC .non))) (tOr (dT (dOp oNe (dOp oIx (dVar 2) (dC (.int 0))) (dVar 1))) (dT (dOp oLt (dOp oIx (dVar 2) (dC (.int 2))) (dC (.int 2)))))) (sRet (dOp oAdd (dVar 1) (dC (.int 1)))) sNx)
    (sRet (dOp oIx (dVar 2) (dC (.int 1))))))
abbrev f__law_guess : Fn := fnOf 2 3 b__law_guess
def d__law_guess : PS := (psSeq (psSet 2 (pOp qIx (pVar 0) (pOp qMod (pVar 1) (pB qLen (pCons (pVar 0) pNil)))))
    (psSeq (psIf (ptOr (pT (pOp (qIs false) (pVar 2) (pC .non))) (ptOr (pT (pOp (qEq true) (pOp qIx (pVar 2) (pC (.int 0))) (pVar 1))) (pT (pOp qLt (pOp qIx (pVar 2) (pC (.int 2))) (pC (.int 2)))))) (psRet (pOp qAdd (pVar 1) (pC (.int 1)))) psNx)
    (psRet (pOp qIx (pVar 2) (pC (.int 1))))))
def p__law_guess : PF := pfOf 2 3 d__law_guess
theorem a__law_guess : Pf f__law_guess p__law_guess := f_of (show Ps b__law_guess d__law_guess from (s_seq (s_set 2 (e_op d_ix ((e_var 0)).b ((e_op d_mod ((e_var 1)).b ((e_b d_len (ab_cons ((e_var 0)).b ab_nil))).b)).b))
    (s_seq (s_if (t_or (t_e ((e_op d_is ((e_var 2)).b (e_non).b)).b) (t_or (t_e ((e_op d_ne ((e_op d_ix ((e_var 2)).b ((e_int _)).b)).b ((e_var 1)).b)).b) (t_e ((e_op d_lt ((e_op d_ix ((e_var 2)).b ((e_int _)).b)).b ((e_int _)).b)).b))) (s_ret (e_op d_add ((e_var 1)).b ((e_int _)).b)) s_nx)
    (s_ret (e_op d_ix ((e_var 2)).b ((e_int _)).b)))))
def b_learnt : DS := (sSeq (sSet 3 (dOp oEq (dVar 2) (dOp oAdd (dVar 1) (dC (.int 1)))))
    (sSeq (sIf (tOr (dT (dOp oIs (dVar 0) (dC .non))) (dT (dOp oNe (dOp oIx (dVar 0) (dC (.int 0))) (dVar 1)))) (sRet (dIf (dT (dVar 3)) (dVar 0) (dB bTup (dCons (dVar 1) (dCons (dVar 2) (dCons (dC (.int 2)) dNil)))))) sNx)
    (sSeq (sIf (dT (dOp oEq (dVar 2) (dOp oIx (dVar 0) (dC (.int 1))))) (sRet (dB bTup (dCons (dVar 1) (dCons (dVar 2) (dCons (dB bMin2 (dCons (dOp oAdd (dOp oIx (dVar 0) (dC (.int 2))) (dC (.int 1))) (dCons (dC (.int 3)) dNil))) dNil))))) sNx)
    (sSeq (sIf (dT (dVar 3)) (sRet (dB bTup (dCons (dVar 1) (dCons (dOp oIx (dVar 0) (dC (.int 1))) (dCons (dB bMax2 (dCons (dOp oSub (dOp oIx (dVar 0) (dC (.int 2))) (dC (.int 1))) (dCons (dC (.int 0)) dNil))) dNil))))) sNx)
    (sRet (dB bTup (dCons (dVar 1) (dCons (dVar 2) (dCons (dC (.int 2)) dNil)))))))))
abbrev f_learnt : Fn := fnOf 3 4 b_learnt
def d_learnt : PS := (psSeq (psSet 3 (pOp (qEq false) (pVar 2) (pOp qAdd (pVar 1) (pC (.int 1)))))
    (psSeq (psIf (ptOr (pT (pOp (qIs false) (pVar 0) (pC .non))) (pT (pOp (qEq true) (pOp qIx (pVar 0) (pC (.int 0))) (pVar 1)))) (psRet (pIf (pT (pVar 3)) (pVar 0) (pB qTup (pCons (pVar 1) (pCons (pVar 2) (pCons (pC (.int 2)) pNil)))))) psNx)
    (psSeq (psIf (pT (pOp (qEq false) (pVar 2) (pOp qIx (pVar 0) (pC (.int 1))))) (psRet (pB qTup (pCons (pVar 1) (pCons (pVar 2) (pCons (pB qMin2 (pCons (pOp qAdd (pOp qIx (pVar 0) (pC (.int 2))) (pC (.int 1))) (pCons (pC (.int 3)) pNil))) pNil))))) psNx)
    (psSeq (psIf (pT (pVar 3)) (psRet (pB qTup (pCons (pVar 1) (pCons (pOp qIx (pVar 0) (pC (.int 1))) (pCons (pB qMax2 (pCons (pOp qSub (pOp qIx (pVar 0) (pC (.int 2))) (pC (.int 1))) (pCons (pC (.int 0)) pNil))) pNil))))) psNx)
    (psRet (pB qTup (pCons (pVar 1) (pCons (pVar 2) (pCons (pC (.int 2)) pNil)))))))))
def p_learnt : PF := pfOf 3 4 d_learnt
theorem a_learnt : Pf f_learnt p_learnt := f_of (show Ps b_learnt d_learnt from (s_seq (s_set 3 (e_op d_eq ((e_var 2)).b ((e_op d_add ((e_var 1)).b ((e_int _)).b)).b))
    (s_seq (s_if (t_or (t_e ((e_op d_is ((e_var 0)).b (e_non).b)).b) (t_e ((e_op d_ne ((e_op d_ix ((e_var 0)).b ((e_int _)).b)).b ((e_var 1)).b)).b)) (s_ret (e_if (t_e ((e_var 3)).b) (e_var 0) (e_tup (a_cons (e_var 1) (a_cons (e_var 2) (a_cons (e_int _) a_nil)))))) s_nx)
    (s_seq (s_if (t_e ((e_op d_eq ((e_var 2)).b ((e_op d_ix ((e_var 0)).b ((e_int _)).b)).b)).b) (s_ret (e_tup (a_cons (e_var 1) (a_cons (e_var 2) (a_cons (e_b d_min2 (ab_cons ((e_op d_add ((e_op d_ix ((e_var 0)).b ((e_int _)).b)).b ((e_int _)).b)).b (ab_cons ((e_int _)).b ab_nil))) a_nil))))) s_nx)
    (s_seq (s_if (t_e ((e_var 3)).b) (s_ret (e_tup (a_cons (e_var 1) (a_cons (e_op d_ix ((e_var 0)).b ((e_int _)).b) (a_cons (e_b d_max2 (ab_cons ((e_op d_sub ((e_op d_ix ((e_var 0)).b ((e_int _)).b)).b ((e_int _)).b)).b (ab_cons ((e_int _)).b ab_nil))) a_nil))))) s_nx)
    (s_ret (e_tup (a_cons (e_var 1) (a_cons (e_var 2) (a_cons (e_int _) a_nil))))))))))
def b_Guesses_learn : DS := (sSeq (sSet 3 (dMeth tb_slot_number "slot_number" (dVar 0) (dCons (dVar 1) dNil)))
    (sSub (dFld ["Guesses"] "entries" (dVar 0)) (dVar 3) (dCall f_learnt (dCons (dOp oIx (dFld ["Guesses"] "entries" (dVar 0)) (dVar 3)) (dCons (dVar 1) (dCons (dVar 2) dNil))))))
abbrev f_Guesses_learn : Fn := fnOf 3 4 b_Guesses_learn
def dm_Guesses_learn : PS := (psSeq (psSet 3 (pMethB "Guesses" "slot_number" p_Guesses_slot_number 0 (pCons (pVar 1) pNil)))
    (psSubF ["Guesses"] "entries" 0 (pVar 3) (pCall p_learnt (pCons (pOp qIx (pFldB ["Guesses"] "entries" 0) (pVar 3)) (pCons (pVar 1) (pCons (pVar 2) pNil))))))
def m_Guesses_learn : PM := pmOf "Guesses" 3 4 dm_Guesses_learn
theorem am_Guesses_learn : Pm "Guesses" f_Guesses_learn m_Guesses_learn := m_of (by decide) (show Ps b_Guesses_learn dm_Guesses_learn from (s_seq (s_set 3 (e_methB (f := f_Guesses_slot_number) rfl a_Guesses_slot_number (a_cons (e_var 1) a_nil)))
    (s_subF (e_var 3) (e_call a_learnt (a_cons (e_op d_ix b_fldO ((e_var 3)).b) (a_cons (e_var 1) (a_cons (e_var 2) a_nil)))))))
def tb_learn : List (Str × Fn) := [("Guesses", f_Guesses_learn)]
def b__law_learnt : DS := (sSeq (sSet 3 (dB bList (dCons (dVar 0) dNil)))
    (sSeq (sSet 4 (dOp oMod (dVar 1) (dB bLen (dCons (dVar 0) dNil))))
    (sSeq (sSet 5 (dOp oIx (dVar 0) (dVar 4)))
    (sSeq (sIf (tOr (dT (dOp oIs (dVar 5) (dC .non))) (dT (dOp oNe (dOp oIx (dVar 5) (dC (.int 0))) (dVar 1)))) (sIf (dT (dOp oNe (dVar 2) (dOp oAdd (dVar 1) (dC (.int 1))))) (sSub (dVar 3) (dVar 4) (dB bTup (dCons (dVar 1) (dCons (dVar 2) (dCons (dC (.int 2)) dNil))))) sNx) (sIf (dT (dOp oEq (dOp oIx (dVar 5) (dC (.int 1))) (dVar 2))) (sSub (dVar 3) (dVar 4) (dB bTup (dCons (dVar 1) (dCons (dVar 2) (dCons (dOp oIx (dB bLst (dCons (dC (.int 1)) (dCons (dC (.int 2)) (dCons (dC (.int 3)) (dCons (dC (.int 3)) dNil))))) (dOp oIx (dVar 5) (dC (.int 2)))) dNil))))) (sIf (dT (dOp oEq (dVar 2) (dOp oAdd (dVar 1) (dC (.int 1))))) (sSub (dVar 3) (dVar 4) (dB bTup (dCons (dVar 1) (dCons (dOp oIx (dVar 5) (dC (.int 1))) (dCons (dOp oIx (dB bLst (dCons (dC (.int 0)) (dCons (dC (.int 0)) (dCons (dC (.int 1)) (dCons (dC (.int 2)) dNil))))) (dOp oIx (dVar 5) (dC (.int 2)))) dNil))))) (sSub (dVar 3) (dVar 4) (dB bTup (dCons (dVar 1) (dCons (dVar 2) (dCons (dC (.int 2)) dNil))))))))
    (sRet (dVar 3))))))
abbrev f__law_learnt : Fn := fnOf 3 6 b__law_learnt
def d__law_learnt : PS := (psSeq (psOwn 3 (pO oList (pCons (pVar 0) pNil)))
    (psSeq (psSet 4 (pOp qMod (pVar 1) (pB qLen (pCons (pVar 0) pNil))))
    (psSeq (psSet 5 (pOp qIx (pVar 0) (pVar 4)))
    (psSeq (psIf (ptOr (pT (pOp (qIs false) (pVar 5) (pC .non))) (pT (pOp (qEq true) (pOp qIx (pVar 5) (pC (.int 0))) (pVar 1)))) (psIf (pT (pOp (qEq true) (pVar 2) (pOp qAdd (pVar 1) (pC (.int 1))))) (psSub 3 (pVar 4) (pB qTup (pCons (pVar 1) (pCons (pVar 2) (pCons (pC (.int 2)) pNil))))) psNx) (psIf (pT (pOp (qEq false) (pOp qIx (pVar 5) (pC (.int 1))) (pVar 2))) (psSub 3 (pVar 4) (pB qTup (pCons (pVar 1) (pCons (pVar 2) (pCons (pOp qIx (pL (pO qLst (pCons (pC (.int 1)) (pCons (pC (.int 2)) (pCons (pC (.int 3)) (pCons (pC (.int 3)) pNil)))))) (pOp qIx (pVar 5) (pC (.int 2)))) pNil))))) (psIf (pT (pOp (qEq false) (pVar 2) (pOp qAdd (pVar 1) (pC (.int 1))))) (psSub 3 (pVar 4) (pB qTup (pCons (pVar 1) (pCons (pOp qIx (pVar 5) (pC (.int 1))) (pCons (pOp qIx (pL (pO qLst (pCons (pC (.int 0)) (pCons (pC (.int 0)) (pCons (pC (.int 1)) (pCons (pC (.int 2)) pNil)))))) (pOp qIx (pVar 5) (pC (.int 2)))) pNil))))) (psSub 3 (pVar 4) (pB qTup (pCons (pVar 1) (pCons (pVar 2) (pCons (pC (.int 2)) pNil))))))))
    (psRetV 3)))))
def p__law_learnt : PF := pfOf 3 6 d__law_learnt
theorem a__law_learnt : Pf f__law_learnt p__law_learnt := f_of (show Ps b__law_learnt d__law_learnt from (s_seq (s_own 3 (o_list (ab_cons ((e_var 0)).b ab_nil)))
    (s_seq (s_set 4 (e_op d_mod ((e_var 1)).b ((e_b d_len (ab_cons ((e_var 0)).b ab_nil))).b))
    (s_seq (s_set 5 (e_op d_ix ((e_var 0)).b ((e_var 4)).b))
    (s_seq (s_if (t_or (t_e ((e_op d_is ((e_var 5)).b (e_non).b)).b) (t_e ((e_op d_ne ((e_op d_ix ((e_var 5)).b ((e_int _)).b)).b ((e_var 1)).b)).b)) (s_if (t_e ((e_op d_ne ((e_var 2)).b ((e_op d_add ((e_var 1)).b ((e_int _)).b)).b)).b) (s_sub (e_var 4) (e_tup (a_cons (e_var 1) (a_cons (e_var 2) (a_cons (e_int _) a_nil))))) s_nx) (s_if (t_e ((e_op d_eq ((e_op d_ix ((e_var 5)).b ((e_int _)).b)).b ((e_var 2)).b)).b) (s_sub (e_var 4) (e_tup (a_cons (e_var 1) (a_cons (e_var 2) (a_cons (e_op d_ix ((e_l (o_lst (a_cons (e_int _) (a_cons (e_int _) (a_cons (e_int _) (a_cons (e_int _) a_nil))))))).b ((e_op d_ix ((e_var 5)).b ((e_int _)).b)).b) a_nil))))) (s_if (t_e ((e_op d_eq ((e_var 2)).b ((e_op d_add ((e_var 1)).b ((e_int _)).b)).b)).b) (s_sub (e_var 4) (e_tup (a_cons (e_var 1) (a_cons (e_op d_ix ((e_var 5)).b ((e_int _)).b) (a_cons (e_op d_ix ((e_l (o_lst (a_cons (e_int _) (a_cons (e_int _) (a_cons (e_int _) (a_cons (e_int _) a_nil))))))).b ((e_op d_ix ((e_var 5)).b ((e_int _)).b)).b) a_nil))))) (s_sub (e_var 4) (e_tup (a_cons (e_var 1) (a_cons (e_var 2) (a_cons (e_int _) a_nil))))))))
    (s_retV 3))))))
def b_law : DS := (sSeq (sSet 1 (dOp oAdd (dC (.int 1)) (dOp oMod (dCall f__law_cell (dCons (dVar 0) (dCons (dC (.int 1)) dNil))) (dC (.int 16)))))
    (sSeq (sSet 2 (dNew "Guesses" f_Guesses_init [] (dCons (dVar 1) dNil)))
    (sSeq (sIf (dT (dOp oEq (dOp oMod (dCall f__law_cell (dCons (dVar 0) (dCons (dC (.int 2)) dNil))) (dC (.int 4))) (dC (.int 1)))) (sSeq (sSet 1 (dC (.int 8)))
    (sSet 2 (dNew "Guesses" f_Guesses_init [.int 8] dNil))) sNx)
    (sSeq (sSet 3 (dOp oMul (dB bLst (dCons (dC .non) dNil)) (dVar 1)))
    (sSeq (sIf (tNot (dT (dCall f__law_kept (dCons (dVar 2) (dCons (dVar 3) dNil))))) (sRet (dC (.bl false))) sNx)
    (sSeq (sSet 4 (dC (.int 0)))
    (sSeq (sFor (iRange1 (dOp oAdd (dC (.int 12)) (dOp oMod (dCall f__law_cell (dCons (dVar 0) (dCons (dC (.int 3)) dNil))) (dC (.int 40))))) (gName 5) (sSeq (sSet 6 (dCall f__law_cell (dCons (dVar 0) (dCons (dOp oAdd (dC (.int 10)) (dVar 5)) dNil))))
    (sSeq (sIf (dT (dOp oNe (dOp oMod (dVar 6) (dC (.int 4))) (dC (.int 1)))) (sSet 4 (dCall f__law_place_by (dCons (dOp oDiv (dVar 6) (dC (.int 4))) dNil))) sNx)
    (sSeq (sSet 7 (dCall f__law_goal_by (dCons (dOp oDiv (dVar 6) (dC (.int 64))) (dCons (dVar 4) dNil))))
    (sSeq (sIf (tAnd (dT (dOp oEq (dOp oMod (dOp oDiv (dVar 6) (dC (.int 32))) (dC (.int 8))) (dC (.int 1)))) (dT (dOp oIsNot (dOp oIx (dVar 3) (dOp oMod (dVar 4) (dVar 1))) (dC .non)))) (sSet 7 (dOp oIx (dOp oIx (dVar 3) (dOp oMod (dVar 4) (dVar 1))) (dC (.int 1)))) sNx)
    (sSeq (sIf (tAnd (dT (dOp oEq (dOp oMod (dOp oDiv (dVar 6) (dC (.int 256))) (dC (.int 2))) (dC (.int 1)))) (dT (dOp oNe (dMeth tb_guess "guess" (dVar 2) (dCons (dVar 4) dNil)) (dCall f__law_guess (dCons (dVar 3) (dCons (dVar 4) dNil)))))) (sRet (dC (.bl false))) sNx)
    (sSeq (sDrop (dMeth tb_learn "learn" (dVar 2) (dCons (dVar 4) (dCons (dVar 7) dNil))))
    (sSeq (sSet 3 (dCall f__law_learnt (dCons (dVar 3) (dCons (dVar 4) (dCons (dVar 7) dNil)))))
    (sSeq (sSet 8 (dMeth tb_guess "guess" (dVar 2) (dCons (dVar 4) dNil)))
    (sIf (tOr (dT (dB (bIsi CTab) (dCons (dVar 8) (dCons (dC (.ty "bool")) dNil)))) (tOr (dT (dOp oNe (dVar 8) (dCall f__law_guess (dCons (dVar 3) (dCons (dVar 4) dNil))))) (tNot (dT (dCall f__law_kept (dCons (dVar 2) (dCons (dVar 3) dNil))))))) (sRet (dC (.bl false))) sNx))))))))))
    (sSeq (sFor (iRange1 (dC (.int 40))) (gName 4) (sIf (dT (dOp oNe (dMeth tb_guess "guess" (dVar 2) (dCons (dVar 4) dNil)) (dCall f__law_guess (dCons (dVar 3) (dCons (dVar 4) dNil))))) (sRet (dC (.bl false))) sNx))
    (sRet (dCall f__law_kept (dCons (dVar 2) (dCons (dVar 3) dNil))))))))))))
abbrev f_law : Fn := fnOf 1 9 b_law
def l1_law : PS := (psSeq (psSet 6 (pCall p__law_cell (pCons (pVar 0) (pCons (pOp qAdd (pC (.int 10)) (pVar 5)) pNil))))
    (psSeq (psIf (pT (pOp (qEq true) (pOp qMod (pVar 6) (pC (.int 4))) (pC (.int 1)))) (psSet 4 (pCall p__law_place_by (pCons (pOp qDiv (pVar 6) (pC (.int 4))) pNil))) psNx)
    (psSeq (psSet 7 (pCall p__law_goal_by (pCons (pOp qDiv (pVar 6) (pC (.int 64))) (pCons (pVar 4) pNil))))
    (psSeq (psIf (ptAnd (pT (pOp (qEq false) (pOp qMod (pOp qDiv (pVar 6) (pC (.int 32))) (pC (.int 8))) (pC (.int 1)))) (pT (pOp (qIs true) (pOp qIx (pVar 3) (pOp qMod (pVar 4) (pVar 1))) (pC .non)))) (psSet 7 (pOp qIx (pOp qIx (pVar 3) (pOp qMod (pVar 4) (pVar 1))) (pC (.int 1)))) psNx)
    (psSeq (psIf (ptAnd (pT (pOp (qEq false) (pOp qMod (pOp qDiv (pVar 6) (pC (.int 256))) (pC (.int 2))) (pC (.int 1)))) (pT (pOp (qEq true) (pMethB "Guesses" "guess" p_Guesses_guess 2 (pCons (pVar 4) pNil)) (pCall p__law_guess (pCons (pVar 3) (pCons (pVar 4) pNil)))))) (psRet (pC (.bl false))) psNx)
    (psSeq (psDropX (pLendM "Guesses" "learn" m_Guesses_learn 2 (pCons (pVar 4) (pCons (pVar 7) pNil))))
    (psSeq (psSet 3 (pCall p__law_learnt (pCons (pVar 3) (pCons (pVar 4) (pCons (pVar 7) pNil)))))
    (psSeq (psSet 8 (pMethB "Guesses" "guess" p_Guesses_guess 2 (pCons (pVar 4) pNil)))
    (psIf (ptOr (pT (pB (qIsi CTab) (pCons (pVar 8) (pCons (pC (.ty "bool")) pNil)))) (ptOr (pT (pOp (qEq true) (pVar 8) (pCall p__law_guess (pCons (pVar 3) (pCons (pVar 4) pNil))))) (ptNot (pT (pCallL "Guesses" p__law_kept 2 (pCons (pVar 3) pNil)))))) (psRet (pC (.bl false))) psNx)))))))))
def l2_law : PS := (psIf (pT (pOp (qEq true) (pMethB "Guesses" "guess" p_Guesses_guess 2 (pCons (pVar 4) pNil)) (pCall p__law_guess (pCons (pVar 3) (pCons (pVar 4) pNil))))) (psRet (pC (.bl false))) psNx)
def d_law : PS := (psSeq (psSet 1 (pOp qAdd (pC (.int 1)) (pOp qMod (pCall p__law_cell (pCons (pVar 0) (pCons (pC (.int 1)) pNil))) (pC (.int 16)))))
    (psSeq (psNewO 2 "Guesses" m_Guesses_init [] (pCons (pVar 1) pNil))
    (psSeq (psIf (pT (pOp (qEq false) (pOp qMod (pCall p__law_cell (pCons (pVar 0) (pCons (pC (.int 2)) pNil))) (pC (.int 4))) (pC (.int 1)))) (psSeq (psSet 1 (pC (.int 8)))
    (psNewO 2 "Guesses" m_Guesses_init [.int 8] pNil)) psNx)
    (psSeq (psSet 3 (pOp qMul (pL (pO qLst (pCons (pC .non) pNil))) (pVar 1)))
    (psSeq (psIf (ptNot (pT (pCallL "Guesses" p__law_kept 2 (pCons (pVar 3) pNil)))) (psRet (pC (.bl false))) psNx)
    (psSeq (psSet 4 (pC (.int 0)))
    (psSeq (psFor (piRange1 (pOp qAdd (pC (.int 12)) (pOp qMod (pCall p__law_cell (pCons (pVar 0) (pCons (pC (.int 3)) pNil))) (pC (.int 40))))) (pgName 5) l1_law)
    (psSeq (psFor (piRange1 (pC (.int 40))) (pgName 4) l2_law)
    (psRet (pCallL "Guesses" p__law_kept 2 (pCons (pVar 3) pNil)))))))))))
def p_law : PF := pfOf 1 9 d_law
theorem a_law : Pf f_law p_law := f_of (show Ps b_law d_law from (s_seq (s_set 1 (e_op d_add ((e_int _)).b ((e_op d_mod ((e_call a__law_cell (a_cons (e_var 0) (a_cons (e_int _) a_nil)))).b ((e_int _)).b)).b))
    (s_seq (s_newO am_Guesses_init (fun _ _ => by simp only [Dns]) (a_cons (e_var 1) a_nil))
    (s_seq (s_if (t_e ((e_op d_eq ((e_op d_mod ((e_call a__law_cell (a_cons (e_var 0) (a_cons (e_int _) a_nil)))).b ((e_int _)).b)).b ((e_int _)).b)).b) (s_seq (s_set 1 (e_int _))
    (s_newO am_Guesses_init (fun _ _ => by simp only [Dns]; exact ⟨_, _, rfl, (by simp only [Dn]), rfl⟩) a_nil)) s_nx)
    (s_seq (s_set 3 (e_op d_mul ((e_l (o_lst (a_cons e_non a_nil)))).b ((e_var 1)).b))
    (s_seq (s_if (t_not (t_e ((e_callL a__law_kept (a_cons (e_var 3) a_nil))).b)) (s_ret (e_bl _)) s_nx)
    (s_seq (s_set 4 (e_int _))
    (s_seq (s_for (i_range1 (e_op d_add ((e_int _)).b ((e_op d_mod ((e_call a__law_cell (a_cons (e_var 0) (a_cons (e_int _) a_nil)))).b ((e_int _)).b)).b)) (g_name 5) (s_seq (s_set 6 (e_call a__law_cell (a_cons (e_var 0) (a_cons (e_op d_add ((e_int _)).b ((e_var 5)).b) a_nil))))
    (s_seq (s_if (t_e ((e_op d_ne ((e_op d_mod ((e_var 6)).b ((e_int _)).b)).b ((e_int _)).b)).b) (s_set 4 (e_call a__law_place_by (a_cons (e_op d_div ((e_var 6)).b ((e_int _)).b) a_nil))) s_nx)
    (s_seq (s_set 7 (e_call a__law_goal_by (a_cons (e_op d_div ((e_var 6)).b ((e_int _)).b) (a_cons (e_var 4) a_nil))))
    (s_seq (s_if (t_and (t_e ((e_op d_eq ((e_op d_mod ((e_op d_div ((e_var 6)).b ((e_int _)).b)).b ((e_int _)).b)).b ((e_int _)).b)).b) (t_e ((e_op d_isNot ((e_op d_ix ((e_var 3)).b ((e_op d_mod ((e_var 4)).b ((e_var 1)).b)).b)).b (e_non).b)).b)) (s_set 7 (e_op d_ix ((e_op d_ix ((e_var 3)).b ((e_op d_mod ((e_var 4)).b ((e_var 1)).b)).b)).b ((e_int _)).b)) s_nx)
    (s_seq (s_if (t_and (t_e ((e_op d_eq ((e_op d_mod ((e_op d_div ((e_var 6)).b ((e_int _)).b)).b ((e_int _)).b)).b ((e_int _)).b)).b) (t_e ((e_op d_ne ((e_methB (f := f_Guesses_guess) rfl a_Guesses_guess (a_cons (e_var 4) a_nil))).b ((e_call a__law_guess (a_cons (e_var 3) (a_cons (e_var 4) a_nil)))).b)).b)) (s_ret (e_bl _)) s_nx)
    (s_seq (x_drop (x_lendM (f := f_Guesses_learn) rfl am_Guesses_learn (a_cons (e_var 4) (a_cons (e_var 7) a_nil))))
    (s_seq (s_set 3 (e_call a__law_learnt (a_cons (e_var 3) (a_cons (e_var 4) (a_cons (e_var 7) a_nil)))))
    (s_seq (s_set 8 (e_methB (f := f_Guesses_guess) rfl a_Guesses_guess (a_cons (e_var 4) a_nil)))
    (s_if (t_or (t_e ((e_b d_isi (ab_cons ((e_var 8)).b (ab_cons ((e_ty _)).b ab_nil)))).b) (t_or (t_e ((e_op d_ne ((e_var 8)).b ((e_call a__law_guess (a_cons (e_var 3) (a_cons (e_var 4) a_nil)))).b)).b) (t_not (t_e ((e_callL a__law_kept (a_cons (e_var 3) a_nil))).b)))) (s_ret (e_bl _)) s_nx))))))))))
    (s_seq (s_for (i_range1 (e_int _)) (g_name 4) (s_if (t_e ((e_op d_ne ((e_methB (f := f_Guesses_guess) rfl a_Guesses_guess (a_cons (e_var 4) a_nil))).b ((e_call a__law_guess (a_cons (e_var 3) (a_cons (e_var 4) a_nil)))).b)).b) (s_ret (e_bl _)) s_nx))
    (s_ret (e_callL a__law_kept (a_cons (e_var 3) a_nil))))))))))))
end K53


set_option Elab.async false
set_option linter.all false
set_option maxRecDepth 100000
set_option maxHeartbeats 4000000
namespace K53
open PySem L2
def top (i : Nat) : Stmt := PySem.Challenge.pw_rowmill_k53_guesses_learn.main.body.getD i (.Pass ⟨0, 0, 0, 0⟩)
abbrev s__law_cell : Stmt := top 13
theorem sc__law_cell : FnScope ["_law_script", "_law_k", "_law_cell_here", "_law_more"] ["_law_script", "_law_k"] (defScope s__law_cell) := ⟨rfl, rfl, rfl, by decide +kernel, rfl, by decide +kernel, by decide +kernel⟩
abbrev s_is_number : Stmt := top 4
theorem sc_is_number : FnScope ["thing"] ["thing"] (defScope s_is_number) := ⟨rfl, rfl, rfl, by decide +kernel, rfl, by decide +kernel, by decide +kernel⟩
abbrev s_is_within : Stmt := top 5
theorem sc_is_within : FnScope ["thing", "low", "high"] ["thing", "low", "high"] (defScope s_is_within) := ⟨rfl, rfl, rfl, by decide +kernel, rfl, by decide +kernel, by decide +kernel⟩
abbrev s_Guesses_init : Stmt := inClass (top 11) 0
theorem sc_Guesses_init : FnScope ["self", "size"] ["self", "size"] (defScope s_Guesses_init) := ⟨rfl, rfl, rfl, by decide +kernel, rfl, by decide +kernel, by decide +kernel⟩
abbrev s_Guesses_slots : Stmt := inClass (top 11) 4
theorem sc_Guesses_slots : FnScope ["self"] ["self"] (defScope s_Guesses_slots) := ⟨rfl, rfl, rfl, by decide +kernel, rfl, by decide +kernel, by decide +kernel⟩
abbrev s__law_kept : Stmt := top 18
theorem sc__law_kept : FnScope ["_law_guesses", "_law_slots", "_law_found", "_law_slot"] ["_law_guesses", "_law_slots"] (defScope s__law_kept) := ⟨rfl, rfl, rfl, by decide +kernel, rfl, by decide +kernel, by decide +kernel⟩
abbrev s__law_place_by : Stmt := top 16
theorem sc__law_place_by : FnScope ["_law_cell_here", "_law_far"] ["_law_cell_here"] (defScope s__law_place_by) := ⟨rfl, rfl, rfl, by decide +kernel, rfl, by decide +kernel, by decide +kernel⟩
abbrev s__law_goal_by : Stmt := top 17
theorem sc__law_goal_by : FnScope ["_law_cell_here", "_law_place"] ["_law_cell_here", "_law_place"] (defScope s__law_goal_by) := ⟨rfl, rfl, rfl, by decide +kernel, rfl, by decide +kernel, by decide +kernel⟩
abbrev s_Guesses_slot_number : Stmt := inClass (top 11) 1
theorem sc_Guesses_slot_number : FnScope ["self", "place"] ["self", "place"] (defScope s_Guesses_slot_number) := ⟨rfl, rfl, rfl, by decide +kernel, rfl, by decide +kernel, by decide +kernel⟩
abbrev s_Guesses_guess : Stmt := inClass (top 11) 2
theorem sc_Guesses_guess : FnScope ["self", "place", "slot"] ["self", "place"] (defScope s_Guesses_guess) := ⟨rfl, rfl, rfl, by decide +kernel, rfl, by decide +kernel, by decide +kernel⟩
abbrev s__law_guess : Stmt := top 14
theorem sc__law_guess : FnScope ["_law_slots", "_law_place", "_law_slot"] ["_law_slots", "_law_place"] (defScope s__law_guess) := ⟨rfl, rfl, rfl, by decide +kernel, rfl, by decide +kernel, by decide +kernel⟩
abbrev s_learnt : Stmt := top 10
theorem sc_learnt : FnScope ["slot", "place", "goal", "behind"] ["slot", "place", "goal"] (defScope s_learnt) := ⟨rfl, rfl, rfl, by decide +kernel, rfl, by decide +kernel, by decide +kernel⟩
abbrev s_Guesses_learn : Stmt := inClass (top 11) 3
theorem sc_Guesses_learn : FnScope ["self", "place", "goal", "number"] ["self", "place", "goal"] (defScope s_Guesses_learn) := ⟨rfl, rfl, rfl, by decide +kernel, rfl, by decide +kernel, by decide +kernel⟩
abbrev s__law_learnt : Stmt := top 15
theorem sc__law_learnt : FnScope ["_law_slots", "_law_place", "_law_goal", "_law_found", "_law_at", "_law_slot"] ["_law_slots", "_law_place", "_law_goal"] (defScope s__law_learnt) := ⟨rfl, rfl, rfl, by decide +kernel, rfl, by decide +kernel, by decide +kernel⟩
abbrev s_law : Stmt := top 19
theorem sc_law : FnScope ["_law_script", "_law_size", "_law_guesses", "_law_slots", "_law_place", "_law_k", "_law_more", "_law_goal", "_law_found"] ["_law_script"] (defScope s_law) := ⟨rfl, rfl, rfl, by decide +kernel, rfl, by decide +kernel, by decide +kernel⟩
structure Txt (K : PySem.W.Frag) (γ : Str → Addr) (mg : Str → Option Value) : Prop where
  z_bool : mg "bool" = none
  z_int : mg "int" = none
  z_isinstance : mg "isinstance" = none
  z_len : mg "len" = none
  z_list : mg "list" = none
  z_max : mg "max" = none
  z_min : mg "min" = none
  z_range : mg "range" = none
  z_tuple : mg "tuple" = none
  isi : IsiOk K γ CTab
  cls_Guesses : Cls K (γ "Guesses")
  mk_Guesses : MkC K mg "Guesses" (γ "Guesses")
  fld_entries : FldOk K γ ["Guesses"] "entries"
  c_LEAST_SURE : ∃ u, mg "LEAST_SURE" = some u ∧ RelV (.int 0) u
  c_MOST_SURE : ∃ u, mg "MOST_SURE" = some u ∧ RelV (.int 3) u
  c_NEW_SURE : ∃ u, mg "NEW_SURE" = some u ∧ RelV (.int 2) u
section
variable {P : Program} {w : World} {K : PySem.W.Frag} {mg : Str → Option Value} {base : Heap} {γ : Str → Addr}
theorem ok__law_cell (T : Txt K γ mg)  (F : TopFn K mg "_law_cell" s__law_cell) : Def P w K mg base 1 "_law_cell" ["_law_script", "_law_k"] (spF K γ 2 f__law_cell) := by
  refine F.qdef (k := 0) sc__law_cell rfl rfl (fun _ _ _ _ _ _ us hl => match us, hl with | [_, _], _ => rfl) (bd := b__law_cell) fun f cdv A outer s H E hr => ?_
  unfold b__law_cell
  exact (qs_cons (sset 2 sc__law_cell.nd (b_Add (b_Mult q_int (v 1)) q_int))
    (qs_cons (qs_if (t_NotEq (room64 hr) (v 0) (q_lst qa_nil)) (qs_cons (sset 2 sc__law_cell.nd (b_Add (b_Mult (ix (v 0) (b_Mod (v 1) (f_len rfl T.z_len (qa_cons (v 0) qa_nil)))) q_int) (b_Mult q_int (v 1))))
    (qs_one (sset 2 sc__law_cell.nd (b_Add (v 2) (b_Mult (b_FloorDiv (v 1) (f_len rfl T.z_len (qa_cons (v 0) qa_nil))) q_int))))) qs_nil)
    (qs_cons (sset 3 sc__law_cell.nd (b_Mod (v 2) q_int))
    (qs_cons (sset 3 sc__law_cell.nd (b_Mod (b_Mult (v 3) (v 3)) q_int))
    (qs_one (qs_ret (b_Mod (b_Add (b_Add (b_Mult (v 3) (v 3)) (b_Mult q_int (v 3))) (v 1)) q_int)))))))
theorem ok_is_number (T : Txt K γ mg)  (F : TopFn K mg "is_number" s_is_number) : Def P w K mg base 1 "is_number" ["thing"] (spF K γ 1 f_is_number) := by
  refine F.qdef (k := 0) sc_is_number rfl rfl (fun _ _ _ _ _ _ us hl => match us, hl with | [_], _ => rfl) (bd := b_is_number) fun f cdv A outer s H E hr => ?_
  unfold b_is_number
  exact (qs_one (qs_ret (q_and (f_isi T.isi rfl T.z_isinstance (qa_cons (v 0) (qa_cons (q_ty rfl T.z_int PyProof.Rows.boot_int) qa_nil))) (q_one (q_not (f_isi T.isi rfl T.z_isinstance (qa_cons (v 0) (qa_cons (q_ty rfl T.z_bool PyProof.Rows.boot_bool) qa_nil))))))))
theorem ok_is_within (T : Txt K γ mg) (D_is_number : Def P w K mg base 1 "is_number" ["thing"] (spF K γ 1 f_is_number)) (F : TopFn K mg "is_within" s_is_within) : Def P w K mg base 2 "is_within" ["thing", "low", "high"] (spF K γ 3 f_is_within) := by
  refine F.qdef (k := 1) sc_is_within rfl rfl (fun _ _ _ _ _ _ us hl => match us, hl with | [_, _, _], _ => rfl) (bd := b_is_within) fun f cdv A outer s H E hr => ?_
  unfold b_is_within
  exact (qs_one (qs_ret (q_and (q_call D_is_number (hr.mono (by decide)) (by rfl) (qa_cons (v 0) qa_nil)) (q_one (c_LtE_LtE (v 1) (v 0) (v 2))))))
theorem ok_Guesses_init (T : Txt K γ mg) (D_is_within : Def P w K mg base 2 "is_within" ["thing", "low", "high"] (spF K γ 3 f_is_within)) (F : MethB K (γ "Guesses") "__init__" "Guesses.__init__" s_Guesses_init ["self", "size"]) : MDef P w K mg base 3 (γ "Guesses") "__init__" ["self", "size"] (spF K γ 2 f_Guesses_init) := by
  refine F.qdef (k := 2) sc_Guesses_init rfl rfl (bd := b_Guesses_init) fun f cdv A outer s H E hr => ?_
  unfold b_Guesses_init
  exact (qs_cons (qs_if (qt_not (qt_e (q_call D_is_within (hr.mono (by decide)) (by rfl) (qa_cons (v 1) (qa_cons q_int (qa_cons q_int qa_nil)))))) (qs_one qs_never) qs_nil)
    (qs_one (qs_fld T.fld_entries (v 0) (q_comp (cs := []) (ts := ["number"]) (js := []) (cap_mk _ rfl rfl rfl rfl (by decide +kernel) (by decide +kernel) rfl) rfl rfl (qi_range1 rfl T.z_range (v 1)) (fun _ _ _ => (gn 0 (show List.Nodup (["number"] : List Str) by decide +kernel))) (fun _ _ _ => qts_nil) (fun _ _ _ => q_non)))))
theorem ok_N_Guesses_init (T : Txt K γ mg) (D_is_within : Def P w K mg base 2 "is_within" ["thing", "low", "high"] (spF K γ 3 f_is_within)) (F : MethD K (γ "Guesses") "__init__" "Guesses.__init__" s_Guesses_init ["self", "size"] [.int 8]) : NDef P w K mg base 3 (γ "Guesses") "__init__" ["self", "size"] [.int 8] (spF K γ 2 f_Guesses_init) := by
  refine F.qdef (k := 2) sc_Guesses_init rfl rfl (bd := b_Guesses_init) fun f cdv A outer s H E hr => ?_
  unfold b_Guesses_init
  exact (qs_cons (qs_if (qt_not (qt_e (q_call D_is_within (hr.mono (by decide)) (by rfl) (qa_cons (v 1) (qa_cons q_int (qa_cons q_int qa_nil)))))) (qs_one qs_never) qs_nil)
    (qs_one (qs_fld T.fld_entries (v 0) (q_comp (cs := []) (ts := ["number"]) (js := []) (cap_mk _ rfl rfl rfl rfl (by decide +kernel) (by decide +kernel) rfl) rfl rfl (qi_range1 rfl T.z_range (v 1)) (fun _ _ _ => (gn 0 (show List.Nodup (["number"] : List Str) by decide +kernel))) (fun _ _ _ => qts_nil) (fun _ _ _ => q_non)))))
theorem ok_Guesses_slots (T : Txt K γ mg)  (F : MethB K (γ "Guesses") "slots" "Guesses.slots" s_Guesses_slots ["self"]) : MDef P w K mg base 1 (γ "Guesses") "slots" ["self"] (spF K γ 1 f_Guesses_slots) := by
  refine F.qdef (k := 0) sc_Guesses_slots rfl rfl (bd := b_Guesses_slots) fun f cdv A outer s H E hr => ?_
  unfold b_Guesses_slots
  exact (qs_one (qs_ret (f_tuple rfl T.z_tuple (qa_cons (q_fld T.fld_entries (v 0)) qa_nil))))
theorem ok__law_kept (T : Txt K γ mg) (D_Guesses_slots : MDef P w K mg base 1 (γ "Guesses") "slots" ["self"] (spF K γ 1 f_Guesses_slots)) (F : TopFn K mg "_law_kept" s__law_kept) : Def P w K mg base 2 "_law_kept" ["_law_guesses", "_law_slots"] (spF K γ 2 f__law_kept) := by
  refine F.qdef (k := 1) sc__law_kept rfl rfl (fun _ _ _ _ _ _ us hl => match us, hl with | [_, _], _ => rfl) (bd := b__law_kept) fun f cdv A outer s H E hr => ?_
  unfold b__law_kept
  exact (qs_cons (sset 2 sc__law_kept.nd (q_meth0 (MtOk.cons T.cls_Guesses D_Guesses_slots (hr.mono (by decide)) MtOk.nil) (v 0)))
    (qs_cons (qs_if (qt_w (qw_or (qt_not (qt_e (f_isi T.isi rfl T.z_isinstance (qa_cons (v 2) (qa_cons (q_ty rfl T.z_tuple PyProof.Rows.boot_tuple) qa_nil))))) (qw_or1 (t_NotEq (room64 hr) (f_list rfl T.z_list (qa_cons (v 2) qa_nil)) (v 1))))) (qs_one (qs_ret q_bl)) qs_nil)
    (qs_cons (qs_for PassesOwn.never rfl (qi_seq (v 2)) (gn 3 sc__law_kept.nd) (qs_cons (qs_if (qt_w (qw_and (t_IsNot (v 3) q_non) (qw_and1 (qt_not (qt_e (f_isi T.isi rfl T.z_isinstance (qa_cons (v 3) (qa_cons (q_ty rfl T.z_tuple PyProof.Rows.boot_tuple) qa_nil)))))))) (qs_one (qs_ret q_bl)) qs_nil)
    (qs_one (qs_if (qt_w (qw_and (t_IsNot (v 3) q_non) (qw_and1 (t_NotEq (room64 hr) (q_comp (cs := []) (ts := ["_law_one"]) (js := []) (cap_mk _ rfl rfl rfl rfl (by decide +kernel) (by decide +kernel) rfl) rfl rfl (qi_seq (v 3)) (fun _ _ _ => (gn 0 (show List.Nodup (["_law_one"] : List Str) by decide +kernel))) (fun _ _ _ => (qts_one (qt_e (f_isi T.isi rfl T.z_isinstance (qa_cons (v 0) (qa_cons (q_ty rfl T.z_bool PyProof.Rows.boot_bool) qa_nil)))))) (fun _ _ _ => (v 0))) (q_lst qa_nil))))) (qs_one (qs_ret q_bl)) qs_nil))))
    (qs_one (qs_ret q_bl)))))
theorem ok__law_place_by (T : Txt K γ mg)  (F : TopFn K mg "_law_place_by" s__law_place_by) : Def P w K mg base 1 "_law_place_by" ["_law_cell_here"] (spF K γ 1 f__law_place_by) := by
  refine F.qdef (k := 0) sc__law_place_by rfl rfl (fun _ _ _ _ _ _ us hl => match us, hl with | [_], _ => rfl) (bd := b__law_place_by) fun f cdv A outer s H E hr => ?_
  unfold b__law_place_by
  exact (qs_cons (sset 1 sc__law_place_by.nd (ix (q_lst (qa_cons (b_Mod (b_FloorDiv (v 0) q_int) q_int) (qa_cons (b_Sub q_int (b_Mod (b_FloorDiv (v 0) q_int) q_int)) qa_nil))) (b_Mod (b_FloorDiv (v 0) q_int) q_int)))
    (qs_one (qs_ret (ix (q_lst (qa_cons (b_Mod (b_FloorDiv (v 0) q_int) q_int) (qa_cons (b_Mod (b_FloorDiv (v 0) q_int) q_int) (qa_cons (v 1) (qa_cons (b_Mult (b_Mod (b_FloorDiv (v 0) q_int) q_int) q_int) qa_nil))))) (b_Mod (v 0) q_int)))))
theorem ok__law_goal_by (T : Txt K γ mg)  (F : TopFn K mg "_law_goal_by" s__law_goal_by) : Def P w K mg base 1 "_law_goal_by" ["_law_cell_here", "_law_place"] (spF K γ 2 f__law_goal_by) := by
  refine F.qdef (k := 0) sc__law_goal_by rfl rfl (fun _ _ _ _ _ _ us hl => match us, hl with | [_, _], _ => rfl) (bd := b__law_goal_by) fun f cdv A outer s H E hr => ?_
  unfold b__law_goal_by
  exact (qs_one (qs_ret (ix (q_lst (qa_cons (b_Add (v 1) q_int) (qa_cons (b_Add (v 1) q_int) (qa_cons (b_Mod (b_FloorDiv (v 0) q_int) q_int) (qa_cons (b_Mod (b_FloorDiv (v 0) q_int) q_int) qa_nil))))) (b_Mod (v 0) q_int))))
theorem ok_Guesses_slot_number (T : Txt K γ mg)  (F : MethB K (γ "Guesses") "slot_number" "Guesses.slot_number" s_Guesses_slot_number ["self", "place"]) : MDef P w K mg base 1 (γ "Guesses") "slot_number" ["self", "place"] (spF K γ 2 f_Guesses_slot_number) := by
  refine F.qdef (k := 0) sc_Guesses_slot_number rfl rfl (bd := b_Guesses_slot_number) fun f cdv A outer s H E hr => ?_
  unfold b_Guesses_slot_number
  exact (qs_one (qs_ret (b_Mod (v 1) (f_len rfl T.z_len (qa_cons (q_fld T.fld_entries (v 0)) qa_nil)))))
theorem ok_Guesses_guess (T : Txt K γ mg) (D_Guesses_slot_number : MDef P w K mg base 1 (γ "Guesses") "slot_number" ["self", "place"] (spF K γ 2 f_Guesses_slot_number)) (F : MethB K (γ "Guesses") "guess" "Guesses.guess" s_Guesses_guess ["self", "place"]) : MDef P w K mg base 2 (γ "Guesses") "guess" ["self", "place"] (spF K γ 2 f_Guesses_guess) := by
  refine F.qdef (k := 1) sc_Guesses_guess rfl rfl (bd := b_Guesses_guess) fun f cdv A outer s H E hr => ?_
  unfold b_Guesses_guess
  exact (qs_cons (sset 2 sc_Guesses_guess.nd (ix (q_fld T.fld_entries (v 0)) (q_meth (MtOk.cons T.cls_Guesses D_Guesses_slot_number (hr.mono (by decide)) MtOk.nil) (v 0) (qa_cons (v 1) qa_nil))))
    (qs_cons (qs_if (qt_w (qw_and (t_IsNot (v 2) q_non) (qw_and (t_Eq (room64 hr) (ix (v 2) q_int) (v 1)) (qw_and1 (t_GtE (ix (v 2) q_int) (q_gint (by rfl) T.c_NEW_SURE.choose_spec.1 T.c_NEW_SURE.choose_spec.2)))))) (qs_one (qs_ret (ix (v 2) q_int))) qs_nil)
    (qs_one (qs_ret (b_Add (v 1) q_int)))))
theorem ok__law_guess (T : Txt K γ mg)  (F : TopFn K mg "_law_guess" s__law_guess) : Def P w K mg base 1 "_law_guess" ["_law_slots", "_law_place"] (spF K γ 2 f__law_guess) := by
  refine F.qdef (k := 0) sc__law_guess rfl rfl (fun _ _ _ _ _ _ us hl => match us, hl with | [_, _], _ => rfl) (bd := b__law_guess) fun f cdv A outer s H E hr => ?_
  unfold b__law_guess
  exact (qs_cons (sset 2 sc__law_guess.nd (ix (v 0) (b_Mod (v 1) (f_len rfl T.z_len (qa_cons (v 0) qa_nil)))))
    (qs_cons (qs_if (qt_w (qw_or (t_Is (v 2) q_non) (qw_or (t_NotEq (room64 hr) (ix (v 2) q_int) (v 1)) (qw_or1 (t_Lt (ix (v 2) q_int) q_int))))) (qs_one (qs_ret (b_Add (v 1) q_int))) qs_nil)
    (qs_one (qs_ret (ix (v 2) q_int)))))
theorem ok_learnt (T : Txt K γ mg)  (F : TopFn K mg "learnt" s_learnt) : Def P w K mg base 1 "learnt" ["slot", "place", "goal"] (spF K γ 3 f_learnt) := by
  refine F.qdef (k := 0) sc_learnt rfl rfl (fun _ _ _ _ _ _ us hl => match us, hl with | [_, _, _], _ => rfl) (bd := b_learnt) fun f cdv A outer s H E hr => ?_
  unfold b_learnt
  exact (qs_cons (sset 3 sc_learnt.nd (c_Eq (room64 hr) (v 2) (b_Add (v 1) q_int)))
    (qs_cons (qs_if (qt_w (qw_or (t_Is (v 0) q_non) (qw_or1 (t_NotEq (room64 hr) (ix (v 0) q_int) (v 1))))) (qs_one (qs_ret (q_if (qt_e (v 3)) (v 0) (q_tup (qa_cons (v 1) (qa_cons (v 2) (qa_cons (q_gint (by rfl) T.c_NEW_SURE.choose_spec.1 T.c_NEW_SURE.choose_spec.2) qa_nil))))))) qs_nil)
    (qs_cons (qs_if (t_Eq (room64 hr) (v 2) (ix (v 0) q_int)) (qs_one (qs_ret (q_tup (qa_cons (v 1) (qa_cons (v 2) (qa_cons (f_min rfl rfl T.z_min (qa_cons (b_Add (ix (v 0) q_int) q_int) (qa_cons (q_gint (by rfl) T.c_MOST_SURE.choose_spec.1 T.c_MOST_SURE.choose_spec.2) qa_nil))) qa_nil)))))) qs_nil)
    (qs_cons (qs_if (qt_e (v 3)) (qs_one (qs_ret (q_tup (qa_cons (v 1) (qa_cons (ix (v 0) q_int) (qa_cons (f_max rfl rfl T.z_max (qa_cons (b_Sub (ix (v 0) q_int) q_int) (qa_cons (q_gint (by rfl) T.c_LEAST_SURE.choose_spec.1 T.c_LEAST_SURE.choose_spec.2) qa_nil))) qa_nil)))))) qs_nil)
    (qs_one (qs_ret (q_tup (qa_cons (v 1) (qa_cons (v 2) (qa_cons (q_gint (by rfl) T.c_NEW_SURE.choose_spec.1 T.c_NEW_SURE.choose_spec.2) qa_nil))))))))))
theorem ok_Guesses_learn (T : Txt K γ mg) (D_Guesses_slot_number : MDef P w K mg base 1 (γ "Guesses") "slot_number" ["self", "place"] (spF K γ 2 f_Guesses_slot_number)) (D_learnt : Def P w K mg base 1 "learnt" ["slot", "place", "goal"] (spF K γ 3 f_learnt)) (F : MethB K (γ "Guesses") "learn" "Guesses.learn" s_Guesses_learn ["self", "place", "goal"]) : MDef P w K mg base 2 (γ "Guesses") "learn" ["self", "place", "goal"] (spF K γ 3 f_Guesses_learn) := by
  refine F.qdef (k := 1) sc_Guesses_learn rfl rfl (bd := b_Guesses_learn) fun f cdv A outer s H E hr => ?_
  unfold b_Guesses_learn
  exact (qs_cons (sset 3 sc_Guesses_learn.nd (q_meth (MtOk.cons T.cls_Guesses D_Guesses_slot_number (hr.mono (by decide)) MtOk.nil) (v 0) (qa_cons (v 1) qa_nil)))
    (qs_one (qs_sub (q_call D_learnt (hr.mono (by decide)) (by rfl) (qa_cons (ix (q_fld T.fld_entries (v 0)) (v 3)) (qa_cons (v 1) (qa_cons (v 2) qa_nil)))) (q_fld T.fld_entries (v 0)) (v 3))))
theorem ok__law_learnt (T : Txt K γ mg)  (F : TopFn K mg "_law_learnt" s__law_learnt) : Def P w K mg base 1 "_law_learnt" ["_law_slots", "_law_place", "_law_goal"] (spF K γ 3 f__law_learnt) := by
  refine F.qdef (k := 0) sc__law_learnt rfl rfl (fun _ _ _ _ _ _ us hl => match us, hl with | [_, _, _], _ => rfl) (bd := b__law_learnt) fun f cdv A outer s H E hr => ?_
  unfold b__law_learnt
  exact (qs_cons (sset 3 sc__law_learnt.nd (f_list rfl T.z_list (qa_cons (v 0) qa_nil)))
    (qs_cons (sset 4 sc__law_learnt.nd (b_Mod (v 1) (f_len rfl T.z_len (qa_cons (v 0) qa_nil))))
    (qs_cons (sset 5 sc__law_learnt.nd (ix (v 0) (v 4)))
    (qs_cons (qs_if (qt_w (qw_or (t_Is (v 5) q_non) (qw_or1 (t_NotEq (room64 hr) (ix (v 5) q_int) (v 1))))) (qs_one (qs_if (t_NotEq (room64 hr) (v 2) (b_Add (v 1) q_int)) (qs_one (qs_sub (q_tup (qa_cons (v 1) (qa_cons (v 2) (qa_cons q_int qa_nil)))) (v 3) (v 4))) qs_nil)) (qs_one (qs_if (t_Eq (room64 hr) (ix (v 5) q_int) (v 2)) (qs_one (qs_sub (q_tup (qa_cons (v 1) (qa_cons (v 2) (qa_cons (ix (q_lst (qa_cons q_int (qa_cons q_int (qa_cons q_int (qa_cons q_int qa_nil))))) (ix (v 5) q_int)) qa_nil)))) (v 3) (v 4))) (qs_one (qs_if (t_Eq (room64 hr) (v 2) (b_Add (v 1) q_int)) (qs_one (qs_sub (q_tup (qa_cons (v 1) (qa_cons (ix (v 5) q_int) (qa_cons (ix (q_lst (qa_cons q_int (qa_cons q_int (qa_cons q_int (qa_cons q_int qa_nil))))) (ix (v 5) q_int)) qa_nil)))) (v 3) (v 4))) (qs_one (qs_sub (q_tup (qa_cons (v 1) (qa_cons (v 2) (qa_cons q_int qa_nil)))) (v 3) (v 4))))))))
    (qs_one (qs_ret (v 3)))))))
theorem ok_law (T : Txt K γ mg) {ρ : Nat → Addr} (C : ConsOk K γ ρ consts) (D__law_cell : ∀ base, Def P w K mg base 1 "_law_cell" ["_law_script", "_law_k"] (spF K γ 2 f__law_cell)) (D_Guesses_init : ∀ base, MDef P w K mg base 3 (γ "Guesses") "__init__" ["self", "size"] (spF K γ 2 f_Guesses_init)) (D_N_Guesses_init : ∀ base, NDef P w K mg base 3 (γ "Guesses") "__init__" ["self", "size"] [.int 8] (spF K γ 2 f_Guesses_init)) (D__law_kept : ∀ base, Def P w K mg base 2 "_law_kept" ["_law_guesses", "_law_slots"] (spF K γ 2 f__law_kept)) (D__law_place_by : ∀ base, Def P w K mg base 1 "_law_place_by" ["_law_cell_here"] (spF K γ 1 f__law_place_by)) (D__law_goal_by : ∀ base, Def P w K mg base 1 "_law_goal_by" ["_law_cell_here", "_law_place"] (spF K γ 2 f__law_goal_by)) (D_Guesses_guess : ∀ base, MDef P w K mg base 2 (γ "Guesses") "guess" ["self", "place"] (spF K γ 2 f_Guesses_guess)) (D__law_guess : ∀ base, Def P w K mg base 1 "_law_guess" ["_law_slots", "_law_place"] (spF K γ 2 f__law_guess)) (D_Guesses_learn : ∀ base, MDef P w K mg base 2 (γ "Guesses") "learn" ["self", "place", "goal"] (spF K γ 3 f_Guesses_learn)) (D__law_learnt : ∀ base, Def P w K mg base 1 "_law_learnt" ["_law_slots", "_law_place", "_law_goal"] (spF K γ 3 f__law_learnt)) (F : TopFn K mg "law" s_law) (good : ∀ ns : List Int, ns.length ≤ 63 → ∃ h', f_law [.ref consts.length] (consts ++ [.rol (ns.map HL.W.int)]) = .ok (.bl true) h') : LawR P w K mg 5 := by
  refine F.qlaw (k := 4) (γ := γ) sc_law rfl C (fun _ _ _ _ _ _ us hl => match us, hl with | [_], _ => rfl) (bd := b_law) (fun base f cdv A outer s H E hr => ?_) good
  replace D__law_cell := D__law_cell base
  replace D_Guesses_init := D_Guesses_init base
  replace D_N_Guesses_init := D_N_Guesses_init base
  replace D__law_kept := D__law_kept base
  replace D__law_place_by := D__law_place_by base
  replace D__law_goal_by := D__law_goal_by base
  replace D_Guesses_guess := D_Guesses_guess base
  replace D__law_guess := D__law_guess base
  replace D_Guesses_learn := D_Guesses_learn base
  replace D__law_learnt := D__law_learnt base
  unfold b_law
  exact (qs_cons (sset 1 sc_law.nd (b_Add q_int (b_Mod (q_call D__law_cell (hr.mono (by decide)) (by rfl) (qa_cons (v 0) (qa_cons q_int qa_nil))) q_int)))
    (qs_cons (sset 2 sc_law.nd (q_new (newOk_of T.mk_Guesses D_Guesses_init (hr.mono (by decide))) (by rfl) (qa_cons (v 1) qa_nil)))
    (qs_cons (qs_if (t_Eq (room64 hr) (b_Mod (q_call D__law_cell (hr.mono (by decide)) (by rfl) (qa_cons (v 0) (qa_cons q_int qa_nil))) q_int) q_int) (qs_cons (sset 1 sc_law.nd q_int)
    (qs_one (sset 2 sc_law.nd (q_new0 (newOk_ofD T.mk_Guesses D_N_Guesses_init (hr.mono (by decide)) (fun _ => by simp only [wfs, wf, List.mem_cons, List.not_mem_nil, or_false]; rintro _ rfl; trivial)) (by rfl))))) qs_nil)
    (qs_cons (sset 3 sc_law.nd (b_Mult (q_lst (qa_cons q_non qa_nil)) (v 1)))
    (qs_cons (qs_if (qt_not (qt_e (q_call D__law_kept (hr.mono (by decide)) (by rfl) (qa_cons (v 2) (qa_cons (v 3) qa_nil))))) (qs_one (qs_ret q_bl)) qs_nil)
    (qs_cons (sset 4 sc_law.nd q_int)
    (qs_cons (qs_for PassesOwn.never rfl (qi_range1 rfl T.z_range (b_Add q_int (b_Mod (q_call D__law_cell (hr.mono (by decide)) (by rfl) (qa_cons (v 0) (qa_cons q_int qa_nil))) q_int))) (gn 5 sc_law.nd) (qs_cons (sset 6 sc_law.nd (q_call D__law_cell (hr.mono (by decide)) (by rfl) (qa_cons (v 0) (qa_cons (b_Add q_int (v 5)) qa_nil))))
    (qs_cons (qs_if (t_NotEq (room64 hr) (b_Mod (v 6) q_int) q_int) (qs_one (sset 4 sc_law.nd (q_call D__law_place_by (hr.mono (by decide)) (by rfl) (qa_cons (b_FloorDiv (v 6) q_int) qa_nil)))) qs_nil)
    (qs_cons (sset 7 sc_law.nd (q_call D__law_goal_by (hr.mono (by decide)) (by rfl) (qa_cons (b_FloorDiv (v 6) q_int) (qa_cons (v 4) qa_nil))))
    (qs_cons (qs_if (qt_w (qw_and (t_Eq (room64 hr) (b_Mod (b_FloorDiv (v 6) q_int) q_int) q_int) (qw_and1 (t_IsNot (ix (v 3) (b_Mod (v 4) (v 1))) q_non)))) (qs_one (sset 7 sc_law.nd (ix (ix (v 3) (b_Mod (v 4) (v 1))) q_int))) qs_nil)
    (qs_cons (qs_if (qt_w (qw_and (t_Eq (room64 hr) (b_Mod (b_FloorDiv (v 6) q_int) q_int) q_int) (qw_and1 (t_NotEq (room64 hr) (q_meth (MtOk.cons T.cls_Guesses D_Guesses_guess (hr.mono (by decide)) MtOk.nil) (v 2) (qa_cons (v 4) qa_nil)) (q_call D__law_guess (hr.mono (by decide)) (by rfl) (qa_cons (v 3) (qa_cons (v 4) qa_nil))))))) (qs_one (qs_ret q_bl)) qs_nil)
    (qs_cons (qs_expr (q_meth (MtOk.cons T.cls_Guesses D_Guesses_learn (hr.mono (by decide)) MtOk.nil) (v 2) (qa_cons (v 4) (qa_cons (v 7) qa_nil))))
    (qs_cons (sset 3 sc_law.nd (q_call D__law_learnt (hr.mono (by decide)) (by rfl) (qa_cons (v 3) (qa_cons (v 4) (qa_cons (v 7) qa_nil)))))
    (qs_cons (sset 8 sc_law.nd (q_meth (MtOk.cons T.cls_Guesses D_Guesses_guess (hr.mono (by decide)) MtOk.nil) (v 2) (qa_cons (v 4) qa_nil)))
    (qs_one (qs_if (qt_w (qw_or (qt_e (f_isi T.isi rfl T.z_isinstance (qa_cons (v 8) (qa_cons (q_ty rfl T.z_bool PyProof.Rows.boot_bool) qa_nil)))) (qw_or (t_NotEq (room64 hr) (v 8) (q_call D__law_guess (hr.mono (by decide)) (by rfl) (qa_cons (v 3) (qa_cons (v 4) qa_nil)))) (qw_or1 (qt_not (qt_e (q_call D__law_kept (hr.mono (by decide)) (by rfl) (qa_cons (v 2) (qa_cons (v 3) qa_nil))))))))) (qs_one (qs_ret q_bl)) qs_nil)))))))))))
    (qs_cons (qs_for PassesOwn.never rfl (qi_range1 rfl T.z_range q_int) (gn 4 sc_law.nd) (qs_one (qs_if (t_NotEq (room64 hr) (q_meth (MtOk.cons T.cls_Guesses D_Guesses_guess (hr.mono (by decide)) MtOk.nil) (v 2) (qa_cons (v 4) qa_nil)) (q_call D__law_guess (hr.mono (by decide)) (by rfl) (qa_cons (v 3) (qa_cons (v 4) qa_nil)))) (qs_one (qs_ret q_bl)) qs_nil)))
    (qs_one (qs_ret (q_call D__law_kept (hr.mono (by decide)) (by rfl) (qa_cons (v 2) (qa_cons (v 3) qa_nil)))))))))))))
theorem all (T : Txt K γ mg) {ρ : Nat → Addr} (C : ConsOk K γ ρ consts) (F__law_cell : TopFn K mg "_law_cell" s__law_cell) (F_is_number : TopFn K mg "is_number" s_is_number) (F_is_within : TopFn K mg "is_within" s_is_within) (F_Guesses_init : MethB K (γ "Guesses") "__init__" "Guesses.__init__" s_Guesses_init ["self", "size"]) (F_N_Guesses_init : MethD K (γ "Guesses") "__init__" "Guesses.__init__" s_Guesses_init ["self", "size"] [.int 8]) (F_Guesses_slots : MethB K (γ "Guesses") "slots" "Guesses.slots" s_Guesses_slots ["self"]) (F__law_kept : TopFn K mg "_law_kept" s__law_kept) (F__law_place_by : TopFn K mg "_law_place_by" s__law_place_by) (F__law_goal_by : TopFn K mg "_law_goal_by" s__law_goal_by) (F_Guesses_slot_number : MethB K (γ "Guesses") "slot_number" "Guesses.slot_number" s_Guesses_slot_number ["self", "place"]) (F_Guesses_guess : MethB K (γ "Guesses") "guess" "Guesses.guess" s_Guesses_guess ["self", "place"]) (F__law_guess : TopFn K mg "_law_guess" s__law_guess) (F_learnt : TopFn K mg "learnt" s_learnt) (F_Guesses_learn : MethB K (γ "Guesses") "learn" "Guesses.learn" s_Guesses_learn ["self", "place", "goal"]) (F__law_learnt : TopFn K mg "_law_learnt" s__law_learnt) (F_law : TopFn K mg "law" s_law) (good : ∀ ns : List Int, ns.length ≤ 63 → ∃ h', f_law [.ref consts.length] (consts ++ [.rol (ns.map HL.W.int)]) = .ok (.bl true) h') : LawR P w K mg 5 := by
  have D__law_cell : ∀ base, Def P w K mg base 1 "_law_cell" ["_law_script", "_law_k"] (spF K γ 2 f__law_cell) := fun base => ok__law_cell T  F__law_cell
  have D_is_number : ∀ base, Def P w K mg base 1 "is_number" ["thing"] (spF K γ 1 f_is_number) := fun base => ok_is_number T  F_is_number
  have D_is_within : ∀ base, Def P w K mg base 2 "is_within" ["thing", "low", "high"] (spF K γ 3 f_is_within) := fun base => ok_is_within T (D_is_number base) F_is_within
  have D_Guesses_init : ∀ base, MDef P w K mg base 3 (γ "Guesses") "__init__" ["self", "size"] (spF K γ 2 f_Guesses_init) := fun base => ok_Guesses_init T (D_is_within base) F_Guesses_init
  have D_N_Guesses_init : ∀ base, NDef P w K mg base 3 (γ "Guesses") "__init__" ["self", "size"] [.int 8] (spF K γ 2 f_Guesses_init) := fun base => ok_N_Guesses_init T (D_is_within base) F_N_Guesses_init
  have D_Guesses_slots : ∀ base, MDef P w K mg base 1 (γ "Guesses") "slots" ["self"] (spF K γ 1 f_Guesses_slots) := fun base => ok_Guesses_slots T  F_Guesses_slots
  have D__law_kept : ∀ base, Def P w K mg base 2 "_law_kept" ["_law_guesses", "_law_slots"] (spF K γ 2 f__law_kept) := fun base => ok__law_kept T (D_Guesses_slots base) F__law_kept
  have D__law_place_by : ∀ base, Def P w K mg base 1 "_law_place_by" ["_law_cell_here"] (spF K γ 1 f__law_place_by) := fun base => ok__law_place_by T  F__law_place_by
  have D__law_goal_by : ∀ base, Def P w K mg base 1 "_law_goal_by" ["_law_cell_here", "_law_place"] (spF K γ 2 f__law_goal_by) := fun base => ok__law_goal_by T  F__law_goal_by
  have D_Guesses_slot_number : ∀ base, MDef P w K mg base 1 (γ "Guesses") "slot_number" ["self", "place"] (spF K γ 2 f_Guesses_slot_number) := fun base => ok_Guesses_slot_number T  F_Guesses_slot_number
  have D_Guesses_guess : ∀ base, MDef P w K mg base 2 (γ "Guesses") "guess" ["self", "place"] (spF K γ 2 f_Guesses_guess) := fun base => ok_Guesses_guess T (D_Guesses_slot_number base) F_Guesses_guess
  have D__law_guess : ∀ base, Def P w K mg base 1 "_law_guess" ["_law_slots", "_law_place"] (spF K γ 2 f__law_guess) := fun base => ok__law_guess T  F__law_guess
  have D_learnt : ∀ base, Def P w K mg base 1 "learnt" ["slot", "place", "goal"] (spF K γ 3 f_learnt) := fun base => ok_learnt T  F_learnt
  have D_Guesses_learn : ∀ base, MDef P w K mg base 2 (γ "Guesses") "learn" ["self", "place", "goal"] (spF K γ 3 f_Guesses_learn) := fun base => ok_Guesses_learn T (D_Guesses_slot_number base) (D_learnt base) F_Guesses_learn
  have D__law_learnt : ∀ base, Def P w K mg base 1 "_law_learnt" ["_law_slots", "_law_place", "_law_goal"] (spF K γ 3 f__law_learnt) := fun base => ok__law_learnt T  F__law_learnt
  exact ok_law T C D__law_cell D_Guesses_init D_N_Guesses_init D__law_kept D__law_place_by D__law_goal_by D_Guesses_guess D__law_guess D_Guesses_learn D__law_learnt F_law good
end
end K53


set_option Elab.async false
set_option linter.all false
set_option maxRecDepth 100000
set_option maxHeartbeats 4000000
namespace K53
open HL
local macro_rules | `(tactic| simp! only [$ls,*]) => `(tactic| simp only [pfOf, startP, psSeq, psSet, psIf, psRet, psRetN, psNx, psBk, psCt, psEr, psOwn, psRetO, psRetV, psDrop, psFrz, frz, psSub, psApp, psSetG, psFor, pOp, pUn, pVar, pBor, pC, pT, ptNot, ptAnd, ptOr, ptTrue, pAnd, pOr, pNot, pIf, pChain, pB, pO, pL, pNil, pCons, pCall, pCallB, pCallO, pOpO, pSl, pNoPart, pPart, pComp, capP, piSeq, piRange1, piRange2, pgName, pgTup, setAllP, RF.val, qLst, qTup, LIM, seqP_lst, seqP_rol, seqP_tup, lstP_lst, lstP_rol, truP_non, truP_bl, truP_int, truP_lst, truP_rol, truP_tup, blP_bl, List.isEmpty_cons, List.isEmpty_nil, qMul_int, qAdd_int, qSub_int, qMod_int, qDiv_int, qLt_int, qLe_int, qGt_int, qGe_int, qEq_int, qEq_str, qIx_lst, qIx_rol, qIx_tup, qLen_rol, qLen_lst, qLen_tup, List.map_cons, List.map_nil, List.length_cons, List.length_nil, List.getElem?_cons_zero, List.getElem?_cons_succ, List.getElem?_nil, List.set_cons_zero, List.set_cons_succ, List.replicate, List.cons_append, List.nil_append, List.append_nil, Option.bind_some, Option.map_some, Option.bind_none, Option.map_none, Option.getD_some, if_true, if_false, Nat.reduceSub, Nat.reduceAdd, Nat.reduceLeDiff, Nat.reduceLT, Int.reduceLT, Int.reduceLE, Bool.not_true, Bool.not_false, Bool.false_eq_true, bne_self_eq_false, Bool.bne_true, Bool.bne_false, Bool.true_bne, Bool.false_bne, decide_eq_true_eq, reduceIte, reduceCtorEq, atP_0, atP_1, atP_2, atP_3, atP_4, atP_5, atP_6, atP_7, atP_8, atP_9, atP_10, atP_11, $ls,*])
open PySem (Str)
theorem cell_ok (ns : List Int) (k : Int) (hl : ns.length ≤ 63) (h0 : 0 ≤ k) (h1 : k ≤ 100000000) : p__law_cell [.rol (ns.map .int), .int k] = some (.v (.int (cellV ns k))) := by
  have c1 : ∀ x : Int, mulOk 7919 x = true := fun x => mulOk_l (by decide)
  have c2 : ∀ x : Int, mulOk x 48271 = true := fun x => mulOk_r (by decide)
  have c3 : ∀ x : Int, mulOk 104729 x = true := fun x => mulOk_l (by decide)
  have c4 : ∀ x : Int, mulOk x 7919 = true := fun x => mulOk_r (by decide)
  have c5 : ∀ x : Int, mulOk 69621 x = true := fun x => mulOk_l (by decide)
  have c6 : ∀ x : Int, mulOk (x % 2147483647) (x % 2147483647) = true := fun x => mulOk_l (by omega)
  have c7 : ∀ x : Int, mulOk (x % 2147483629) (x % 2147483629) = true := fun x => mulOk_l (by omega)
  by_cases hn : ns = []
  · subst hn
    have q0 := qEq_scr true []
    simp only [List.map_nil, decide_true] at q0
    simp! only [p__law_cell, d__law_cell, c1, c2, c3, c4, c5, c6, c7, q0, decide_true, bne_self_eq_false]
    simp only [cellV, mixV, if_true]
  · have hp : 0 < ns.length := List.length_pos_iff.mpr hn
    have hp' : (0 : Int) < (ns.length : Int) := by omega
    have hp2 : (ns.length : Int) < 1073741824 := by omega
    have hm0 : 0 ≤ k % (ns.length : Int) := Int.emod_nonneg _ (by omega)
    have hm1 : k % (ns.length : Int) < ns.length := Int.emod_lt_of_pos _ (by omega)
    simp! only [p__law_cell, d__law_cell, c1, c2, c3, c4, c5, c6, c7, qEq_scr, hn, List.length_map, hp', hp2, atP_ints _ _ hm0 hm1, decide_false]
    simp only [cellV, mixV, hn, if_false]

/-! slots and what is learnt -/
def slotP : Option (Int × Int × Int) → P
  | none => .non
  | some (a, b, c) => .tup [.int a, .int b, .int c]
def learntV (sl : Option (Int × Int × Int)) (place goal : Int) : Option (Int × Int × Int) := match sl with
  | none => if goal = place + 1 then none else some (place, goal, 2)
  | some (a, b, c) => if a = place then (if goal = b then some (place, goal, if 3 < c + 1 then 3 else c + 1) else if goal = place + 1 then some (place, b, if 0 > c - 1 then 0 else c - 1) else some (place, goal, 2)) else (if goal = place + 1 then some (a, b, c) else some (place, goal, 2))
theorem learnt_ok (sl : Option (Int × Int × Int)) (place goal : Int) : p_learnt [slotP sl, .int place, .int goal] = some (.v (slotP (learntV sl place goal))) := by
  have n1 : ∀ xs, qIs false (.tup xs) .non = some (.bl false) := fun _ => rfl
  have n2 : qIs false .non .non = some (.bl true) := rfl
  cases sl with
  | none =>
    by_cases hb : goal = place + 1
    · simp! only [p_learnt, d_learnt, slotP, n2, hb, decide_true, learntV]
    · simp! only [p_learnt, d_learnt, slotP, n2, hb, decide_false, learntV]
  | some x =>
    obtain ⟨a, b, c⟩ := x
    by_cases ha : a = place
    · by_cases hg : goal = b
      · simp! only [p_learnt, d_learnt, slotP, n1, ha, hg, decide_true, bne_self_eq_false, learntV, qMin2]
      · by_cases hb : goal = place + 1
        · have hg' : ¬ (place + 1 = b) := fun z => hg (hb.trans z)
          simp! only [p_learnt, d_learnt, slotP, n1, ha, hg', hb, decide_true, decide_false, bne_self_eq_false, learntV, qMax2]
        · simp! only [p_learnt, d_learnt, slotP, n1, ha, hg, hb, decide_true, decide_false, bne_self_eq_false, learntV]
    · by_cases hb : goal = place + 1
      · simp! only [p_learnt, d_learnt, slotP, n1, ha, hb, decide_true, decide_false, learntV, Bool.true_bne, Bool.not_false]
      · simp! only [p_learnt, d_learnt, slotP, n1, ha, hb, decide_false, learntV, Bool.true_bne, Bool.not_false]
def objP (sls : List (Option (Int × Int × Int))) : P := .ins "Guesses" [("entries", .lst (sls.map slotP))]
theorem slot_number_ok (sls : List (Option (Int × Int × Int))) (place : Int) (h : 0 < sls.length) : p_Guesses_slot_number [objP sls, .int place] = some (.v (.int (place % (sls.length : Int)))) := by
  have hp : (0 : Int) < (sls.length : Int) := by omega
  have q1 : qFld ["Guesses"] "entries" (objP sls) = some (.lst (sls.map slotP)) := rfl
  simp! only [p_Guesses_slot_number, d_Guesses_slot_number, pFld, q1, List.length_map, hp]
def slotAt (sls : List (Option (Int × Int × Int))) (place : Int) : Nat := (place % (sls.length : Int)).toNat
def guessV (sls : List (Option (Int × Int × Int))) (place : Int) : Int := match sls.getD (slotAt sls place) none with
  | none => place + 1
  | some (a, b, c) => if a = place ∧ 2 ≤ c then b else place + 1
theorem atP_slots (sls : List (Option (Int × Int × Int))) (place : Int) (h : 0 < sls.length) : atP (sls.map slotP) (place % (sls.length : Int)) = some (slotP (sls.getD (slotAt sls place) none)) := by
  have h0 : 0 ≤ place % (sls.length : Int) := Int.emod_nonneg _ (by omega)
  have h1 : place % (sls.length : Int) < sls.length := Int.emod_lt_of_pos _ (by omega)
  unfold atP ixW slotAt
  rw [List.length_map, if_pos h0, if_pos h1]
  have h2 : (place % (sls.length : Int)).toNat < sls.length := by omega
  simp only [Option.bind_some, List.getElem?_map, List.getElem?_eq_getElem h2, Option.map_some, List.getD_eq_getElem?_getD, Option.getD_some]
theorem guess_ok (sls : List (Option (Int × Int × Int))) (place : Int) (h : 0 < sls.length) : p_Guesses_guess [objP sls, .int place] = some (.v (.int (guessV sls place))) := by
  have q1 : qFld ["Guesses"] "entries" (objP sls) = some (.lst (sls.map slotP)) := rfl
  have q2 : qMt pt_slot_number "slot_number" (objP sls) = some p_Guesses_slot_number := rfl
  have q3 := slot_number_ok sls place h
  have q4 := atP_slots sls place h
  have n1 : ∀ xs, qIs true (.tup xs) .non = some (.bl true) := fun _ => rfl
  have n2 : qIs true .non .non = some (.bl false) := rfl
  cases hs : sls.getD (slotAt sls place) none with
  | none =>
    rw [hs] at q4
    simp! only [p_Guesses_guess, d_Guesses_guess, pFld, pMeth, q1, q2, q3, q4, slotP, n2, Option.map_some, guessV, hs]
  | some x =>
    obtain ⟨a, b, c⟩ := x
    rw [hs] at q4
    by_cases ha : a = place
    · by_cases hc : 2 ≤ c
      · simp! only [p_Guesses_guess, d_Guesses_guess, pFld, pMeth, q1, q2, q3, q4, slotP, n1, Option.map_some, guessV, hs, ha, hc, decide_true, and_self]
      · simp! only [p_Guesses_guess, d_Guesses_guess, pFld, pMeth, q1, q2, q3, q4, slotP, n1, Option.map_some, guessV, hs, ha, hc, decide_true, decide_false, and_false]
    · simp! only [p_Guesses_guess, d_Guesses_guess, pFld, pMeth, q1, q2, q3, q4, slotP, n1, Option.map_some, guessV, hs, ha, decide_false, false_and]
def objF (sls : List (Option (Int × Int × Int))) : List (Str × Fv) := [("entries", .own (sls.map slotP))]
theorem learn_ok (sls : List (Option (Int × Int × Int))) (place goal : Int) (h : 0 < sls.length) : m_Guesses_learn (objF sls) [.int place, .int goal] = some (.non, objF (sls.set (slotAt sls place) (learntV (sls.getD (slotAt sls place) none) place goal))) := by
  have q3 := slot_number_ok sls place h
  have q4 := atP_slots sls place h
  have q5 := learnt_ok (sls.getD (slotAt sls place) none) place goal
  have i1 : immF (objF sls) = [(("entries" : Str), P.lst (sls.map slotP))] := rfl
  have l1 : (objF sls).lookup ("slot_number" : Str) = none := rfl
  have l2 : (objF sls).lookup ("entries" : Str) = some (.own (sls.map slotP)) := rfl
  have h0 : 0 ≤ place % (sls.length : Int) := Int.emod_nonneg _ (by omega)
  have h1 : place % (sls.length : Int) < sls.length := Int.emod_lt_of_pos _ (by omega)
  have ix : ixW sls.length (place % (sls.length : Int)) = some (slotAt sls place) := by unfold ixW slotAt; rw [if_pos h0, if_pos h1]
  have f1 : ∀ i, flatB (.int i) = true := fun _ => rfl
  have c1 : (["Guesses"] : List Str).contains "Guesses" = true := rfl
  have pu : ∀ v, putFv "entries" v (objF sls) = [(("entries" : Str), v)] := fun _ => rfl
  rw [show objP sls = .ins "Guesses" [("entries", .lst (sls.map slotP))] from rfl] at q3
  simp! only [m_Guesses_learn, dm_Guesses_learn, pmOf, startP, pMethB, pFldB, fldO, psSubF, q3, q4, q5, i1, l1, l2, ix, f1, c1, pu, List.length_map, objOf, and_self, if_true, Option.map_some]
  simp only [objF, List.map_set]
theorem slots_ok (sls : List (Option (Int × Int × Int))) : p_Guesses_slots [objP sls] = some (.v (.tup (sls.map slotP))) := by
  have q1 : qFld ["Guesses"] "entries" (objP sls) = some (.lst (sls.map slotP)) := rfl
  simp! only [p_Guesses_slots, d_Guesses_slots, pFld, q1, qTuple]
theorem within_ok (n : Int) (h1 : 1 ≤ n) (h2 : n ≤ 16) : p_is_within [.int n, .int 1, .int 16] = some (.v (.bl true)) := by
  have q1 : p_is_number [.int n] = some (.v (.bl true)) := rfl
  simp! only [p_is_within, d_is_within, q1, cLe, h1, h2, decide_true]
theorem init_ok (n : Int) (h1 : 1 ≤ n) (h2 : n ≤ 16) : m_Guesses_init [] [.int n] = some (.non, objF (List.replicate n.toNat none)) := by
  have q1 := within_ok n h1 h2
  have c1 : (["Guesses"] : List Str).contains "Guesses" = true := rfl
  have r1 : (-4611686018427387904 : Int) ≤ n ∧ n < 4611686018427387904 := by omega
  have q2 := comp_mp (e := pC .non) (τ := []) (fun k : Nat => P.int (0 + (k : Int))) (fun _ => .non) (List.range n.toNat) .no (fun _ _ => rfl) (by rw [List.length_range]; omega)
  have q3 : (List.range n.toNat).map (fun _ => P.non) = (List.replicate n.toNat (none : Option (Int × Int × Int))).map slotP := by
    rw [List.map_const', List.length_range, List.map_replicate]; rfl
  rw [q3] at q2
  have q4 : rangeP 0 n.toNat = (List.range n.toNat).map (fun k : Nat => P.int (0 + (k : Int))) := rfl
  have pu : ∀ v, putFv "entries" v [] = [(("entries" : Str), v)] := fun _ => rfl
  simp! only [m_Guesses_init, dm_Guesses_init, pmOf, startP, psFldO, q1, c1, Int.reducePow, Int.reduceNeg, r1, and_self, q4, q2, pu, objOf, if_true, Option.map_some, objF]
def g1 (sl : Option (Int × Int × Int)) (place : Int) : Int := match sl with
  | none => place + 1
  | some (a, b, c) => if a = place ∧ 2 ≤ c then b else place + 1
def slOk (sl : Option (Int × Int × Int)) : Prop := match sl with
  | none => True
  | some (_, _, c) => 0 ≤ c ∧ c ≤ 3
theorem learnt_sl {sl : Option (Int × Int × Int)} (place goal : Int) (h : slOk sl) : slOk (learntV sl place goal) := by
  unfold learntV
  cases sl with
  | none => simp only; split <;> simp [slOk]
  | some x =>
    obtain ⟨a, b, c⟩ := x
    simp only [slOk] at h
    simp only
    repeat' split
    all_goals simp only [slOk]
    all_goals omega
def learnS (sls : List (Option (Int × Int × Int))) (p g : Int) : List (Option (Int × Int × Int)) := sls.set (slotAt sls p) (learntV (sls.getD (slotAt sls p) none) p g)
theorem drop_learn {δ : Dl} {as : PA} {sls : List (Option (Int × Int × Int))} {p g : Int} (h2 : δ[2]? = some (.obj "Guesses" (objF sls))) (ha : as δ = some [.int p, .int g]) (h : 0 < sls.length) : psDropX (pLendM "Guesses" "learn" m_Guesses_learn 2 as) δ = .nx (δ.set 2 (.obj "Guesses" (objF (learnS sls p g)))) := by
  have l1 : (objF sls).lookup ("learn" : Str) = none := rfl
  simp only [psDropX, pLendM, h2, ha, l1, and_self, if_true, Option.bind_some, learn_ok sls p g h, Option.map_some, learnS]
theorem guess_e {δ : Dl} {as : PA} {sls : List (Option (Int × Int × Int))} {p : Int} (h2 : δ[2]? = some (.obj "Guesses" (objF sls))) (ha : as δ = some [.int p]) (h : 0 < sls.length) : pMethB "Guesses" "guess" p_Guesses_guess 2 as δ = some (.int (guessV sls p)) := by
  have l1 : (objF sls).lookup ("guess" : Str) = none := rfl
  have i1 : P.ins "Guesses" (immF (objF sls)) = objP sls := rfl
  have f1 : ∀ i, flatB (.int i) = true := fun _ => rfl
  simp only [pMethB, h2, ha, l1, and_self, if_true, Option.bind_some, i1, guess_ok sls p h, RF.val, f1]
theorem slotAt_lt (sls : List (Option (Int × Int × Int))) (p : Int) (h : 0 < sls.length) : slotAt sls p < sls.length := by
  have h0 : 0 ≤ p % (sls.length : Int) := Int.emod_nonneg _ (by omega)
  have h1 : p % (sls.length : Int) < sls.length := Int.emod_lt_of_pos _ (by omega)
  unfold slotAt; omega
theorem learnS_len (sls : List (Option (Int × Int × Int))) (p g : Int) : (learnS sls p g).length = sls.length := by unfold learnS; rw [List.length_set]
theorem getD_ok {sls : List (Option (Int × Int × Int))} (h : ∀ s ∈ sls, slOk s) (i : Nat) : slOk (sls.getD i none) := by
  rw [List.getD_eq_getElem?_getD]
  cases e : sls[i]? with
  | none => exact trivial
  | some s => exact h s (List.mem_of_getElem? e)
theorem learnS_all {sls : List (Option (Int × Int × Int))} (p g : Int) (h : ∀ s ∈ sls, slOk s) : ∀ s ∈ learnS sls p g, slOk s := by
  intro s hs
  rcases List.mem_or_eq_of_mem_set hs with e | e
  · exact h s e
  · rw [e]; exact learnt_sl p g (getD_ok h _)
theorem place_by_ok (c : Int) : ∃ p : Int, p__law_place_by [.int c] = some (.v (.int p)) := by
  have h4 : c % 4 = 0 ∨ c % 4 = 1 ∨ c % 4 = 2 ∨ c % 4 = 3 := by omega
  have h2 : c / 4096 % 2 = 0 ∨ c / 4096 % 2 = 1 := by omega
  have c1 : mulOk (c / 4 % 3) 16 = true := mulOk_l (by omega)
  rcases h4 with e | e | e | e <;> rcases h2 with e2 | e2 <;> exact ⟨_, by simp! only [p__law_place_by, d__law_place_by, e, e2, c1]; rfl⟩
theorem goal_by_ok (c p : Int) : ∃ g : Int, p__law_goal_by [.int c, .int p] = some (.v (.int g)) := by
  have h4 : c % 4 = 0 ∨ c % 4 = 1 ∨ c % 4 = 2 ∨ c % 4 = 3 := by omega
  rcases h4 with e | e | e | e <;> exact ⟨_, by simp! only [p__law_goal_by, d__law_goal_by, e]; rfl⟩

def slotD : Option (Int × Int × Int) → D
  | none => .non
  | some (a, b, c) => .tup [.int a, .int b, .int c]
theorem slots_dat (n : Nat) (sls : List (Option (Int × Int × Int))) : datsP (datP (n + 2)) (sls.map slotP) = some (sls.map slotD) := datsP_map (n + 2) slotP slotD (fun s => by
  cases s with
  | none => rfl
  | some x => obtain ⟨a, b, c⟩ := x; rfl) sls
theorem kept_loop (a b c : Sl) : ∀ (sls : List (Option (Int × Int × Int))) (x3 : Sl), ∃ y3, forP (pgName 3) l1__law_kept (sls.map slotP) [a, b, c, x3] = .nx [a, b, c, y3]
  | [], x3 => ⟨x3, rfl⟩
  | s :: sls, x3 => by
    rw [List.map_cons]
    unfold forP
    have n1 : ∀ xs, qIs true (.tup xs) .non = some (.bl true) := fun _ => rfl
    have n2 : qIs true .non .non = some (.bl false) := rfl
    have i1 : ∀ xs, qIsi CTab [.tup xs, .ty "tuple"] = some (.bl true) := fun _ => rfl
    have i2 : ∀ i, qIsi CTab [.int i, .ty "bool"] = some (.bl false) := fun _ => rfl
    have en : qEq true (.lst []) (.lst []) = some (.bl false) := qEq_nil (ds := []) true rfl
    have hs : l1__law_kept [a, b, c, .val (slotP s)] = .nx [a, b, c, .val (slotP s)] := by
      cases s with
      | none => simp! only [l1__law_kept, slotP, n2]
      | some x =>
        obtain ⟨u, v, w⟩ := x
        simp! only [l1__law_kept, slotP, n1, i1, i2, compP, en]
    simp only [pgName, List.set_cons_zero, List.set_cons_succ, hs]
    exact kept_loop a b c sls _
theorem kept_ok (sls : List (Option (Int × Int × Int))) (h : sls.length ≤ 1000) : p__law_kept [objP sls, .lst (sls.map slotP)] = some (.v (.bl true)) := by
  have q1 := slots_ok sls
  have q2 : qMt pt_slots "slots" (objP sls) = some p_Guesses_slots := rfl
  have i1 : ∀ xs, qIsi CTab [.tup xs, .ty "tuple"] = some (.bl true) := fun _ => rfl
  have q3 : qEq true (.lst (sls.map slotP)) (.lst (sls.map slotP)) = some (.bl false) := qEq_self (d := .lst (sls.map slotD)) true (by simp only [DEEP, datP, slots_dat, Option.map_some])
  obtain ⟨y3, e⟩ := kept_loop (.val (objP sls)) (.val (.lst (sls.map slotP))) (.val (.tup (sls.map slotP))) sls .no
  simp! only [p__law_kept, d__law_kept, pMeth, q2, q1, i1, qList, q3, e]
theorem law_guess_ok (sls : List (Option (Int × Int × Int))) (place : Int) (h : 0 < sls.length) : p__law_guess [.lst (sls.map slotP), .int place] = some (.v (.int (guessV sls place))) := by
  have hp : (0 : Int) < (sls.length : Int) := by omega
  have q4 := atP_slots sls place h
  have n1 : ∀ xs, qIs false (.tup xs) .non = some (.bl false) := fun _ => rfl
  have n2 : qIs false .non .non = some (.bl true) := rfl
  cases hs : sls.getD (slotAt sls place) none with
  | none =>
    rw [hs] at q4
    simp! only [p__law_guess, d__law_guess, List.length_map, hp, q4, slotP, n2, guessV, hs]
  | some x =>
    obtain ⟨a, b, c⟩ := x
    rw [hs] at q4
    by_cases ha : a = place
    · by_cases hc : 2 ≤ c
      · have hc' : ¬ (c < 2) := by omega
        simp! only [p__law_guess, d__law_guess, List.length_map, hp, q4, slotP, n1, guessV, hs, ha, hc, hc', decide_true, decide_false, and_self]
      · have hc' : c < 2 := by omega
        simp! only [p__law_guess, d__law_guess, List.length_map, hp, q4, slotP, n1, guessV, hs, ha, hc, hc', decide_true, decide_false, and_false]
    · simp! only [p__law_guess, d__law_guess, List.length_map, hp, q4, slotP, n1, guessV, hs, ha, decide_false, false_and]
theorem set_same {α : Type} {xs : List α} {i : Nat} {d : α} (h : i < xs.length) : xs.set i (xs.getD i d) = xs := by
  rw [List.getD_eq_getElem?_getD, List.getElem?_eq_getElem h, Option.getD_some, List.set_getElem_self]
theorem law_learnt_ok (sls : List (Option (Int × Int × Int))) (place goal : Int) (h : 0 < sls.length) (ok : ∀ s ∈ sls, slOk s) : p__law_learnt [.lst (sls.map slotP), .int place, .int goal] = some (.o ((learnS sls place goal).map slotP)) := by
  have hp : (0 : Int) < (sls.length : Int) := by omega
  have q4 := atP_slots sls place h
  have h0 : 0 ≤ place % (sls.length : Int) := Int.emod_nonneg _ (by omega)
  have h1 : place % (sls.length : Int) < sls.length := Int.emod_lt_of_pos _ (by omega)
  have ix : ixW sls.length (place % (sls.length : Int)) = some (slotAt sls place) := by unfold ixW slotAt; rw [if_pos h0, if_pos h1]
  have n1 : ∀ xs, qIs false (.tup xs) .non = some (.bl false) := fun _ => rfl
  have n2 : qIs false .non .non = some (.bl true) := rfl
  have so := getD_ok ok (slotAt sls place)
  have ss := set_same (d := (none : Option (Int × Int × Int))) (slotAt_lt sls place h)
  have ll : (sls.map slotP).length = sls.length := List.length_map _
  have mset : ∀ s, (sls.map slotP).set (slotAt sls place) (slotP s) = (sls.set (slotAt sls place) s).map slotP := fun s => by rw [List.map_set]
  unfold learnS
  have lists : ∀ x : P, p__law_learnt = p__law_learnt := fun _ => rfl
  cases hs : sls.getD (slotAt sls place) none with
  | none =>
    rw [hs] at q4 ss
    by_cases hb : goal = place + 1
    · simp! only [p__law_learnt, d__law_learnt, oList, ll, hp, q4, slotP, n2, hb, decide_true, learntV, ss]
    · have m := mset (some (place, goal, 2)); simp only [slotP] at m
      simp! only [p__law_learnt, d__law_learnt, oList, ll, hp, q4, slotP, n2, hb, decide_false, learntV, ix, m]
  | some x =>
    obtain ⟨a, b, c⟩ := x
    rw [hs] at q4 ss so
    simp only [slOk] at so
    by_cases ha : a = place
    · by_cases hg : goal = b
      · have hc : c = 0 ∨ c = 1 ∨ c = 2 ∨ c = 3 := by omega
        have m := fun k : Int => mset (some (place, goal, k)); simp only [slotP] at m
        rcases hc with rfl | rfl | rfl | rfl <;> subst ha <;> subst hg <;> simp! only [p__law_learnt, d__law_learnt, oList, ll, hp, q4, slotP, n1, decide_true, learntV, ix, m] <;> rfl
      · have hg' : ¬ (b = goal) := fun z => hg z.symm
        by_cases hb : goal = place + 1
        · have hc : c = 0 ∨ c = 1 ∨ c = 2 ∨ c = 3 := by omega
          have m := fun k : Int => mset (some (place, b, k)); simp only [slotP] at m
          rcases hc with rfl | rfl | rfl | rfl <;> simp! only [p__law_learnt, d__law_learnt, oList, ll, hp, q4, slotP, n1, ha, hg, hg', decide_true, decide_false, learntV, ix] <;> subst hb <;> simp! only [ll, hg, hg', decide_true, decide_false, ix, m] <;> rfl
        · have m := mset (some (place, goal, 2)); simp only [slotP] at m
          simp! only [p__law_learnt, d__law_learnt, oList, ll, hp, q4, slotP, n1, ha, hg, hg', hb, decide_true, decide_false, learntV, ix, m]
    · by_cases hb : goal = place + 1
      · simp! only [p__law_learnt, d__law_learnt, oList, ll, hp, q4, slotP, n1, ha, hb, decide_true, decide_false, learntV, ss]
      · have m := mset (some (place, goal, 2)); simp only [slotP] at m
        simp! only [p__law_learnt, d__law_learnt, oList, ll, hp, q4, slotP, n1, ha, hb, decide_false, learntV, ix, m]

theorem kept_e {δ : Dl} {as : PA} {sls : List (Option (Int × Int × Int))} (h2 : δ[2]? = some (.obj "Guesses" (objF sls))) (ha : as δ = some [.lst (sls.map slotP)]) (h : sls.length ≤ 1000) : pCallL "Guesses" p__law_kept 2 as δ = some (.bl true) := by
  have i1 : P.ins "Guesses" (immF (objF sls)) = objP sls := rfl
  have f1 : ∀ i, flatB (.bl i) = true := fun _ => rfl
  simp only [pCallL, h2, ha, if_true, Option.bind_some, i1, kept_ok sls h, RF.val, f1]
theorem l1_ok (ns : List Int) (hl : ns.length ≤ 63) (N M : Nat) (hN : 0 < N) (hN2 : N ≤ 16) (hM : M ≤ 100) (sls : List (Option (Int × Int × Int))) (h1 : sls.length = N) (h2 : ∀ s ∈ sls, slOk s) (p0 : Int) : ∃ δ', forP (pgName 5) l1_law (rangeP 0 M) [.val (.rol (ns.map .int)), .val (.int (N : Int)), .obj "Guesses" (objF sls), .val (.lst ((sls).map slotP)), .val (.int p0), .no, .no, .no, .no] = .nx δ' ∧ ∃ sl p y5 y6 y7 y8, (sl.length = N ∧ ∀ s ∈ sl, slOk s) ∧ δ' = [.val (.rol (ns.map .int)), .val (.int (N : Int)), .obj "Guesses" (objF sl), .val (.lst ((sl).map slotP)), .val (.int p), y5, y6, y7, y8] := by
  refine forP_range 0 M (fun _ δ => ∃ sl p y5 y6 y7 y8, (sl.length = N ∧ ∀ s ∈ sl, slOk s) ∧ δ = [.val (.rol (ns.map .int)), .val (.int (N : Int)), .obj "Guesses" (objF sl), .val (.lst ((sl).map slotP)), .val (.int p), y5, y6, y7, y8]) _ ⟨sls, p0, _, _, _, _, ⟨h1, h2⟩, rfl⟩ ?_
  rintro j δ hj ⟨sl, p1, y5, y6, y7, y8, ⟨k1, k2⟩, rfl⟩
  refine ⟨_, rfl, ?_⟩
  have hl0 : 0 < sl.length := by omega
  have hNp : (0 : Int) < (N : Int) := by omega
  have c1 := cell_ok ns (10 + (0 + (j : Int))) hl (by omega) (by omega)
  generalize cellV ns (10 + (0 + (j : Int))) = d at c1
  have n1 : ∀ xs, qIs true (.tup xs) .non = some (.bl true) := fun _ => rfl
  have n2 : qIs true .non .non = some (.bl false) := rfl
  have hp : ∃ p : Int, psIf (pT (pOp (qEq true) (pOp qMod (pVar 6) (pC (.int 4))) (pC (.int 1)))) (psSet 4 (pCall p__law_place_by (pCons (pOp qDiv (pVar 6) (pC (.int 4))) pNil))) psNx [.val (.rol (ns.map .int)), .val (.int (N : Int)), .obj "Guesses" (objF sl), .val (.lst ((sl).map slotP)), .val (.int p1), .val (.int (0 + (j : Int))), .val (.int d), y7, y8] = .nx [.val (.rol (ns.map .int)), .val (.int (N : Int)), .obj "Guesses" (objF sl), .val (.lst ((sl).map slotP)), .val (.int p), .val (.int (0 + (j : Int))), .val (.int d), y7, y8] := by
    obtain ⟨p, hp⟩ := place_by_ok (d / 4)
    by_cases hd : d % 4 = 1
    · exact ⟨p1, by simp! only [hd, decide_true]⟩
    · exact ⟨p, by simp! only [hd, decide_false, hp]⟩
  obtain ⟨p, hp⟩ := hp
  obtain ⟨g0, hg0⟩ := goal_by_ok (d / 64) p
  have q4 := atP_slots sl p hl0
  rw [k1] at q4
  have hg : ∃ g : Int, psIf (ptAnd (pT (pOp (qEq false) (pOp qMod (pOp qDiv (pVar 6) (pC (.int 32))) (pC (.int 8))) (pC (.int 1)))) (pT (pOp (qIs true) (pOp qIx (pVar 3) (pOp qMod (pVar 4) (pVar 1))) (pC .non)))) (psSet 7 (pOp qIx (pOp qIx (pVar 3) (pOp qMod (pVar 4) (pVar 1))) (pC (.int 1)))) psNx [.val (.rol (ns.map .int)), .val (.int (N : Int)), .obj "Guesses" (objF sl), .val (.lst ((sl).map slotP)), .val (.int p), .val (.int (0 + (j : Int))), .val (.int d), .val (.int g0), y8] = .nx [.val (.rol (ns.map .int)), .val (.int (N : Int)), .obj "Guesses" (objF sl), .val (.lst ((sl).map slotP)), .val (.int p), .val (.int (0 + (j : Int))), .val (.int d), .val (.int g), y8] := by
    by_cases hd : d / 32 % 8 = 1
    · cases hs : sl.getD (slotAt sl p) none with
      | none =>
        rw [hs] at q4
        exact ⟨g0, by simp! only [hd, decide_true, hNp, q4, slotP, n2]⟩
      | some x =>
        obtain ⟨a, b, c⟩ := x
        rw [hs] at q4
        exact ⟨b, by simp! only [hd, decide_true, hNp, q4, slotP, n1]⟩
    · exact ⟨g0, by simp! only [hd, decide_false]⟩
  obtain ⟨g, hg⟩ := hg
  have lg := law_guess_ok sl p hl0
  have lg2 := law_guess_ok (learnS sl p g) p (by rw [learnS_len]; exact hl0)
  have ll := law_learnt_ok sl p g hl0 k2
  have ge := guess_e (δ := [.val (.rol (ns.map .int)), .val (.int (N : Int)), .obj "Guesses" (objF sl), .val (.lst ((sl).map slotP)), .val (.int p), .val (.int (0 + (j : Int))), .val (.int d), .val (.int g), y8]) (as := pCons (pVar 4) pNil) (p := p) rfl (by simp! only []) hl0
  have s5 : psIf (ptAnd (pT (pOp (qEq false) (pOp qMod (pOp qDiv (pVar 6) (pC (.int 256))) (pC (.int 2))) (pC (.int 1)))) (pT (pOp (qEq true) (pMethB "Guesses" "guess" p_Guesses_guess 2 (pCons (pVar 4) pNil)) (pCall p__law_guess (pCons (pVar 3) (pCons (pVar 4) pNil)))))) (psRet (pC (.bl false))) psNx [.val (.rol (ns.map .int)), .val (.int (N : Int)), .obj "Guesses" (objF sl), .val (.lst ((sl).map slotP)), .val (.int p), .val (.int (0 + (j : Int))), .val (.int d), .val (.int g), y8] = .nx [.val (.rol (ns.map .int)), .val (.int (N : Int)), .obj "Guesses" (objF sl), .val (.lst ((sl).map slotP)), .val (.int p), .val (.int (0 + (j : Int))), .val (.int d), .val (.int g), y8] := by
    by_cases hd : d / 256 % 2 = 1
    · simp! only [hd, decide_true, ge, lg]
    · simp! only [hd, decide_false]
  have s6 := drop_learn (δ := [.val (.rol (ns.map .int)), .val (.int (N : Int)), .obj "Guesses" (objF sl), .val (.lst ((sl).map slotP)), .val (.int p), .val (.int (0 + (j : Int))), .val (.int d), .val (.int g), y8]) (as := pCons (pVar 4) (pCons (pVar 7) pNil)) (p := p) (g := g) rfl (by simp! only []) hl0
  simp only [List.set_cons_zero, List.set_cons_succ] at s6
  have ge2 := guess_e (δ := [.val (.rol (ns.map .int)), .val (.int (N : Int)), .obj "Guesses" (objF (learnS sl p g)), .val (.lst (((learnS sl p g)).map slotP)), .val (.int p), .val (.int (0 + (j : Int))), .val (.int d), .val (.int g), y8]) (as := pCons (pVar 4) pNil) (p := p) rfl (by simp! only []) (by rw [learnS_len]; exact hl0)
  have ke := kept_e (δ := [.val (.rol (ns.map .int)), .val (.int (N : Int)), .obj "Guesses" (objF (learnS sl p g)), .val (.lst (((learnS sl p g)).map slotP)), .val (.int p), .val (.int (0 + (j : Int))), .val (.int d), .val (.int g), .val (.int (guessV (learnS sl p g) p))]) (as := pCons (pVar 3) pNil) rfl (by simp! only []) (by rw [learnS_len]; omega)
  have ib : ∀ i, qIsi CTab [.int i, .ty "bool"] = some (.bl false) := fun _ => rfl
  refine ⟨[.val (.rol (ns.map .int)), .val (.int (N : Int)), .obj "Guesses" (objF (learnS sl p g)), .val (.lst (((learnS sl p g)).map slotP)), .val (.int p), .val (.int (0 + (j : Int))), .val (.int d), .val (.int g), .val (.int (guessV (learnS sl p g) p))], ?_, learnS sl p g, p, _, _, _, _, ⟨by rw [learnS_len, k1], learnS_all p g k2⟩, rfl⟩
  unfold l1_law
  refine seq_nx (δ' := [.val (.rol (ns.map .int)), .val (.int (N : Int)), .obj "Guesses" (objF sl), .val (.lst ((sl).map slotP)), .val (.int p1), .val (.int (0 + (j : Int))), .val (.int d), y7, y8]) (by simp! only [c1]) ?_
  refine seq_nx hp ?_
  refine seq_nx (δ' := [.val (.rol (ns.map .int)), .val (.int (N : Int)), .obj "Guesses" (objF sl), .val (.lst ((sl).map slotP)), .val (.int p), .val (.int (0 + (j : Int))), .val (.int d), .val (.int g0), y8]) (by simp! only [hg0]) ?_
  refine seq_nx hg (seq_nx s5 (seq_nx s6 ?_))
  refine seq_nx (δ' := [.val (.rol (ns.map .int)), .val (.int (N : Int)), .obj "Guesses" (objF (learnS sl p g)), .val (.lst (((learnS sl p g)).map slotP)), .val (.int p), .val (.int (0 + (j : Int))), .val (.int d), .val (.int g), y8]) (by simp! only [ll]) ?_
  refine seq_nx (δ' := [.val (.rol (ns.map .int)), .val (.int (N : Int)), .obj "Guesses" (objF (learnS sl p g)), .val (.lst (((learnS sl p g)).map slotP)), .val (.int p), .val (.int (0 + (j : Int))), .val (.int d), .val (.int g), .val (.int (guessV (learnS sl p g) p))]) (by simp! only [ge2]) ?_
  simp! only [ib, lg2, ke, decide_true]
theorem l2_ok (ns : List Int) (N : Nat) (hN : 0 < N) (sls : List (Option (Int × Int × Int))) (h1 : sls.length = N) (x4 y5 y6 y7 y8 : Sl) : ∃ δ', forP (pgName 4) l2_law (rangeP 0 40) [.val (.rol (ns.map .int)), .val (.int (N : Int)), .obj "Guesses" (objF sls), .val (.lst ((sls).map slotP)), x4, y5, y6, y7, y8] = .nx δ' ∧ ∃ y4, δ' = [.val (.rol (ns.map .int)), .val (.int (N : Int)), .obj "Guesses" (objF sls), .val (.lst ((sls).map slotP)), y4, y5, y6, y7, y8] := by
  refine forP_range 0 40 (fun _ δ => ∃ y4, δ = [.val (.rol (ns.map .int)), .val (.int (N : Int)), .obj "Guesses" (objF sls), .val (.lst ((sls).map slotP)), y4, y5, y6, y7, y8]) _ ⟨x4, rfl⟩ ?_
  rintro j δ hj ⟨y4, rfl⟩
  refine ⟨_, rfl, [.val (.rol (ns.map .int)), .val (.int (N : Int)), .obj "Guesses" (objF sls), .val (.lst ((sls).map slotP)), .val (.int (0 + (j : Int))), y5, y6, y7, y8], ?_, _, rfl⟩
  have lg := law_guess_ok sls (0 + (j : Int)) (by omega)
  have ge := guess_e (δ := [.val (.rol (ns.map .int)), .val (.int (N : Int)), .obj "Guesses" (objF sls), .val (.lst ((sls).map slotP)), .val (.int (0 + (j : Int))), y5, y6, y7, y8]) (as := pCons (pVar 4) pNil) (p := 0 + (j : Int)) rfl (by simp! only []) (by omega)
  simp! only [l2_law, ge, lg, decide_true]
theorem rep_ok (n : Nat) : ∀ s ∈ List.replicate n (none : Option (Int × Int × Int)), slOk s := fun s hs => by
  rw [List.eq_of_mem_replicate hs]; trivial
theorem mul_non (N : Nat) (h : N ≤ 16) : qMul (.lst [.non]) (.int (N : Int)) = some (.lst ((List.replicate N (none : Option (Int × Int × Int))).map slotP)) := by
  have e1 : (List.replicate N [P.non]).flatten = (List.replicate N (none : Option (Int × Int × Int))).map slotP := by
    rw [List.map_replicate]
    induction N with
    | zero => rfl
    | succ n ih => rw [List.replicate_succ, List.flatten_cons, ih (by omega), List.replicate_succ]; rfl
  have c : ((N : Int) < 2 ^ 20 ∧ -(2 ^ 20) < (N : Int) ∧ [P.non].length * (N : Int).toNat ≤ LIM) := by
    rw [Int.toNat_natCast]; simp only [List.length_cons, List.length_nil, LIM]; omega
  simp only [qMul]
  rw [if_pos c, Int.toNat_natCast, e1]
theorem pOp_of {f : P → P → Option P} {a b : PE} {δ : Dl} {x y r : P} (ha : a δ = some x) (hb : b δ = some y) (h : f x y = some r) : pOp f a b δ = some r := by
  unfold pOp; rw [ha, hb]; exact h
theorem if_ok (ns : List Int) (N0 : Nat) (d2 : Int) (hN0 : 0 < N0) (hN1 : N0 ≤ 16) (c2 : p__law_cell [.rol (ns.map .int), .int 2] = some (.v (.int d2))) : ∃ N : Nat, (0 < N ∧ N ≤ 16) ∧ psIf (pT (pOp (qEq false) (pOp qMod (pCall p__law_cell (pCons (pVar 0) (pCons (pC (.int 2)) pNil))) (pC (.int 4))) (pC (.int 1)))) (psSeq (psSet 1 (pC (.int 8))) (psNewO 2 "Guesses" m_Guesses_init [.int 8] pNil)) psNx [.val (.rol (ns.map .int)), .val (.int (N0 : Int)), .obj "Guesses" (objF (List.replicate N0 none)), .no, .no, .no, .no, .no, .no] = .nx [.val (.rol (ns.map .int)), .val (.int (N : Int)), .obj "Guesses" (objF (List.replicate N none)), .no, .no, .no, .no, .no, .no] := by
  obtain ⟨N8, h8⟩ : ∃ N : Nat, (N : Int) = 8 := ⟨8, rfl⟩
  have hi8 := init_ok (N8 : Int) (by omega) (by omega)
  rw [Int.toNat_natCast, h8] at hi8
  by_cases hd : d2 % 4 = 1
  · refine ⟨N8, ⟨by omega, by omega⟩, ?_⟩
    simp! only [psNewO, c2, hd, decide_true, hi8, h8, and_self]
  · refine ⟨N0, ⟨by omega, by omega⟩, ?_⟩
    simp! only [c2, hd, decide_false]
theorem law_ok (ns : List Int) (hl : ns.length ≤ 63) : p_law [.rol (ns.map .int)] = some (.v (.bl true)) := by
  have c1 := cell_ok ns 1 hl (by decide) (by decide)
  have c2 := cell_ok ns 2 hl (by decide) (by decide)
  have c3 := cell_ok ns 3 hl (by decide) (by decide)
  generalize cellV ns 1 = d1 at c1
  generalize cellV ns 2 = d2 at c2
  generalize cellV ns 3 = d3 at c3
  obtain ⟨N0, hN0⟩ : ∃ N : Nat, (N : Int) = 1 + d1 % 16 := ⟨(1 + d1 % 16).toNat, by omega⟩
  obtain ⟨M, hM⟩ : ∃ M : Nat, (M : Int) = 12 + d3 % 40 := ⟨(12 + d3 % 40).toNat, by omega⟩
  have hi := init_ok (N0 : Int) (by omega) (by omega)
  rw [Int.toNat_natCast] at hi
  have hif := if_ok ns N0 d2 (by omega) (by omega) c2
  obtain ⟨N, ⟨hN, hN2⟩, hif⟩ := hif
  obtain ⟨δ1, e1, sl1, p1, y5, y6, y7, y8, ⟨a1, b1⟩, rfl⟩ := l1_ok ns hl N M hN hN2 (by omega) (List.replicate N none) List.length_replicate (rep_ok N) 0
  obtain ⟨δ2, e2, y4, rfl⟩ := l2_ok ns N hN sl1 a1 (.val (.int p1)) y5 y6 y7 y8
  have t40 : (40 : Int).toNat = 40 := rfl
  have rM : (-4611686018427387904 : Int) ≤ (M : Int) ∧ (M : Int) < 4611686018427387904 := by omega
  have mn := mul_non N hN2
  have ke1 := kept_e (δ := [.val (.rol (ns.map .int)), .val (.int (N : Int)), .obj "Guesses" (objF (List.replicate N none)), .val (.lst (((List.replicate N none)).map slotP)), .no, .no, .no, .no, .no]) (as := pCons (pVar 3) pNil) rfl (by simp! only []) (by rw [List.length_replicate]; omega)
  have ke2 := kept_e (δ := [.val (.rol (ns.map .int)), .val (.int (N : Int)), .obj "Guesses" (objF sl1), .val (.lst ((sl1).map slotP)), y4, y5, y6, y7, y8]) (as := pCons (pVar 3) pNil) rfl (by simp! only []) (by omega)
  refine pf_rt rfl rfl ?_
  unfold d_law
  refine seq_nx (δ' := [.val (.rol (ns.map .int)), .val (.int (N0 : Int)), .no, .no, .no, .no, .no, .no, .no]) (by simp! only [startP, c1, hN0]) ?_
  refine seq_nx (δ' := [.val (.rol (ns.map .int)), .val (.int (N0 : Int)), .obj "Guesses" (objF (List.replicate N0 none)), .no, .no, .no, .no, .no, .no]) (by simp! only [psNewO, hi, and_self]) ?_
  refine seq_nx hif ?_
  refine seq_nx (δ' := [.val (.rol (ns.map .int)), .val (.int (N : Int)), .obj "Guesses" (objF (List.replicate N none)), .val (.lst (((List.replicate N none)).map slotP)), .no, .no, .no, .no, .no]) (set_nx (pOp_of (x := .lst [.non]) (y := .int (N : Int)) (by simp! only []) (by simp! only []) mn)) ?_
  refine seq_nx (δ' := [.val (.rol (ns.map .int)), .val (.int (N : Int)), .obj "Guesses" (objF (List.replicate N none)), .val (.lst (((List.replicate N none)).map slotP)), .no, .no, .no, .no, .no]) (by simp! only [ke1]) ?_
  refine seq_nx (δ' := [.val (.rol (ns.map .int)), .val (.int (N : Int)), .obj "Guesses" (objF (List.replicate N none)), .val (.lst (((List.replicate N none)).map slotP)), .val (.int 0), .no, .no, .no, .no]) (by simp! only []) ?_
  refine seq_nx (for_nx (xs := rangeP 0 M) (by simp! only [c3, ← hM, Int.reducePow, Int.reduceNeg, rM, and_self, Int.toNat_natCast]) e1) ?_
  refine seq_nx (for_nx (xs := rangeP 0 40) (by simp! only [Int.reducePow, Int.reduceNeg, and_self, t40]) e2) ?_
  simp! only [ke2]
theorem good (ns : List Int) (hl : ns.length ≤ 63) : ∃ h', f_law [.ref consts.length] (consts ++ [.rol (ns.map HL.W.int)]) = .ok (.bl true) h' := law_of a_law ns (law_ok ns hl)
end K53


set_option Elab.async false
namespace K53
open PySem L2
theorem all1 {P : Program} {w : World} {K : PySem.W.Frag} {mg : Str → Option Value} {C : Addr} (z_bool : mg "bool" = none) (z_int : mg "int" = none) (z_isinstance : mg "isinstance" = none) (z_len : mg "len" = none) (z_list : mg "list" = none) (z_max : mg "max" = none) (z_min : mg "min" = none) (z_range : mg "range" = none) (z_tuple : mg "tuple" = none) (isi : IsiOk K (fun _ => C) CTab) (cls_Guesses : Cls K C) (mk_Guesses : MkC K mg "Guesses" C) (fld_entries : FldOk K (fun _ => C) ["Guesses"] "entries") (c_LEAST_SURE : ∃ u, mg "LEAST_SURE" = some u ∧ RelV (.int 0) u) (c_MOST_SURE : ∃ u, mg "MOST_SURE" = some u ∧ RelV (.int 3) u) (c_NEW_SURE : ∃ u, mg "NEW_SURE" = some u ∧ RelV (.int 2) u) (F__law_cell : TopFn K mg "_law_cell" s__law_cell) (F_is_number : TopFn K mg "is_number" s_is_number) (F_is_within : TopFn K mg "is_within" s_is_within) (F_Guesses_init : MethB K C "__init__" "Guesses.__init__" s_Guesses_init ["self", "size"]) (F_N_Guesses_init : MethD K C "__init__" "Guesses.__init__" s_Guesses_init ["self", "size"] [.int 8]) (F_Guesses_slots : MethB K C "slots" "Guesses.slots" s_Guesses_slots ["self"]) (F__law_kept : TopFn K mg "_law_kept" s__law_kept) (F__law_place_by : TopFn K mg "_law_place_by" s__law_place_by) (F__law_goal_by : TopFn K mg "_law_goal_by" s__law_goal_by) (F_Guesses_slot_number : MethB K C "slot_number" "Guesses.slot_number" s_Guesses_slot_number ["self", "place"]) (F_Guesses_guess : MethB K C "guess" "Guesses.guess" s_Guesses_guess ["self", "place"]) (F__law_guess : TopFn K mg "_law_guess" s__law_guess) (F_learnt : TopFn K mg "learnt" s_learnt) (F_Guesses_learn : MethB K C "learn" "Guesses.learn" s_Guesses_learn ["self", "place", "goal"]) (F__law_learnt : TopFn K mg "_law_learnt" s__law_learnt) (F_law : TopFn K mg "law" s_law) : LawR P w K mg 5 :=
  all (γ := fun _ => C) (ρ := fun _ => 0) ⟨z_bool, z_int, z_isinstance, z_len, z_list, z_max, z_min, z_range, z_tuple, isi, cls_Guesses, mk_Guesses, fld_entries, c_LEAST_SURE, c_MOST_SURE, c_NEW_SURE⟩ ConsOk.nil F__law_cell F_is_number F_is_within F_Guesses_init F_N_Guesses_init F_Guesses_slots F__law_kept F__law_place_by F__law_goal_by F_Guesses_slot_number F_Guesses_guess F__law_guess F_learnt F_Guesses_learn F__law_learnt F_law good
end K53
open PySem PySem.W PyProof.Rows
set_option maxRecDepth 100000 in
set_option maxHeartbeats 0 in
theorem PySem.Challenge.cw_rowmill_k53_guesses_learn_holds : PySem.Challenge.rw_rowmill_k53_guesses_learn.Holds := by
  w_on; o_law; k_head; (case hw => w_witness2)
  k_fill
  refine L2.walk_lawR (l := PySem.Challenge.rw_rowmill_k53_guesses_learn) (k := 5) rfl rfl ⟨rfl, by decide, by decide⟩ (fun w h Y => PySem.W.kIn_of Y) rfl ?F
  case F =>
    intro w mg h KX G
    refine' K53.all1 ?z_bool ?z_int ?z_isinstance ?z_len ?z_list ?z_max ?z_min ?z_range ?z_tuple ?isi ?cls_Guesses ?mk_Guesses ?fld_entries ?c_LEAST_SURE ?c_MOST_SURE ?c_NEW_SURE (L2.topFn_mk KX G ?a0 ?l0 ?c0 ?k0) (L2.topFn_mk KX G ?a1 ?l1 ?c1 ?k1) (L2.topFn_mk KX G ?a2 ?l2 ?c2 ?k2) (L2.methB_mk ?a3 ?l3 ?c3 ?k3 ?n3 ?b3) (L2.methD_mk ?a4 ?l4 ?d4 ?c4 ?k4 ?n4 ?b4 ?v4) (L2.methB_mk ?a5 ?l5 ?c5 ?k5 ?n5 ?b5) (L2.topFn_mk KX G ?a6 ?l6 ?c6 ?k6) (L2.topFn_mk KX G ?a7 ?l7 ?c7 ?k7) (L2.topFn_mk KX G ?a8 ?l8 ?c8 ?k8) (L2.methB_mk ?a9 ?l9 ?c9 ?k9 ?n9 ?b9) (L2.methB_mk ?a10 ?l10 ?c10 ?k10 ?n10 ?b10) (L2.topFn_mk KX G ?a11 ?l11 ?c11 ?k11) (L2.topFn_mk KX G ?a12 ?l12 ?c12 ?k12) (L2.methB_mk ?a13 ?l13 ?c13 ?k13 ?n13 ?b13) (L2.topFn_mk KX G ?a14 ?l14 ?c14 ?k14) (L2.topFn_mk KX G ?a15 ?l15 ?c15 ?k15)
    (case mk_Guesses => exact ⟨PySem.W.mg_of KX G (by k_is), by k_is, by k_is⟩)
    (case z_bool => exact PySem.W.mg_none_of KX G (by k_is))
    (case z_int => exact PySem.W.mg_none_of KX G (by k_is))
    (case z_isinstance => exact PySem.W.mg_none_of KX G (by k_is))
    (case z_len => exact PySem.W.mg_none_of KX G (by k_is))
    (case z_list => exact PySem.W.mg_none_of KX G (by k_is))
    (case z_max => exact PySem.W.mg_none_of KX G (by k_is))
    (case z_min => exact PySem.W.mg_none_of KX G (by k_is))
    (case z_range => exact PySem.W.mg_none_of KX G (by k_is))
    (case z_tuple => exact PySem.W.mg_none_of KX G (by k_is))
    (case isi => exact ⟨nofun, nofun, nofun, nofun⟩)
    (case cls_Guesses => exact ⟨by k_is, by k_is, by k_is, by k_is⟩)
    (case fld_entries => intro c hc; rw [List.mem_singleton.mp hc]; exact ⟨⟨by k_is, by k_is, by k_is, by k_is⟩, by unfold L2.NoAttr; k_is⟩)
    (case c_LEAST_SURE => exact ⟨_, PySem.W.mg_of KX G (by k_is), _, rfl⟩)
    (case c_MOST_SURE => exact ⟨_, PySem.W.mg_of KX G (by k_is), _, rfl⟩)
    (case c_NEW_SURE => exact ⟨_, PySem.W.mg_of KX G (by k_is), _, rfl⟩)
    (case a0 => k_is)
    (case l0 => k_is)
    (case c0 => k_is)
    (case k0 => k_is)
    (case a1 => k_is)
    (case l1 => k_is)
    (case c1 => k_is)
    (case k1 => k_is)
    (case a2 => k_is)
    (case l2 => k_is)
    (case c2 => k_is)
    (case k2 => k_is)
    (case a3 => k_is)
    (case l3 => k_is)
    (case c3 => k_is)
    (case k3 => k_is)
    (case n3 => k_is)
    (case b3 => exact fun s us X hl => match us, hl with | [_, _], _ => PySem.W.kp_binds X (fun S => by kernel_rfl))
    (case a4 => k_is)
    (case l4 => k_is)
    (case d4 => k_is)
    (case c4 => k_is)
    (case k4 => k_is)
    (case n4 => k_is)
    (case v4 => exact fun _ _ => (.cons ⟨_, rfl⟩ .nil))
    (case b4 => exact L2.binds_one rfl fun s u X => PySem.W.kp_binds X (fun S => by kernel_rfl))
    (case a5 => k_is)
    (case l5 => k_is)
    (case c5 => k_is)
    (case k5 => k_is)
    (case n5 => k_is)
    (case b5 => exact fun s us X hl => match us, hl with | [_], _ => PySem.W.kp_binds X (fun S => by kernel_rfl))
    (case a6 => k_is)
    (case l6 => k_is)
    (case c6 => k_is)
    (case k6 => k_is)
    (case a7 => k_is)
    (case l7 => k_is)
    (case c7 => k_is)
    (case k7 => k_is)
    (case a8 => k_is)
    (case l8 => k_is)
    (case c8 => k_is)
    (case k8 => k_is)
    (case a9 => k_is)
    (case l9 => k_is)
    (case c9 => k_is)
    (case k9 => k_is)
    (case n9 => k_is)
    (case b9 => exact fun s us X hl => match us, hl with | [_, _], _ => PySem.W.kp_binds X (fun S => by kernel_rfl))
    (case a10 => k_is)
    (case l10 => k_is)
    (case c10 => k_is)
    (case k10 => k_is)
    (case n10 => k_is)
    (case b10 => exact fun s us X hl => match us, hl with | [_, _], _ => PySem.W.kp_binds X (fun S => by kernel_rfl))
    (case a11 => k_is)
    (case l11 => k_is)
    (case c11 => k_is)
    (case k11 => k_is)
    (case a12 => k_is)
    (case l12 => k_is)
    (case c12 => k_is)
    (case k12 => k_is)
    (case a13 => k_is)
    (case l13 => k_is)
    (case c13 => k_is)
    (case k13 => k_is)
    (case n13 => k_is)
    (case b13 => exact fun s us X hl => match us, hl with | [_, _, _], _ => PySem.W.kp_binds X (fun S => by kernel_rfl))
    (case a14 => k_is)
    (case l14 => k_is)
    (case c14 => k_is)
    (case k14 => k_is)
    (case a15 => k_is)
    (case l15 => k_is)
    (case c15 => k_is)
    (case k15 => k_is)

