import PyProof.Rows.All
import Wide.All
import OpenK.AllK
import Wide.FinOn
import Lean
import PyProof.EqAt
import PyProof.EqKinds
import PyProof.TupleCall
import OpenK.KOwn
import PySem.Str
import KE.LcSums
import PySem.Builtin.Int.W1All
import PyProof.WalksEnum
import PyProof.InstEq
import PyProof.Rows.EnumRows
import PyProof.Rows.SetFrom
import PyProof.SetRoads
import PyProof.Draws
import PyProof.EnumMake
import PyProof.Rows.TupIter
import PySem.Challenge.RW_rowmill_k41_slow_memory
set_option genSizeOf false in
set_option genInjectivity false in
structure PySem.W.Fast where
(tw0:True)
set_option Elab.async false
set_option linter.all false
set_option maxRecDepth 100000
namespace L2
open PySem PySem.Spec PyProof.Rows
abbrev o8 := Sum Int Str
def zC : o8 → Value → Bool
  | .inl k, v => Value.isInt k v
  | .inr x, v => Value.isStrOf x v
def Ff (w : World) : o8 → Int
  | .inl k => hashInt k
  | .inr x => hashStr w x
theorem bM : ∀ {k : o8} {v : Value}, zC k v = true → (∃ i t, k = Sum.inl i ∧ v = Value.int i t) ∨ (∃ x t, k = Sum.inr x ∧ v = Value.str x t)
  | .inl i, v, h => by
    obtain ⟨t, e⟩ := Value.isInt_shape (k := i) (v := v) h
    exact .inl ⟨i, t, rfl, e⟩
  | .inr x, v, h => by
    obtain ⟨t, e⟩ := Value.isStrOf_shape (x := x) (v := v) h
    exact .inr ⟨x, t, rfl, e⟩
theorem By (a b : Int) : decide ((Sum.inl a : o8) = Sum.inl b) = (a == b) := by
  by_cases e : a = b
  · subst e; simp
  · have h : ¬ (Sum.inl a : o8) = Sum.inl b := fun q => e (Sum.inl.inj q)
    rw [decide_eq_false h]
    exact (beq_eq_false_iff_ne.mpr e).symm
theorem Bv (a b : Str) : decide ((Sum.inr a : o8) = Sum.inr b) = decide (a = b) := by
  by_cases e : a = b
  · subst e; simp
  · have h : ¬ (Sum.inr a : o8) = Sum.inr b := fun q => e (Sum.inr.inj q)
    rw [decide_eq_false h, decide_eq_false e]
theorem Bx (a : Int) (b : Str) : decide ((Sum.inl a : o8) = Sum.inr b) = false := decide_eq_false (fun q => nomatch q)
theorem Bw (a : Str) (b : Int) : decide ((Sum.inr a : o8) = Sum.inl b) = false := decide_eq_false (fun q => nomatch q)
def oK (prog : Program) (w : World) : PySem.KeyKind prog w o8 where
  is := zC
  hash := Ff w
  inj := fun v a b ha hb => by
    rcases bM ha with ⟨i, t, rfl, rfl⟩ | ⟨x, t, rfl, rfl⟩
    · rcases bM hb with ⟨j, u, rfl, e⟩ | ⟨y, u, rfl, e⟩
      · injection e with e1 _; rw [e1]
      · exact nomatch e
    · rcases bM hb with ⟨j, u, rfl, e⟩ | ⟨y, u, rfl, e⟩
      · exact nomatch e
      · injection e with e1 _; rw [e1]
  byValue := fun k v h => by
    rcases bM h with ⟨i, t, rfl, rfl⟩ | ⟨x, t, rfl, rfl⟩ <;> rfl
  pyHash := fun hv h => by
    rcases bM hv with ⟨i, t, rfl, rfl⟩ | ⟨x, t, rfl, rfl⟩
    · exact wpAny_pyHash_int h
    · exact wpAny_pyHash_str h
  eqBool := fun hu hv h => by
    rcases bM hu with ⟨i, t, rfl, rfl⟩ | ⟨x, t, rfl, rfl⟩
    · rcases bM hv with ⟨j, u, rfl, rfl⟩ | ⟨y, u, rfl, rfl⟩
      · rw [By] at h; exact wpAny_eqBool_int h
      · rw [Bx] at h; exact SeqAt.EqAt.int_str i t y u _ _ _ _ h
    · rcases bM hv with ⟨j, u, rfl, rfl⟩ | ⟨y, u, rfl, rfl⟩
      · rw [Bw] at h; exact SeqAt.EqAt.str_int x t j u _ _ _ _ h
      · rw [Bv] at h; exact wpAny_eqBool_str h
  «strs» := fun k x t v h => by
    rcases bM h with ⟨i, u, rfl, e⟩ | ⟨y, u, rfl, e⟩
    · exact nomatch e
    · injection e with e1 _
      subst e1
      cases v <;> rfl
end L2
namespace L2
open PySem PySem.Spec PyProof.Rows
inductive V where
  | non | bl (b : Bool) | int (i : Int) | str (x : Str) | byt (b : Array UInt8) | flt (b : UInt64) | ref (a : Addr) | ty (n : String)
  deriving DecidableEq
def bg : V → Value → Prop
  | .non, u => u = Value.none
  | .bl b, u => u = Value.bool b
  | .int i, u => ∃ t, u = Value.int i t
  | .str x, u => ∃ t, u = Value.str x t
  | .byt b, u => ∃ t, u = Value.bytes b t
  | .flt b, u => ∃ t, u = Value.float b t
  | .ref a, u => u = Value.ref a
  | .ty n, u => u = Value.type n
abbrev aF : List V → List Value → Prop := Paired bg
theorem aF.length {xs : List V} {us : List Value} (r : aF xs us) : xs.length = us.length := Paired.length r
theorem aF.get : ∀ {xs : List V} {us : List Value} {i : Nat} {x : V}, aF xs us → xs[i]? = some x → ∃ u, us[i]? = some u ∧ bg x u
  | _, _, _, _, .nil, e => by simp at e
  | _, _, 0, _, .cons r _, e => by simp at e; subst e; exact ⟨_, rfl, r⟩
  | _, _, i + 1, x, .cons _ t, e => by
    obtain ⟨u, h1, h2⟩ := aF.get (i := i) (x := x) t (by simpa using e)
    exact ⟨u, by simpa using h1, h2⟩
theorem aF.set {x : V} {u : Value} (r : bg x u) : ∀ {xs : List V} {us : List Value} (i : Nat), aF xs us → aF (xs.set i x) (us.set i u)
  | _, _, _, .nil => .nil
  | _, _, 0, .cons _ t => .cons r t
  | _, _, i + 1, .cons q t => .cons q (aF.set r i t)
theorem aF.append : ∀ {xs ys : List V} {us ws : List Value}, aF xs us → aF ys ws → aF (xs ++ ys) (us ++ ws)
  | _, _, _, _, .nil, s => s
  | _, _, _, _, .cons r t, s => .cons r (aF.append t s)
theorem aF.take : ∀ {xs : List V} {us : List Value} (n : Nat), aF xs us → aF (xs.take n) (us.take n)
  | _, _, 0, _ => .nil
  | _, _, _ + 1, .nil => .nil
  | _, _, n + 1, .cons r t => .cons r (aF.take n t)
theorem aF.drop : ∀ {xs : List V} {us : List Value} (n : Nat), aF xs us → aF (xs.drop n) (us.drop n)
  | _, _, 0, r => r
  | _, _, _ + 1, .nil => .nil
  | _, _, n + 1, .cons _ t => aF.drop n t
def j1 : Option V → Option Value → Prop
  | some v, some u => bg v u
  | none, none => True
  | _, _ => False
def KV {κ : Type} : List (κ × V) → List (κ × Value) → Prop := Paired fun (p : κ × V) (q : κ × Value) => p.1 = q.1 ∧ bg p.2 q.2
def kV : o8 → V
  | .inl i => .int i
  | .inr x => .str x
inductive HO where
  | lst (xs : List V)
  | tup (xs : List V)
  | dK (kvs : List (o8 × V)) | dT (kvs : List (List o8 × V))
  | set (S : Int → Bool) (n : Nat)
  | ins (C dx : Addr) (fs : List (Str × V))
  | own (x : Addr)
  | xd (fs : List (Str × V))
  | met (f x : Addr)
  | rng (lo hi : Int)
  | frz (o : Obj) (u : HO)
  | tbl (ps : Array Value)
  | exc (C : Addr) (dx : Option Addr) (fs : List (Str × V))
  | ext (φ : Heap → Prop)
abbrev Hp := Addr → Option HO
def upd (H : Hp) (a : Addr) (o : HO) : Hp := fun b => if b = a then some o else H b
theorem aX {H : Hp} {a : Addr} {o : HO} : upd H a o a = some o := by unfold upd; rw [if_pos rfl]
theorem aH {H : Hp} {a b : Addr} {o : HO} (h : b ≠ a) : upd H a o b = H b := by unfold upd; rw [if_neg h]
theorem iH {H : Hp} {a b : Addr} {o u : HO} (h : H a = some o) (h' : H b = some u) (d : o ≠ u) : a ≠ b := by
  intro e; subst e; rw [h] at h'; exact d (Option.some.inj h')
theorem bE {H : Hp} {a b : Addr} {o : HO} (h : H a = some o) (h' : H b = none) : a ≠ b := by
  intro e; subst e; rw [h] at h'; cases h'
def FR (h : Heap) (dx : Option Addr) (mA : Str → Option Value) : Prop := match dx with
  | some d => h.Ns1 d mA
  | none => ∀ n, mA n = none
section
variable (P : Program) (w : World)
def cv (H : Hp) (h : Heap) (a : Addr) : HO → Prop
  | .lst xs => xs.length ≤ sizeLine ∧ ∃ (its : List Value) (n : Nat), aF xs its ∧ h.get? a = some { cls := .type "list", data := .seq its.toArray n }
  | .tup xs => xs.length ≤ sizeLine ∧ ∃ its : List Value, aF xs its ∧ IsTup h a its.toArray
  | .dK kvs => kvs.length ≤ sizeLine ∧ (a == sysModules) = false ∧ ∃ vs, KV kvs vs ∧ h.DictOf (oK P w) a vs
  | .dT kvs => kvs.length ≤ sizeLine ∧ (a == sysModules) = false ∧ ∃ xs : List (List o8 × Addr × Value),
      Paired (fun (p : List o8 × V) (q : List o8 × Addr × Value) => p.1 = q.1 ∧ H q.2.1 = some (.tup (p.1.map kV)) ∧ bg p.2 q.2.2) kvs xs ∧
      ∃ o es ep, h.get? a = some o ∧ o.ExactDict ∧ o.data = .dict es ep ∧ es.toList = xs.map (entryOfKey (tupleKind (oK P w))) ∧ (xs.map (·.1)).Nodup
  | .set S n => h.SetOf (intKind P w) a S n
  | .ins C dx fs => H dx = some (.own a) ∧ fs.length ≤ 1000 ∧ dx ≠ a ∧ h.get? a = some (PySem.W.instObj C dx) ∧
      ∃ mA, h.Ns1 dx mA ∧ (∀ f, j1 (fs.lookup f) (mA f)) ∧ PySem.Within mA (fs.map (·.1))
  | .own _ => ∃ o, h.get? a = some o
  | .xd fs => ∃ mA, h.Ns1 a mA ∧ ∀ f, j1 (fs.lookup f) (mA f)
  | .rng lo hi => ∃ t u v, h.get? a = some { cls := .type "range", data := .fields #[.int lo t, .int hi u, .int 1 v] }
  | .frz o u => h.get? a = some o ∧ cv H h a u
  | .tbl ps => h.get? a = some { cls := .none, data := .fields ps }
  | .met f x => h.get? a = some (PySem.W.methodObj (.ref f) (.ref x))
  | .exc C dx fs => ∃ o vs, h.get? a = some o ∧ o.cls = .ref C ∧ o.dict = dx ∧ o.data = .fields vs ∧ fs.length ≤ 1000 ∧ (∀ d, dx = some d → H d = some (.own a) ∧ d ≠ a) ∧
      ∃ mA, FR h dx mA ∧ (∀ f, j1 (fs.lookup f) (mA f)) ∧ PySem.Within mA (fs.map (·.1))
  | .ext φ => φ h ∧ (∃ o, h.get? a = some o) ∧ ∀ h1 h2 : Heap, φ h1 → (∀ o, h1.get? a = some o → h2.get? a = some o) → φ h2
def i7 (H : Hp) (h : Heap) : Prop := ∀ a o, H a = some o → cv P w H h a o
end
section
variable {P : Program} {w : World} {H H' : Hp} {h h' : Heap} {a : Addr} {o : HO}
theorem cv.lt (x : cv P w H h a o) : a < h.objs.size := by
  cases o with
  | lst xs => obtain ⟨_, _, _, _, e⟩ := x; exact Heap.lt_size e
  | tup xs => obtain ⟨_, _, _, p⟩ := x; exact p.lt
  | dK kvs => obtain ⟨_, _, _, _, o, _, _, e, _⟩ := x; exact Heap.lt_size e
  | dT kvs => obtain ⟨_, _, _, _, o, _, _, e, _⟩ := x; exact Heap.lt_size e
  | set S n => obtain ⟨o, _, _, _, e, _⟩ := x; exact Heap.lt_size e
  | ins C dx fs => obtain ⟨_, _, _, e, _⟩ := x; exact Heap.lt_size e
  | own y => obtain ⟨_, e⟩ := x; exact Heap.lt_size e
  | xd fs => obtain ⟨_, ⟨_, _, _, e, _⟩, _⟩ := x; exact Heap.lt_size e
  | rng lo hi => obtain ⟨_, _, _, e⟩ := x; exact Heap.lt_size e
  | frz ob u => obtain ⟨e, _⟩ := x; exact Heap.lt_size e
  | tbl ps => exact Heap.lt_size (show h.get? a = some _ from x)
  | met f y => exact Heap.lt_size (show h.get? a = some _ from x)
  | exc C dx fs => obtain ⟨_, _, e, _⟩ := x; exact Heap.lt_size e
  | ext φ => obtain ⟨_, ⟨_, e⟩, _⟩ := x; exact Heap.lt_size e
theorem Paired.mapP {α β : Type} {F G : α → β → Prop} : ∀ {l₁ : List α} {l₂ : List β}, Paired F l₁ l₂ → (∀ a b, F a b → G a b) → Paired G l₁ l₂
  | _, _, .nil, _ => .nil
  | _, _, .cons r t, f => .cons (f _ _ r) (Paired.mapP t f)
theorem cv.stay (x : cv P w H h a o) (k : ∀ b u, (b = a ∨ H b = some (.own a)) → h.get? b = some u → h'.get? b = some u)
    (ho : ∀ b, H b = some (.own a) → H' b = some (.own a)) (ht : ∀ b xs, H b = some (.tup xs) → H' b = some (.tup xs)) : cv P w H' h' a o := by
  induction o with
  | lst xs => obtain ⟨z, its, n, r, e⟩ := x; exact ⟨z, its, n, r, k _ _ (.inl rfl) e⟩
  | tup xs => obtain ⟨z, its, r, ob, e, c⟩ := x; exact ⟨z, its, r, ob, k _ _ (.inl rfl) e, c⟩
  | dK kvs => obtain ⟨z, y, vs, r, ob, es, ep, e, c⟩ := x; exact ⟨z, y, vs, r, ob, es, ep, k _ _ (.inl rfl) e, c⟩
  | dT kvs =>
    obtain ⟨z, y, xs, r, ob, es, ep, e, c⟩ := x
    exact ⟨z, y, xs, Paired.mapP r fun p q z => ⟨z.1, ht _ _ z.2.1, z.2.2⟩, ob, es, ep, k _ _ (.inl rfl) e, c⟩
  | set S n => obtain ⟨ob, es, ep, t, e, c⟩ := x; exact ⟨ob, es, ep, t, k _ _ (.inl rfl) e, c⟩
  | ins C dx fs =>
    obtain ⟨d, z, ne, e, mA, ⟨od, es, ep, e2, c⟩, r⟩ := x
    exact ⟨ho _ d, z, ne, k _ _ (.inl rfl) e, mA, ⟨od, es, ep, k _ _ (.inr d) e2, c⟩, r⟩
  | own y => obtain ⟨ob, e⟩ := x; exact ⟨ob, k _ _ (.inl rfl) e⟩
  | xd fs => obtain ⟨mA, ⟨od, es, ep, e, c⟩, r⟩ := x; exact ⟨mA, ⟨od, es, ep, k _ _ (.inl rfl) e, c⟩, r⟩
  | rng lo hi => obtain ⟨t, u, v, e⟩ := x; exact ⟨t, u, v, k _ _ (.inl rfl) e⟩
  | frz ob u ih => obtain ⟨e, q⟩ := x; exact ⟨k _ _ (.inl rfl) e, ih q⟩
  | tbl ps =>
    have e : h.get? a = some { cls := .none, data := .fields ps } := x
    show h'.get? a = some { cls := .none, data := .fields ps }
    exact k a _ (.inl rfl) e
  | met f y =>
    have e : h.get? a = some (PySem.W.methodObj (.ref f) (.ref y)) := x
    show h'.get? a = some (PySem.W.methodObj (.ref f) (.ref y))
    exact k a _ (.inl rfl) e
  | exc C dx fs =>
    obtain ⟨ob, vs, e, hc, hd, hv, hl, hw, mA, hm, r⟩ := x
    refine ⟨ob, vs, k _ _ (.inl rfl) e, hc, hd, hv, hl, fun d q => ⟨ho _ (hw d q).1, (hw d q).2⟩, mA, ?_, r⟩
    cases dx with
    | none => exact hm
    | some d =>
      obtain ⟨od, es, ep, e2, c⟩ := hm
      exact ⟨od, es, ep, k _ _ (.inr (hw d rfl).1) e2, c⟩
  | ext φ => obtain ⟨p, ⟨o, e⟩, st⟩ := x; exact ⟨st _ _ p fun o q => k _ _ (.inl rfl) q, ⟨o, k _ _ (.inl rfl) e⟩, st⟩
theorem i7.lt (x : i7 P w H h) (e : H a = some o) : a < h.objs.size := (x a o e).lt
theorem i7.fresh (x : i7 P w H h) (e : h.objs.size ≤ a) : H a = none := by
  cases q : H a with
  | none => rfl
  | some u => exact absurd (Nat.lt_of_lt_of_le (x.lt q) e) (Nat.lt_irrefl _)
theorem i7.kept (x : i7 P w H h) (k : ∀ b u, h.get? b = some u → h'.get? b = some u) : i7 P w H h' := fun a o e =>
  (x a o e).stay (fun b u _ q => k b u q) (fun _ q => q) fun _ _ q => q
theorem i7.laid (x : i7 P w H h) (k : ∀ b u, h.get? b = some u → h'.get? b = some u) (hp : h.objs.size ≤ a) (new : cv P w (upd H a o) h' a o) : i7 P w (upd H a o) h' := fun b u e => by
  have hn := x.fresh hp
  by_cases hb : b = a
  · subst hb; rw [aX] at e; cases e; exact new
  · rw [aH hb] at e
    exact (x b u e).stay (fun c v _ q => k c v q) (fun c q => by rw [aH (bE q hn)]; exact q) fun c xs q => by rw [aH (bE q hn)]; exact q
end
def Rd (H : Hp) (a : Addr) (u : HO) : Prop := H a = some u ∨ ∃ o, H a = some (.frz o u)
theorem Rd.ok {P : Program} {w : World} {H : Hp} {h : Heap} {a : Addr} {u : HO} (r : Rd H a u) (x : i7 P w H h) : cv P w H h a u := by
  rcases r with r | ⟨o, r⟩
  · exact x a u r
  · obtain ⟨_, q⟩ := x a _ r
    exact q
def EK : Option HO → Prop
  | some (.lst _) => True
  | some (.dK _) => True
  | some (.dT _) => True
  | some (.set _ _) => True
  | some (.ins _ _ _) => True
  | some (.exc _ _ _) => True
  | some (.ext _) => True
  | _ => False
section
variable {P : Program} {w : World} {H : Hp} {h h' : Heap} {x e : Addr} {o' : HO}
theorem i7.write (ok : i7 P w H h) (mu : EK (H x)) (he : e = x ∨ H e = some (.own x)) (k : ∀ b u, b ≠ e → h.get? b = some u → h'.get? b = some u) (heo : ∃ u, h'.get? e = some u)
    (new : cv P w (upd H x o') h' x o') : i7 P w (upd H x o') h' := fun b u q => by
  have nown : ∀ c y, H c = some (.own y) → c ≠ x := fun c y r z => by subst z; rw [r] at mu; exact mu
  have ntup : ∀ c xs, H c = some (.tup xs) → c ≠ x := fun c xs r z => by subst z; rw [r] at mu; exact mu
  by_cases hb : b = x
  · subst hb; rw [aX] at q; cases q; exact new
  · rw [aH hb] at q
    by_cases hbe : b = e
    · have q' : H b = some (.own x) := by
        rcases he with z | z
        · exact absurd (hbe.trans z) hb
        · rw [hbe]; exact z
      rw [q] at q'; cases q'
      obtain ⟨v, hv⟩ := heo
      exact ⟨v, by rw [hbe]; exact hv⟩
    · refine (ok b u q).stay (fun c v hc r => k c v ?_ r) (fun c r => by rw [aH (nown c b r)]; exact r) fun c xs r => by rw [aH (ntup c xs r)]; exact r
      rcases hc with rfl | hc
      · exact hbe
      · rintro rfl
        rcases he with z | z
        · exact nown c b hc z
        · rw [hc] at z; cases z; exact hb rfl
end
structure Un (fs ex : List Addr) (H H' : Hp) (h h' : Heap) : Prop where
  keep : ∀ b o, h.get? b = some o → H b = none → b ∉ fs → b ∉ ex → h'.get? b = some o
  slot : ∀ b o, h.get? b = some o → H b = none → b ∈ fs → b ∉ ex → ∃ sl, h'.get? b = some { o with slots := sl }
  free : ∀ b o, h.get? b = some o → H b = none → b ∉ ex → H' b = none
  there : ∀ b o, h.get? b = some o → b ∉ ex → ∃ o', h'.get? b = some o'
  tups : ∀ b xs, H b = some (.tup xs) → H' b = some (.tup xs)
  frzs : ∀ b o u, H b = some (.frz o u) → H' b = some (.frz o u)
  tbls : ∀ b ps, H b = some (.tbl ps) → ∃ more, H' b = some (.tbl (ps ++ more))
section
variable {fs fs' ex ex' : List Addr} {H H1 H2 : Hp} {h h1 h2 h' : Heap} {a x e : Addr} {o : HO}
theorem Un.any (u : Un fs ex H H1 h h1) {b : Addr} {ob : Obj} (q : h.get? b = some ob) (n : H b = none) (hx : b ∉ ex) : ∃ sl, h1.get? b = some { ob with slots := sl } := by
  by_cases hb : b ∈ fs
  · exact u.slot b ob q n hb hx
  · exact ⟨ob.slots, u.keep b ob q n hb hx⟩
theorem Un.kept (k : ∀ b u, h.get? b = some u → h'.get? b = some u) : Un fs ex H H h h' :=
  ⟨fun b ob q _ _ _ => k b ob q, fun b ob q _ _ _ => ⟨ob.slots, k b ob q⟩, fun _ _ _ n _ => n, fun b ob q _ => ⟨ob, k b ob q⟩, fun _ _ q => q, fun _ _ _ q => q, fun _ ps q => ⟨#[], by rw [q]; simp⟩⟩
theorem Un.refl : Un fs ex H H h h := Un.kept fun _ _ q => q
theorem Un.laid (k : ∀ b u, h.get? b = some u → h'.get? b = some u) (hp : h.objs.size ≤ a) (hn : H a = none) : Un fs ex H (upd H a o) h h' where
  keep := fun b u q _ _ _ => k b u q
  slot := fun b u q _ _ _ => ⟨u.slots, k b u q⟩
  free := fun b u q n _ => by rw [aH (Nat.ne_of_lt (Nat.lt_of_lt_of_le (Heap.lt_size q) hp))]; exact n
  there := fun b u q _ => ⟨u, k b u q⟩
  tups := fun b xs q => by rw [aH (bE q hn)]; exact q
  frzs := fun b u xs q => by rw [aH (bE q hn)]; exact q
  tbls := fun b ps q => ⟨#[], by rw [aH (bE q hn), q]; simp⟩
theorem Un.write (mu : EK (H x)) (he : e = x ∨ H e = some (.own x)) (k : ∀ b u, b ≠ e → h.get? b = some u → h'.get? b = some u) (heo : ∃ u, h'.get? e = some u) : Un fs ex H (upd H x o) h h' := by
  have hx : ∀ b, H b = none → b ≠ x := fun b n z => by subst z; rw [n] at mu; exact mu
  have hb : ∀ b, H b = none → b ≠ e := fun b n z => by
    subst z
    rcases he with r | r
    · exact hx b n r
    · rw [n] at r; cases r
  have hm : ∀ b u, H b = some u → ¬ EK (some u) → b ≠ x := fun b u q nm z => by subst z; rw [q] at mu; exact nm mu
  refine ⟨fun b u q n _ _ => k b u (hb b n) q, fun b u q n _ _ => ⟨u.slots, k b u (hb b n) q⟩, fun b u q n _ => by rw [aH (hx b n)]; exact n, fun b u q _ => ?_,
    fun b xs q => by rw [aH (hm b _ q fun z => z)]; exact q, fun b u xs q => by rw [aH (hm b _ q fun z => z)]; exact q, fun b ps q => ⟨#[], by rw [aH (hm b _ q fun z => z), q]; simp⟩⟩
  by_cases hbe : b = e
  · subst hbe; exact heo
  · exact ⟨u, k b u hbe q⟩
end
def EA (h : Heap) (H : Hp) : List Addr := (List.range h.objs.size).filter fun a => (H a).isSome
def oN (h : Heap) (H : Hp) : Heap := PySem.W.hideAll h (EA h H)
theorem uB (h : Heap) (H : Hp) : (oN h H).objs.size = h.objs.size := PySem.W.hideAll_size _ _
theorem v3 {h : Heap} {H : Hp} {b : Addr} {o : Obj} (e : h.get? b = some o) (n : H b = none) : (oN h H).get? b = some o :=
  PySem.W.hideAll_get _ e fun hm => by
    have q : (H b).isSome = true := (List.mem_filter.mp hm).2
    rw [n] at q; simp at q
theorem yo {h : Heap} {H : Hp} {b : Addr} {o : Obj} (e : (oN h H).get? b = some o) : h.get? b = some o ∧ H b = none := by
  have e' : h.get? b = some o := PySem.W.of_hideAll (EA h H) e
  refine ⟨e', ?_⟩
  cases q : H b with
  | none => rfl
  | some x =>
    have hm : b ∈ EA h H := List.mem_filter.mpr ⟨List.mem_range.mpr (Heap.lt_size e'), by simp [q]⟩
    have z : (oN h H).get? b = none := PySem.W.hideAll_none (EA h H) hm
    rw [z] at e; cases e
def yV (g h : Heap) (L : Addr) : List (Addr × Obj) := (List.range h.objs.size).filterMap fun a => if a = L ∨ (g.get? a).isSome = true then none else (h.get? a).map fun o => (a, o)
def dz (g h : Heap) (L d : Addr) : List (Addr × Obj) := (yV g h L).filter fun p => decide (p.1 ≠ d)
end L2
namespace L2
open PySem PySem.Spec PyProof.Rows
structure Mod (K : PySem.W.Frag) (mg : Str → Option Value) (base : Heap) : Prop where
  kin : K.In base
  glob : base.Ns mainGlobals mg
  blt : ∃ mb, base.Ns builtinsNs mb ∧ ∀ x : Str, x ≠ "__name__" → mb x = bootBuiltins x
  nolimit : base.NoLimit
structure Cx where
  prog : Program
  w : World
  K : PySem.W.Frag
  mg : Str → Option Value
  base : Heap
  A : Around
  N : List Str
  s₀ : Shared
  H₀ : Hp
  env : Env
  outer : List Env
  stack : List Env
  ex : List Addr
  fn : Str → Bool
  calm : Bool
  pn : List (Addr × Obj)
  xe : Value → Shared → Prop
def qd (l : List Env) : List Addr := l.filterMap (·.frame)
abbrev Cx.fs (X : Cx) : List Addr := qd X.outer
def Eg (sc : Scope) (x : Str) : Prop := sc.names.lookup x = some .local ∨ sc.names.lookup x = some .cell ∨ sc.names.lookup x = some .free
def xa (sc : Scope) (x : Str) : Prop := sc.names.lookup x = some .local ∨ sc.names.lookup x = some .cell
def Fu (env : Env) (h : Heap) (m : Str → Option Value) (x : Str) (u : Value) : Prop :=
  (env.kindOf x = some .local ∧ m x = some u) ∨ ((env.kindOf x = some .cell ∨ env.kindOf x = some .free) ∧ ∃ c, env.cells.lookup x = some c ∧ h.IsCell c (some u))
structure Cx.Ok (X : Cx) : Prop where
  mod : Mod X.K X.mg X.base
  kind : X.env.scope.kind = .function
  glob : X.env.globals = mainGlobals
  blt : X.env.builtins = builtinsNs
  above : X.s₀.heap.objs.size ≤ X.env.locals
  inj : ∀ x y c, X.env.cells.lookup x = some c → X.env.cells.lookup y = some c → x = y
  has : ∀ x, (X.env.kindOf x = some .cell ∨ X.env.kindOf x = some .free) → ∃ c, X.env.cells.lookup x = some c
  cab : ∀ x c, X.fn x = true → X.env.cells.lookup x = some c → X.s₀.heap.objs.size ≤ c
  hd : X.calm = true → X.A.handled = none
  frames : X.A.frames = some X.stack
  stk : X.stack = X.outer ∨ (X.stack = X.env :: X.outer ∧ X.env.frame = some X.env.locals)
  exf : ∀ b ∈ X.ex, b ≠ X.env.locals ∧ ∀ x c, X.env.cells.lookup x = some c → c ≠ b
  bs : ∀ b o, X.base.get? b = some o → X.s₀.heap.get? b = some o ∧ X.H₀ b = none
  bsz : X.base.objs.size ≤ X.s₀.heap.objs.size
  noex : ∀ b o, X.base.get? b = some o → b ∉ X.ex
  exfs : ∀ b ∈ X.ex, b ∉ X.fs
  funs : X.s₀.heap.FunFrames X.base X.outer
  frf : ∀ b ∈ X.fs, X.H₀ b = none
structure av (X : Cx) (pins : List (Addr × Obj)) (σ : List (Option V)) (H : Hp) (s : Shared) : Prop where
  ok : X.Ok
  os : s.os = X.s₀.os
  bare : AllBare s.gens
  base : Un X.fs X.ex X.H₀ H X.s₀.heap s.heap
  loc : ∃ m, s.heap.Ns X.env.locals m ∧ ∀ (i : Nat) (x : Str) (v : V), X.N[i]? = some x → σ[i]? = some (some v) → Eg X.env.scope x → ∃ u, bg v u ∧ Fu X.env s.heap m x u
  cell : ∀ x c, X.env.cells.lookup x = some c → ∃ v, s.heap.IsCell c v
  free : H X.env.locals = none
  freeC : ∀ x c, X.env.cells.lookup x = some c → H c = none
  pin : ∀ p ∈ X.pn ++ pins, s.heap.get? p.1 = some p.2 ∧ H p.1 = none ∧ p.1 ≠ X.env.locals ∧ p.1 ∉ X.fs ∧ ∀ v, p.2.data ≠ .cell v
  hok : i7 X.prog X.w H s.heap
  len : σ.length = X.N.length
section
variable {X : Cx} {pins : List (Addr × Obj)} {σ : List (Option V)} {H H' : Hp} {s : Shared} {h' : Heap}
theorem Cx.Ok.nofr (ok : X.Ok) {b : Addr} {o : Obj} (e : X.base.get? b = some o) : b ∉ X.fs := fun hb => by
  have := (ok.funs.mem hb).1
  rw [e] at this; cases this
theorem av.bs (I : av X pins σ H s) : ∀ b o, X.base.get? b = some o → s.heap.get? b = some o ∧ H b = none := fun b o e =>
  ⟨I.base.keep b o (I.ok.bs b o e).1 (I.ok.bs b o e).2 (I.ok.nofr e) (I.ok.noex b o e), I.base.free b o (I.ok.bs b o e).1 (I.ok.bs b o e).2 (I.ok.noex b o e)⟩
theorem av.bk (I : av X pins σ H s) : ∀ b o, X.base.get? b = some o → s.heap.get? b = some o := fun b o e => (I.bs b o e).1
theorem av.mod (I : av X pins σ H s) : Mod X.K X.mg X.base := I.ok.mod
theorem av.kIn (I : av X pins σ H s) : X.K.In s.heap := I.ok.mod.kin.keeps I.bk
theorem av.nolimit (I : av X pins σ H s) : s.heap.NoLimit := I.ok.mod.nolimit.keeps I.bk
theorem av.fr (I : av X pins σ H s) : ∃ m, Fr X.base X.env.locals s.heap m :=
  let ⟨m, hn, _⟩ := I.loc
  ⟨m, hn, I.bk, Nat.le_trans I.ok.bsz I.ok.above⟩
theorem av.lt (I : av X pins σ H s) : X.env.locals < s.heap.objs.size := let ⟨_, hn, _⟩ := I.loc; hn.lt
theorem av.sz (I : av X pins σ H s) : X.s₀.heap.objs.size ≤ s.heap.objs.size := Nat.le_trans I.ok.above (Nat.le_of_lt I.lt)
theorem av.nofs (I : av X pins σ H s) {a : Addr} (h : s.heap.objs.size ≤ a) : a ∉ X.fs := fun hb => by
  obtain ⟨_, o, ho, _⟩ := I.ok.funs.mem hb
  exact absurd (Nat.lt_of_lt_of_le (Heap.lt_size ho) (Nat.le_trans I.sz h)) (Nat.lt_irrefl _)
theorem av.cne (I : av X pins σ H s) : ∀ x c, X.env.cells.lookup x = some c → c ≠ X.env.locals := fun x c e z => by
  obtain ⟨v, o, ho, hd⟩ := I.cell x c e
  obtain ⟨m, ⟨o', es, ep, ho', hd', _⟩, _⟩ := I.loc
  rw [z, ho'] at ho; cases ho; rw [hd'] at hd; cases hd
theorem av.funs (I : av X pins σ H s) : s.heap.FunFrames X.base X.outer := by
  have all : ∀ (l : List Env), (∀ b ∈ qd l, b ∈ X.fs) → X.s₀.heap.FunFrames X.base l → s.heap.FunFrames X.base l := by
    intro l
    induction l with
    | nil => intro _ _; trivial
    | cons env r ih =>
      intro hs hl
      obtain ⟨hk, ⟨L, o, hf, hn, ho, hd⟩, hr⟩ := hl
      have hL : L ∈ X.fs := hs L (by unfold qd; rw [List.filterMap_cons, hf]; exact List.mem_cons_self)
      obtain ⟨sl, e⟩ := I.base.slot L o ho (I.ok.frf L hL) hL fun z => I.ok.exfs L z hL
      exact ⟨hk, ⟨L, _, hf, hn, e, hd⟩, ih (fun b hb => hs b (by unfold qd; rw [List.filterMap_cons, hf]; exact List.mem_cons_of_mem _ hb)) hr⟩
  exact all X.outer (fun _ hb => hb) I.ok.funs
theorem av.stack (I : av X pins σ H s) : s.heap.FunFrames X.base X.stack := by
  rcases I.ok.stk with e | ⟨e, hf⟩
  · rw [e]; exact I.funs
  · rw [e]
    obtain ⟨m, hn, _⟩ := I.loc
    refine .cons (by rw [I.ok.kind]; decide) hf hn ?_ I.funs
    exact Heap.get?_none_of_le (Nat.le_trans I.ok.bsz I.ok.above)
theorem av.stkSub (I : av X pins σ H s) : ∀ b ∈ qd X.stack, b ∈ X.env.locals :: X.fs := fun b hb => by
  rcases I.ok.stk with e | ⟨e, hf⟩
  · rw [e] at hb; exact List.mem_cons_of_mem _ hb
  · rw [e] at hb
    unfold qd at hb
    rw [List.filterMap_cons, hf] at hb
    exact hb
theorem av.stkFree (I : av X pins σ H s) : ∀ b ∈ qd X.stack, H b = none := fun b hb => by
  rcases List.mem_cons.mp (I.stkSub b hb) with e | hb
  · rw [e]; exact I.free
  · obtain ⟨_, o, ho, _⟩ := I.ok.funs.mem hb
    exact I.base.free b o ho (I.ok.frf b hb) fun z => I.ok.exfs b z hb
theorem av.step {g' : Array GenState} {t' : Nat} {d' : Drawn} {ch : List Addr} (I : av X pins σ H s)
    (hch : ∀ b ∈ ch, (b ∈ X.ex ∨ X.s₀.heap.objs.size ≤ b) ∧ b ≠ X.env.locals ∧ (∀ x c, X.env.cells.lookup x = some c → c ≠ b) ∧ ∀ p ∈ X.pn ++ pins, p.1 ≠ b)
    (keep : ∀ b o, b ≠ X.env.locals → b ∉ X.fs → b ∉ ch → s.heap.get? b = some o → H b = none → h'.get? b = some o)
    (slot : ∀ b o, b ≠ X.env.locals → b ∈ X.fs → b ∉ ch → s.heap.get? b = some o → H b = none → ∃ sl, h'.get? b = some { o with slots := sl }) (free : ∀ b o, b ∉ ch → s.heap.get? b = some o → H b = none → H' b = none)
    (there : ∀ b o, b ∉ ch → s.heap.get? b = some o → ∃ o', h'.get? b = some o')
    (tups : ∀ b xs, H b = some (.tup xs) → H' b = some (.tup xs)) (frzs : ∀ b o u, H b = some (.frz o u) → H' b = some (.frz o u)) (tbls : ∀ b ps, H b = some (.tbl ps) → ∃ more, H' b = some (.tbl (ps ++ more)))
    (ns : ∀ m, s.heap.Ns X.env.locals m → h'.Ns X.env.locals m) (hok : i7 X.prog X.w H' h') (hg : AllBare g') :
    av X pins σ H' { s with heap := h', gens := g', drawn := d', toks := t' } := by
  have neL : ∀ b o, X.s₀.heap.get? b = some o → b ≠ X.env.locals := fun b o e => Nat.ne_of_lt (Nat.lt_of_lt_of_le (Heap.lt_size e) I.ok.above)
  have neC : ∀ b o, X.s₀.heap.get? b = some o → b ∉ X.ex → b ∉ ch := fun b o e hx hb => by
    rcases (hch b hb).1 with z | z
    · exact hx z
    · exact absurd (Nat.lt_of_lt_of_le (Heap.lt_size e) z) (Nat.lt_irrefl _)
  have cellK : ∀ x c, X.env.cells.lookup x = some c → ∀ v, s.heap.IsCell c v → h'.IsCell c v := fun x c e v ⟨o, ho, hd⟩ => by
    have nch : c ∉ ch := fun z => (hch c z).2.2.1 x c e rfl
    by_cases hc : c ∈ X.fs
    · obtain ⟨sl, q⟩ := slot c o (I.cne x c e) hc nch ho (I.freeC x c e)
      exact ⟨_, q, hd⟩
    · exact ⟨o, keep c o (I.cne x c e) hc nch ho (I.freeC x c e), hd⟩
  refine ⟨I.ok, I.os, hg, ⟨fun b o e n hb hx => ?_, fun b o e n hb hx => ?_, fun b o e n hx => ?_, fun b o e hx => ?_, fun b xs e => tups b xs (I.base.tups b xs e), fun b o xs e => frzs b o xs (I.base.frzs b o xs e), fun b ps e => ?_⟩, ?_, fun x c e => ?_, ?_, fun x c e => ?_, fun p hp => ?_, hok, I.len⟩
  · exact keep b o (neL b o e) hb (neC b o e hx) (I.base.keep b o e n hb hx) (I.base.free b o e n hx)
  · obtain ⟨sl, e1⟩ := I.base.slot b o e n hb hx
    obtain ⟨sl', e2⟩ := slot b _ (neL b o e) hb (neC b o e hx) e1 (I.base.free b o e n hx)
    exact ⟨sl', e2⟩
  · obtain ⟨o', e1⟩ := I.base.there b o e hx
    exact free b o' (neC b o e hx) e1 (I.base.free b o e n hx)
  · obtain ⟨o', e1⟩ := I.base.there b o e hx
    exact there b o' (neC b o e hx) e1
  · obtain ⟨m1, e1⟩ := I.base.tbls b ps e
    obtain ⟨m2, e2⟩ := tbls b _ e1
    exact ⟨m1 ++ m2, by rw [e2, Array.append_assoc]⟩
  · obtain ⟨m, hn, hl⟩ := I.loc
    refine ⟨m, ns m hn, fun i x v e1 e2 e3 => ?_⟩
    obtain ⟨u, r, l⟩ := hl i x v e1 e2 e3
    refine ⟨u, r, ?_⟩
    rcases l with l | ⟨k, c, e, z⟩
    · exact .inl l
    · exact .inr ⟨k, c, e, cellK x c e _ z⟩
  · obtain ⟨v, z⟩ := I.cell x c e
    exact ⟨v, cellK x c e v z⟩
  · obtain ⟨m, ⟨o, _, _, ho, _⟩, _⟩ := I.loc
    exact free _ o (fun z => (hch _ z).2.1 rfl) ho I.free
  · obtain ⟨v, o, ho, hd⟩ := I.cell x c e
    exact free c o (fun z => (hch c z).2.2.1 x c e rfl) ho (I.freeC x c e)
  · obtain ⟨e, n, ne, nf, d⟩ := I.pin p hp
    have nch : p.1 ∉ ch := fun z => (hch p.1 z).2.2.2 p hp rfl
    exact ⟨keep p.1 p.2 ne nf nch e n, free p.1 p.2 nch e n, ne, nf, d⟩
theorem av.un {t' : Nat} (I : av X pins σ H s) (u : Un X.fs [] H H' s.heap h') (hok : i7 X.prog X.w H' h') : av X pins σ H' { s with heap := h', toks := t' } := by
  obtain ⟨m, ⟨o, es, ep, ho, r⟩, _⟩ := id I.loc
  obtain ⟨sl, hL⟩ := u.any ho I.free (by simp)
  exact I.step (g' := s.gens) (d' := s.drawn) (ch := []) (fun _ z => nomatch z) (fun b o _ hb _ e n => u.keep b o e n hb (by simp)) (fun b o _ hb _ e n => u.slot b o e n hb (by simp)) (fun b o _ e n => u.free b o e n (by simp)) (fun b o _ e => u.there b o e (by simp)) u.tups u.frzs u.tbls (fun m' hm => by
    obtain ⟨o', es', ep', ho', r'⟩ := hm
    rw [ho] at ho'; cases ho'
    exact ⟨_, es', ep', hL, r'⟩) hok I.bare
theorem av.call {g' : Array GenState} {t' : Nat} {d' : Drawn} {ch : List Addr} (I : av X pins σ H s) (u : Un (qd X.stack) ch H H' s.heap h') (hok : i7 X.prog X.w H' h') (hg : AllBare g')
    (hch : ∀ b ∈ ch, (b ∈ X.ex ∨ X.s₀.heap.objs.size ≤ b) ∧ b ≠ X.env.locals ∧ (∀ x c, X.env.cells.lookup x = some c → c ≠ b) ∧ ∀ p ∈ X.pn ++ pins, p.1 ≠ b) :
    av X pins σ H' { s with heap := h', gens := g', drawn := d', toks := t' } := by
  obtain ⟨m, ⟨o, es, ep, ho, r⟩, _⟩ := id I.loc
  obtain ⟨sl, hL⟩ := u.any ho I.free fun z => (hch _ z).2.1 rfl
  exact I.step (ch := ch) hch (fun b o hL hb hc e n => u.keep b o e n (fun z => (List.mem_cons.mp (I.stkSub b z)).elim hL hb) hc) (fun b o _ _ hc e n => u.any e n hc) (fun b o hc e n => u.free b o e n hc) (fun b o hc e => u.there b o e hc) u.tups u.frzs u.tbls (fun m' hm => by
    obtain ⟨o', es', ep', ho', r'⟩ := hm
    rw [ho] at ho'; cases ho'
    exact ⟨_, es', ep', hL, r'⟩) hok hg
theorem av.turned {t' : Nat} {it : Addr} (I : av X pins σ H s) (k : ∀ b o, b ≠ it → s.heap.get? b = some o → h'.get? b = some o) (hn : H it = none) (hL : it ≠ X.env.locals)
    (h1 : it ∈ X.ex ∨ X.s₀.heap.objs.size ≤ it) (h2 : ∀ x c, X.env.cells.lookup x = some c → c ≠ it) (h3 : ∀ p ∈ X.pn ++ pins, p.1 ≠ it) : av X pins σ H { s with heap := h', toks := t' } := by
  have nit : ∀ b u, H b = some u → b ≠ it := fun b u e z => by rw [z, hn] at e; cases e
  refine I.step (g' := s.gens) (d' := s.drawn) (ch := [it]) (fun b hb => ?_) (fun b o _ _ hc e _ => k b o (fun z => hc (by simp [z])) e) (fun b o _ _ hc e _ => ⟨o.slots, k b o (fun z => hc (by simp [z])) e⟩) (fun _ _ _ _ n => n)
    (fun b o hc e => ⟨o, k b o (fun z => hc (by simp [z])) e⟩) (fun _ _ e => e) (fun _ _ _ e => e) (fun b ps e => ⟨#[], by rw [e]; simp⟩) (fun m hm => ?_) (fun b u e => ?_) I.bare
  · have e : b = it := by simpa using hb
    subst e
    exact ⟨h1, hL, h2, h3⟩
  · obtain ⟨o, es, ep, ho, r⟩ := hm
    exact ⟨o, es, ep, k _ o (Ne.symm hL) ho, r⟩
  · refine (I.hok b u e).stay (fun c v hc q => k c v ?_ q) (fun _ q => q) fun _ _ q => q
    rcases hc with z | z
    · rw [z]; exact nit b u e
    · exact nit c _ z
theorem av.tok (I : av X pins σ H s) (t : Nat) : av X pins σ H { s with toks := t } := I.un (h' := s.heap) (t' := t) Un.refl I.hok
theorem av.kept {t' : Nat} (I : av X pins σ H s) (k : ∀ b u, s.heap.get? b = some u → h'.get? b = some u) : av X pins σ H { s with heap := h', toks := t' } := I.un (Un.kept k) (I.hok.kept k)
theorem av.laid {a : Addr} {o : HO} {t' : Nat} (I : av X pins σ H s) (k : ∀ b u, s.heap.get? b = some u → h'.get? b = some u) (hp : s.heap.objs.size ≤ a) (new : cv X.prog X.w (upd H a o) h' a o) :
    av X pins σ (upd H a o) { s with heap := h', toks := t' } := I.un (Un.laid k hp (I.hok.fresh hp)) (I.hok.laid k hp new)
theorem av.write {x e : Addr} {o : HO} {t' : Nat} (I : av X pins σ H s) (mu : EK (H x)) (he : e = x ∨ H e = some (.own x)) (k : ∀ b u, b ≠ e → s.heap.get? b = some u → h'.get? b = some u) (heo : ∃ u, h'.get? e = some u)
    (new : cv X.prog X.w (upd H x o) h' x o) : av X pins σ (upd H x o) { s with heap := h', toks := t' } := I.un (Un.write mu he k heo) (I.hok.write mu he k heo new)
theorem av.pins_of {pins' : List (Addr × Obj)} (I : av X pins σ H s) (h : ∀ p ∈ pins', s.heap.get? p.1 = some p.2 ∧ H p.1 = none ∧ p.1 ≠ X.env.locals ∧ p.1 ∉ X.fs ∧ ∀ v, p.2.data ≠ .cell v) : av X pins' σ H s :=
  ⟨I.ok, I.os, I.bare, I.base, I.loc, I.cell, I.free, I.freeC, fun p hp => (List.mem_append.mp hp).elim (fun z => I.pin p (List.mem_append_left _ z)) (h p), I.hok, I.len⟩
theorem p9 {N : List Str} (hN : N.Nodup) {i j : Nat} {x : Str} (a : N[i]? = some x) (b : N[j]? = some x) : i = j := by
  obtain ⟨h1, e1⟩ := List.getElem?_eq_some_iff.mp a
  obtain ⟨h2, e2⟩ := List.getElem?_eq_some_iff.mp b
  exact (List.getElem_inj hN).mp (e1.trans e2.symm)
theorem tV {M : Model} {A : Around} {E : Value → Shared → Prop} {i : Nat} {x : Str} {v : V} {u : Value} {Q : Unit → Shared → Prop} (I : av X pins σ H s) (hN : X.N.Nodup) (hi : X.N[i]? = some x) (hx : xa X.env.scope x) (r : bg v u)
    (h : ∀ s', av X pins (σ.set i (some v)) H s' → (∃ a, Heap.SameBut a s.heap s'.heap ∧ (a = X.env.locals ∨ X.env.cells.lookup x = some a)) → Q () s') (hf : X.fn x = true ∨ X.env.scope.names.lookup x = some .local := by first | exact .inl rfl | exact .inr rfl | assumption) : wpAny M A (storeName X.env x u) Q E s := by
  obtain ⟨m, hn, hl⟩ := id I.loc
  have hcls : (X.env.scope.kind == .class || (X.env.scope.kind == .module && X.env.locals != X.env.globals)) = false := by rw [I.ok.kind]; rfl
  have hiσ : i < σ.length := by rw [I.len]; exact (List.getElem?_eq_some_iff.mp hi).1
  have cne := I.cne
  have tracked : ∀ {a : Addr} {h' : Heap}, (∃ o, s.heap.get? a = some o ∧ H a = none) → Heap.SameBut a s.heap h' → i7 X.prog X.w H h' := fun {a h'} ha hs b ob e => by
    obtain ⟨_, _, hfree⟩ := ha
    refine (I.hok b ob e).stay (fun c w' hc q => (hs.2 c ?_).trans q) (fun _ q => q) fun _ _ q => q
    rintro rfl
    rcases hc with rfl | hc
    · rw [hfree] at e; cases e
    · rw [hfree] at hc; cases hc
  rcases hx with hk | hk
  · refine wpAny_storeName_local hk hn (fun h' hn' hs => ?_) hcls
    obtain ⟨oL, _, _, hoL, _⟩ := id hn
    refine h _ ⟨I.ok, I.os, I.bare, ⟨fun b o e n hb hx => ?_, fun b o e n hb hx => ?_, I.base.free, fun b o e hx => ?_, I.base.tups, I.base.frzs, I.base.tbls⟩, ⟨_, hn', fun j y v' e1 e2 e3 => ?_⟩, fun y c e => ?_, I.free, I.freeC, fun p hp => ?_, tracked ⟨oL, hoL, I.free⟩ hs, by simpa using I.len⟩ ⟨_, hs, .inl rfl⟩
    · exact (hs.2 b (Nat.ne_of_lt (Nat.lt_of_lt_of_le (Heap.lt_size e) I.ok.above))).trans (I.base.keep b o e n hb hx)
    · obtain ⟨sl, e1⟩ := I.base.slot b o e n hb hx
      exact ⟨sl, (hs.2 b (Nat.ne_of_lt (Nat.lt_of_lt_of_le (Heap.lt_size e) I.ok.above))).trans e1⟩
    · obtain ⟨o', e1⟩ := I.base.there b o e hx
      exact ⟨o', (hs.2 b (Nat.ne_of_lt (Nat.lt_of_lt_of_le (Heap.lt_size e) I.ok.above))).trans e1⟩
    · by_cases hj : j = i
      · subst hj
        rw [hi] at e1; cases e1
        rw [List.getElem?_set_self hiσ] at e2
        cases e2
        exact ⟨u, r, .inl ⟨hk, by simp⟩⟩
      · rw [List.getElem?_set_ne (Ne.symm hj)] at e2
        obtain ⟨u', r', q⟩ := hl j y v' e1 e2 e3
        refine ⟨u', r', ?_⟩
        rcases q with ⟨k, e⟩ | ⟨k, c, e, z⟩
        · refine .inl ⟨k, ?_⟩
          have : y ≠ x := fun e => hj (p9 hN e1 (e ▸ hi))
          simp [this, e]
        · exact .inr ⟨k, c, e, z.sameBut hs (cne y c e)⟩
    · obtain ⟨w', z⟩ := I.cell y c e
      exact ⟨w', z.sameBut hs (cne y c e)⟩
    · obtain ⟨e, n, ne, nf, d⟩ := I.pin p hp
      exact ⟨(hs.2 p.1 ne).trans e, n, ne, nf, d⟩
  · have hfn : X.fn x = true := by
      rcases hf with z | z
      · exact z
      · rw [z] at hk; cases hk
    obtain ⟨c, hc⟩ := I.ok.has x (.inl hk)
    obtain ⟨w', z⟩ := I.cell x c hc
    refine wpAny_storeName_cell I.ok.kind hk hc z (fun h' hc' hs => ?_)
    obtain ⟨oc, hoc, hocd⟩ := id z
    refine h { s with heap := h' } ⟨I.ok, I.os, I.bare, ⟨fun b o e n hb hx => ?_, fun b o e n hb hx => ?_, I.base.free, fun b o e hx => ?_, I.base.tups, I.base.frzs, I.base.tbls⟩, ⟨m, hn.sameBut hs (Ne.symm (cne x c hc)), fun j y v' e1 e2 e3 => ?_⟩, fun y c' e => ?_, I.free, I.freeC, fun p hp => ?_, tracked ⟨oc, hoc, I.freeC x c hc⟩ hs, by simpa using I.len⟩ ⟨c, hs, .inr hc⟩
    · exact (hs.2 b (Nat.ne_of_lt (Nat.lt_of_lt_of_le (Heap.lt_size e) (I.ok.cab x c hfn hc)))).trans (I.base.keep b o e n hb hx)
    · obtain ⟨sl, e1⟩ := I.base.slot b o e n hb hx
      exact ⟨sl, (hs.2 b (Nat.ne_of_lt (Nat.lt_of_lt_of_le (Heap.lt_size e) (I.ok.cab x c hfn hc)))).trans e1⟩
    · obtain ⟨o', e1⟩ := I.base.there b o e hx
      exact ⟨o', (hs.2 b (Nat.ne_of_lt (Nat.lt_of_lt_of_le (Heap.lt_size e) (I.ok.cab x c hfn hc)))).trans e1⟩
    · by_cases hj : j = i
      · subst hj
        rw [hi] at e1; cases e1
        rw [List.getElem?_set_self hiσ] at e2
        cases e2
        exact ⟨u, r, .inr ⟨.inl hk, c, hc, hc'⟩⟩
      · rw [List.getElem?_set_ne (Ne.symm hj)] at e2
        obtain ⟨u', r', q⟩ := hl j y v' e1 e2 e3
        refine ⟨u', r', ?_⟩
        rcases q with q | ⟨k, c', e, z'⟩
        · exact .inl q
        · refine .inr ⟨k, c', e, z'.sameBut hs ?_⟩
          rintro rfl
          exact hj (p9 hN e1 (I.ok.inj _ _ _ e hc ▸ hi))
    · by_cases hcc : c' = c
      · subst hcc; exact ⟨_, hc'⟩
      · obtain ⟨w2, z2⟩ := I.cell y c' e
        exact ⟨w2, z2.sameBut hs hcc⟩
    · obtain ⟨e, n, ne, nf, d⟩ := I.pin p hp
      refine ⟨(hs.2 p.1 ?_).trans e, n, ne, nf, d⟩
      intro q
      rw [q, hoc] at e
      have q' : oc = p.2 := Option.some.inj e
      exact d w' (by rw [← q']; exact hocd)
theorem lF {M : Model} {A : Around} {E : Value → Shared → Prop} {i : Nat} {x : Str} {v : V} {u : Value} {Q : Unit → Shared → Prop} (I : av X pins σ H s) (hN : X.N.Nodup) (hi : X.N[i]? = some x) (hx : xa X.env.scope x) (r : bg v u)
    (h : ∀ s', av X pins (σ.set i (some v)) H s' → Q () s') (hf : X.fn x = true ∨ X.env.scope.names.lookup x = some .local := by first | exact .inl rfl | exact .inr rfl | assumption) : wpAny M A (storeName X.env x u) Q E s :=
  tV I hN hi hx r (fun s' I' _ => h s' I') hf
theorem av.call' {s' : Shared} {ch : List Addr} (I : av X pins σ H s) (ho : s'.os = s.os) (u : Un (qd X.stack) ch H H' s.heap s'.heap) (hok : i7 X.prog X.w H' s'.heap) (hg : AllBare s'.gens)
    (hch : ∀ b ∈ ch, (b ∈ X.ex ∨ X.s₀.heap.objs.size ≤ b) ∧ b ≠ X.env.locals ∧ (∀ x c, X.env.cells.lookup x = some c → c ≠ b) ∧ ∀ p ∈ X.pn ++ pins, p.1 ≠ b) : av X pins σ H' s' := by
  obtain ⟨h', g', d', t', o'⟩ := s'
  have e : o' = s.os := ho
  subst e
  exact I.call (g' := g') (t' := t') (d' := d') u hok hg hch
end
abbrev XK := Value → Option Addr → Hp → Prop
abbrev St := List (Option V)
abbrev VK := V → Hp → Prop
abbrev TE := St → Hp → VK → Prop
abbrev TT := St → Hp → (Bool → Hp → Prop) → Prop
abbrev TA := St → Hp → (List V → Hp → Prop) → Prop
structure kZ where
  nx : St → Hp → Prop
  rt : VK
  bk : St → Hp → Prop := fun _ _ => False
  ct : St → Hp → Prop := fun _ _ => False
abbrev TS := kZ → St → Hp → Prop
def EP (X : Cx) (pins : List (Addr × Obj)) (σ : St) (Q : VK) (u : Value) (s' : Shared) : Prop := ∃ v H', av X pins σ H' s' ∧ bg v u ∧ Q v H'
def TP (X : Cx) (pins : List (Addr × Obj)) (σ : St) (Q : Bool → Hp → Prop) (b : Bool) (s' : Shared) : Prop := ∃ H', av X pins σ H' s' ∧ Q b H'
def AP (X : Cx) (pins : List (Addr × Obj)) (σ : St) (Q : List V → Hp → Prop) (us : List Value) (s' : Shared) : Prop := ∃ vs H', av X pins σ H' s' ∧ aF vs us ∧ Q vs H'
def SP (X : Cx) (pins : List (Addr × Obj)) (D : kZ) (f : Flow) (s' : Shared) : Prop :=
  match f with
  | .next => ∃ σ' H', av X pins σ' H' s' ∧ D.nx σ' H'
  | .brk => ∃ σ' H', av X pins σ' H' s' ∧ D.bk σ' H'
  | .cont => ∃ σ' H', av X pins σ' H' s' ∧ D.ct σ' H'
  | .ret u => ∃ v σ' H', av X pins σ' H' s' ∧ bg v u ∧ D.rt v H'
def PE (X : Cx) (e : Expr) (t : TE) : Prop :=
  ∀ (pins : List (Addr × Obj)) (s : Shared) (σ : St) (H : Hp) (Q : VK), av X pins σ H s → t σ H Q → wpAny (model X.prog X.w) X.A (eval e X.env) (EP X pins σ Q) X.xe s
def PT (X : Cx) (e : Expr) (t : TT) : Prop :=
  ∀ (pins : List (Addr × Obj)) (s : Shared) (σ : St) (H : Hp) (Q : Bool → Hp → Prop), av X pins σ H s → t σ H Q → wpAny (model X.prog X.w) X.A (isTrue e X.env (eval e X.env)) (TP X pins σ Q) X.xe s
def PW (X : Cx) (e : Expr) (t : TT) : Prop :=
  ∀ (whole : Sem Value) (pins : List (Addr × Obj)) (s : Shared) (σ : St) (H : Hp) (Q : Bool → Hp → Prop), av X pins σ H s → t σ H Q → wpAny (model X.prog X.w) X.A (isTrue e X.env whole) (TP X pins σ Q) X.xe s
theorem PW.pt {X : Cx} {e : Expr} {t : TT} (h : PW X e t) : PT X e t := h _
def PA (X : Cx) (es : List Expr) (t : TA) : Prop :=
  ∀ (pos : Pos) (pins : List (Addr × Obj)) (s : Shared) (σ : St) (H : Hp) (Q : List V → Hp → Prop), av X pins σ H s → t σ H Q → wpAny (model X.prog X.w) X.A (spliced (backTo pos (starEach es X.env))) (AP X pins σ Q) X.xe s
def PS (X : Cx) (st : Stmt) (t : TS) : Prop :=
  ∀ (pins : List (Addr × Obj)) (s : Shared) (σ : St) (H : Hp) (D : kZ), av X pins σ H s → t D σ H → wpAny (model X.prog X.w) X.A (exec st X.env) (SP X pins D) X.xe s
def m9 (X : Cx) (st : List Stmt) (t : TS) : Prop :=
  ∀ (pins : List (Addr × Obj)) (s : Shared) (σ : St) (H : Hp) (D : kZ), av X pins σ H s → t D σ H → wpAny (model X.prog X.w) X.A (execs st X.env) (SP X pins D) X.xe s
theorem cE {α : Type} {t : Sem α} {Q Q' : α → Shared → Prop} {M : Model} {A : Around} {E : Value → Shared → Prop} {s : Shared} (h : wpAny M A t Q E s) (hQ : ∀ a s, Q a s → Q' a s) : wpAny M A t Q' E s := wpAny_mono h hQ fun _ _ x => x
end L2
namespace L2
open PySem PySem.Spec PyProof.Rows
section
variable {X : Cx}
def Cs (i : Nat) : TE := fun σ H Q => ∃ v, σ[i]? = some (some v) ∧ Q v H
def tC (v : V) : TE := fun _ H Q => Q v H
theorem vD {i : Nat} {x : Str} {pos : Pos} (hN : X.N[i]? = some x) (hv : Eg X.env.scope x) (hd : (x == ("__debug__" : Str)) = false := by decide) (hcd : (x == ("__classdict__" : Str)) = false := by decide) : PE X (.Name x pos) (Cs i) := by
  intro pins s σ H Q I h
  obtain ⟨v, e, h⟩ := h
  obtain ⟨m, hn, hl⟩ := I.loc
  obtain ⟨u, r, l⟩ := hl i x v hN e hv
  have fin : EP X pins σ Q u s := ⟨v, H, I, r, h⟩
  rcases l with ⟨hk, hm⟩ | ⟨hk, c, hc, hcell⟩
  · exact wpAny_Name (wpAny_loadName_local I.ok.kind hk hn hm fin) hd
  · rcases hk with hk | hk
    · exact wpAny_Name (wpAny_loadName_cell I.ok.kind hk hc hcell fin) hd
    · exact wpAny_Name (wpAny_loadName_free I.ok.kind hk hc hcell fin hcd) hd
theorem AQ {i j pos} : PE X (.Constant (.int i) j pos) (tC (.int i)) := fun _ _ _ H _ I h => wpAny_Constant_int ⟨.int i, H, I.tok _, ⟨_, rfl⟩, h⟩
theorem De {b j pos} : PE X (.Constant (.bool b) j pos) (tC (.bl b)) := fun _ _ _ H _ I h => Constant_bool ⟨.bl b, H, I, rfl, h⟩
theorem AN {j pos} : PE X (.Constant .none j pos) (tC .non) := fun _ _ _ H _ I h => Constant_none ⟨.non, H, I, rfl, h⟩
theorem AK {x j pos} : PE X (.Constant (.str x) j pos) (tC (.str x)) := fun _ _ _ H _ I h => Calls.Constant_str ⟨.str x, H, I.tok _, ⟨_, rfl⟩, h⟩
def Gl (X : Cx) (x : Str) : Prop := X.env.kindOf x = some .globalImplicit
theorem jQ {E : Value → Shared → Prop} {pins : List (Addr × Obj)} {s : Shared} {σ : St} {H : Hp} {x : Str} {u : Value} {pos : Pos} {Q : Value → Shared → Prop} (I : av X pins σ H s) (hg : Gl X x) (hm : X.mg x = some u) (h : Q u s)
    (hd : (x == ("__debug__" : Str)) = false := by decide) : wpAny (model X.prog X.w) X.A (eval (.Name x pos) X.env) Q E s :=
  Calls.Name_function_global I.ok.kind hg (Calls.loadGlobal_global (by rw [I.ok.glob]; exact I.mod.glob.keeps I.bk) hm h) hd
theorem mm {E : Value → Shared → Prop} {pins : List (Addr × Obj)} {s : Shared} {σ : St} {H : Hp} {x : Str} {u : Value} {pos : Pos} {Q : Value → Shared → Prop} (I : av X pins σ H s) (hg : Gl X x) (hm : X.mg x = none) (hv : bootBuiltins x = some u) (h : Q u s)
    (hn : x ≠ "__name__" := by decide) (hd : (x == ("__debug__" : Str)) = false := by decide) : wpAny (model X.prog X.w) X.A (eval (.Name x pos) X.env) Q E s := by
  obtain ⟨mb, h1, h2⟩ := I.mod.blt
  exact Calls.Name_function_global I.ok.kind hg (Calls.loadGlobal_builtin (by rw [I.ok.glob]; exact I.mod.glob.keeps I.bk) hm (by rw [I.ok.blt]; exact h1.keeps I.bk) ((h2 x hn).trans hv) h) hd
theorem yc {x : Str} {v : V} {u : Value} {pos : Pos} (hg : Gl X x) (hm : X.mg x = some u) (r : bg v u) (hd : (x == ("__debug__" : Str)) = false := by decide) : PE X (.Name x pos) (tC v) :=
  fun _ _ _ H _ I h => jQ I hg hm ⟨v, H, I, r, h⟩ hd
theorem yf {x : Str} {v : V} {u : Value} {pos : Pos} (hg : Gl X x) (hm : X.mg x = none) (hv : bootBuiltins x = some u) (r : bg v u) (hn : x ≠ "__name__" := by decide) (hd : (x == ("__debug__" : Str)) = false := by decide) : PE X (.Name x pos) (tC v) :=
  fun _ _ _ H _ I h => mm I hg hm hv ⟨v, H, I, r, h⟩ hn hd
def F4 (ta tb : TE) (k : Int → Int → Hp → Prop) : St → Hp → Prop := fun σ H => ta σ H fun x H1 => tb σ H1 fun y H2 => ∃ i j, x = .int i ∧ y = .int j ∧ k i j H2
variable {a b : Expr} {ta tb : TE} {pos : Pos}
def tU (p : Int → Int → Bool) (ta tb : TE) : TE := fun σ H Q => F4 ta tb (fun i j H2 => Q (.bl (p i j)) H2) σ H
abbrev Gx : TE → TE → TE := tU fun i j => decide (i < j)
abbrev Gy : TE → TE → TE := tU fun i j => decide (i ≤ j)
abbrev Gz : TE → TE → TE := tU fun i j => decide (j < i)
abbrev GA : TE → TE → TE := tU fun i j => decide (j ≤ i)
abbrev F2 : TE → TE → TE := tU fun i j => decide (i = j)
abbrev F1 : TE → TE → TE := tU fun i j => !decide (i = j)
variable {tA tB' : TT} {dz : List Expr}
def uM (t u : TT) : TT := fun σ H Q => t σ H fun c H1 => if c = true then Q true H1 else u σ H1 Q
def dZ (t : TT) : TT := fun σ H Q => t σ H fun c H1 => Q (!c) H1
theorem Ay (ha : PT X a tA) : PW X (.BoolOp .Or [a] pos) tA := by
  intro wh pins s σ H Q I h
  refine isTrue_or (cE (ha pins s σ H Q I h) fun c s1 e => ?_)
  cases c with
  | false => exact isTrue_or_nil e
  | true => exact e
theorem C2 (ha : PT X a tA) (hb : PW X (.BoolOp .Or (b :: dz) pos) tB') : PW X (.BoolOp .Or (a :: b :: dz) pos) (uM tA tB') := by
  intro wh pins s σ H Q I h
  refine isTrue_or (cE (ha pins s σ H _ I h) fun c s1 ⟨H1, I1, q1⟩ => ?_)
  cases c with
  | true => exact ⟨H1, I1, q1⟩
  | false => exact hb wh pins s1 σ H1 Q I1 q1
theorem AB (ha : PT X a tA) : PT X (.UnaryOp .Not a pos) (dZ tA) := by
  intro pins s σ H Q I h
  exact isTrue_not (ha pins s σ H (fun c H1 => Q (!c) H1) I h)
def CF (ta tb : TE) : TE := fun σ H Q => ta σ H fun x H1 => ∃ c, x = .bl c ∧ if c = true then tb σ H1 Q else Q (.bl false) H1
def Cw (ta : TE) : TE := fun σ H Q => ta σ H fun x H1 => ∃ c, x = .bl c ∧ Q (.bl (!c)) H1
theorem AL {op} {t : TE} (h : PE X a t) : PE X (.BoolOp op [a] pos) t := fun pins s σ H Q I hw => BoolOp_one (h pins s σ H Q I hw)
theorem AU (ha : PE X a ta) (hb : PE X (.BoolOp .And (b :: dz) pos) tb) : PE X (.BoolOp .And (a :: b :: dz) pos) (CF ta tb) := by
  intro pins s σ H Q I h
  refine BoolOp_and (cE (ha pins s σ H _ I h) fun v s1 ⟨x, H1, I1, r1, q1⟩ => ?_)
  obtain ⟨c, rfl, q1⟩ := q1
  cases r1
  refine wpAny_truthy_bool ?_
  cases c with
  | true => exact hb pins s1 σ H1 Q I1 q1
  | false => exact ⟨.bl false, H1, I1, rfl, q1⟩
theorem AM (ha : PE X a ta) : PE X (.UnaryOp .Not a pos) (Cw ta) := by
  intro pins s σ H Q I h
  refine UnaryOp_ (cE (ha pins s σ H _ I h) fun v s1 ⟨x, H1, I1, r1, q1⟩ => ?_)
  obtain ⟨c, rfl, q1⟩ := q1
  cases r1
  exact not_of (wpAny_truthy_bool ⟨.bl (!c), H1, I1, rfl, q1⟩)
end
end L2
namespace L2
open PySem PySem.Spec PyProof.Rows
def ji (K : PySem.W.Frag) (H : Hp) (a : Addr) (xs : List V) : Prop :=
  Rd H a (.lst xs) ∨
    ∃ (o : Obj) (its : Array Value) (n : Nat), K.lookup a = some o ∧ o.cls = .type "list" ∧ o.dict = none ∧ o.data = .seq its n ∧ its.size ≤ sizeLine ∧ aF xs its.toList
def iw (K : PySem.W.Frag) (H : Hp) (a : Addr) (xs : List V) : Prop :=
  Rd H a (.tup xs) ∨
    ∃ (o : Obj) (its : Array Value) (n : Nat), K.lookup a = some o ∧ o.cls = .type "tuple" ∧ o.data = .seq its n ∧ its.size ≤ sizeLine ∧ aF xs its.toList
def Fm : Value → Option V
  | .none => some .non
  | .bool b => some (.bl b)
  | .int i _ => some (.int i)
  | .str x _ => some (.str x)
  | .bytes b _ => some (.byt b)
  | .float b _ => some (.flt b)
  | .ref a => some (.ref a)
  | .type n => some (.ty n)
  | _ => none
theorem bg.abs {x : V} {u : Value} (r : bg x u) : Fm u = some x := by
  cases x with
  | non => cases r; rfl
  | bl _ => cases r; rfl
  | int _ => obtain ⟨t, rfl⟩ := r; rfl
  | str _ => obtain ⟨t, rfl⟩ := r; rfl
  | byt _ => obtain ⟨t, rfl⟩ := r; rfl
  | flt _ => obtain ⟨t, rfl⟩ := r; rfl
  | ref _ => cases r; rfl
  | ty _ => cases r; rfl
theorem bg.inj {x y : V} {u : Value} (r : bg x u) (q : bg y u) : x = y := Option.some.inj (r.abs.symm.trans q.abs)
theorem aF.inj : ∀ {xs ys : List V} {us : List Value}, aF xs us → aF ys us → xs = ys
  | _, _, _, .nil, .nil => rfl
  | _, _, _, .cons r t, .cons r' t' => by rw [r.inj r', aF.inj t t']
section
variable {X : Cx} {pins : List (Addr × Obj)} {σ : St} {H : Hp} {s : Shared} {a : Addr} {xs ys : List V}
theorem ji.of {K : PySem.W.Frag} (h : H a = some (.lst xs)) : ji K H a xs := .inl (.inl h)
theorem iw.of {K : PySem.W.Frag} (h : H a = some (.tup xs)) : iw K H a xs := .inl (.inl h)
theorem av.list (I : av X pins σ H s) (h : ji X.K H a xs) : ∃ its : List Value, aF xs its ∧ PlainL s.heap a its.toArray ∧ xs.length ≤ sizeLine := by
  rcases h with h | ⟨o, its, n, hk, hc, hd, hs, hz, r⟩
  · obtain ⟨z, its, n, r, e⟩ := h.ok I.hok
    exact ⟨its, r, ⟨_, n, e, rfl, rfl, rfl⟩, z⟩
  · refine ⟨its.toList, r, ⟨o, n, I.kIn a o hk, hc, hd, by simpa using hs⟩, ?_⟩
    have e := r.length
    simp only [Array.length_toList] at e
    omega
theorem av.tuple (I : av X pins σ H s) (h : iw X.K H a xs) : ∃ its : List Value, aF xs its ∧ IsTup s.heap a its.toArray ∧ xs.length ≤ sizeLine := by
  rcases h with h | ⟨o, its, n, hk, hc, hs, hz, r⟩
  · obtain ⟨z, its, r, p⟩ := h.ok I.hok
    exact ⟨its, r, p, z⟩
  · refine ⟨its.toList, r, ⟨o, I.kIn a o hk, hc, n, by simpa using hs⟩, ?_⟩
    have e := r.length
    simp only [Array.length_toList] at e
    omega
theorem av.tuple_inj (I : av X pins σ H s) (h : iw X.K H a xs) (h' : iw X.K H a ys) : xs = ys := by
  obtain ⟨its, r, ⟨o, e, _, n, d⟩, _⟩ := I.tuple h
  obtain ⟨its', r', ⟨o', e', _, n', d'⟩, _⟩ := I.tuple h'
  rw [e] at e'; cases e'
  rw [d] at d'
  injection d' with d1 _
  have : its = its' := by simpa using congrArg Array.toList d1
  subst this
  exact r.inj r'
end
abbrev Cx.wish (X : Cx) (E : Value → Shared → Prop) : Cx := { X with xe := E }
abbrev Cx.nox (X : Cx) : Cx := X.wish fun _ _ => False
theorem Cx.Ok.wish {X : Cx} (ok : X.Ok) (E : Value → Shared → Prop) : (X.wish E).Ok :=
  ⟨ok.mod, ok.kind, ok.glob, ok.blt, ok.above, ok.inj, ok.has, ok.cab, ok.hd, ok.frames, ok.stk, ok.exf, ok.bs, ok.bsz, ok.noex, ok.exfs, ok.funs, ok.frf⟩
theorem Cx.Ok.unwish {X : Cx} {E : Value → Shared → Prop} (ok : (X.wish E).Ok) : X.Ok :=
  ⟨ok.mod, ok.kind, ok.glob, ok.blt, ok.above, ok.inj, ok.has, ok.cab, ok.hd, ok.frames, ok.stk, ok.exf, ok.bs, ok.bsz, ok.noex, ok.exfs, ok.funs, ok.frf⟩
section
variable {X : Cx} {pins : List (Addr × Obj)} {σ : St} {H : Hp} {s : Shared} {E : Value → Shared → Prop}
theorem av.wish (I : av X pins σ H s) (E : Value → Shared → Prop) : av (X.wish E) pins σ H s := ⟨I.ok.wish E, I.os, I.bare, I.base, I.loc, I.cell, I.free, I.freeC, I.pin, I.hok, I.len⟩
theorem av.unwish (I : av (X.wish E) pins σ H s) : av X pins σ H s := ⟨I.ok.unwish, I.os, I.bare, I.base, I.loc, I.cell, I.free, I.freeC, I.pin, I.hok, I.len⟩
theorem SP.unwish {D : kZ} {f : Flow} {s' : Shared} (h : SP (X.wish E) pins D f s') : SP X pins D f s' := by
  cases f with
  | next => obtain ⟨σ', H', I, q⟩ := h; exact ⟨σ', H', I.unwish, q⟩
  | brk => obtain ⟨σ', H', I, q⟩ := h; exact ⟨σ', H', I.unwish, q⟩
  | cont => obtain ⟨σ', H', I, q⟩ := h; exact ⟨σ', H', I.unwish, q⟩
  | ret u => obtain ⟨v, σ', H', I, r, q⟩ := h; exact ⟨v, σ', H', I.unwish, r, q⟩
theorem m9.nox {st : List Stmt} {t : TS} (h : m9 X.nox st t) : m9 X st t := fun pins s σ H D I hw =>
  wpAny_mono (h pins s σ H D (I.wish _) hw) (fun _ _ q => q.unwish) fun _ _ z => False.elim z
end
section
variable {X : Cx} {st : Stmt} {dz : List Stmt} {t u : TS} {e : Expr} {te : TE} {pos : Pos}
def Cz : TS := fun D σ H => D.nx σ H
def Ct (t u : TS) : TS := fun D σ H => t { D with nx := u D } σ H
theorem sO : m9 X [] Cz := fun _ _ σ H _ I h => wpAny_execs_nil ⟨σ, H, I, h⟩
theorem p6 (h1 : PS X st t) (h2 : m9 X dz u) : m9 X (st :: dz) (Ct t u) := by
  intro pins s σ H D I h
  refine wpAny_execs_cons (cE (h1 pins s σ H { D with nx := u D } I h) fun f s1 q => ?_)
  cases f with
  | next =>
    obtain ⟨σ', H', I', q⟩ := q
    exact h2 pins s1 σ' H' D I' q
  | ret v => exact q
  | brk => exact q
  | cont => exact q
theorem sN (h1 : PS X st t) : m9 X [st] t := by
  intro pins s σ H D I h
  refine wpAny_execs_cons (cE (h1 pins s σ H D I h) fun f s1 q => ?_)
  cases f with
  | next => exact wpAny_execs_nil q
  | ret v => exact q
  | brk => exact q
  | cont => exact q
theorem av.quiet {pins : List (Addr × Obj)} {σ : St} {H : Hp} {s : Shared} (I : av X pins σ H s) : interactive X.env = false := by simp [interactive, I.ok.kind]
def CB (te : TE) : TS := fun D σ H => te σ H fun _ H1 => D.nx σ H1
theorem sP (he : PE X e te) (hs : swapsWith e none pos.line X.env = pure false := by rfl) : PS X (.Expr e pos) (CB te) := by
  intro pins s σ H D I h
  exact wpAny_Expr_any (cE (he pins s σ H _ I h) fun v s1 ⟨x, H1, I1, r1, q1⟩ => ⟨σ, H1, I1, q1⟩) I.quiet hs
def E3 (te : TE) : TS := fun D σ H => te σ H D.rt
theorem AF (he : PE X e te) : PS X (.Return (some e) pos) (E3 te) := by
  intro pins s σ H D I h
  exact wpAny_Return_some (cE (he pins s σ H _ I h) fun v s1 ⟨x, H1, I1, r1, q1⟩ => ⟨x, σ, H1, I1, r1, q1⟩)
def E5 (c : TT) (t u : TS) : TS := fun D σ H => c σ H fun b H1 => if b = true then t D σ H1 else u D σ H1
theorem zq {c : Expr} {a b : List Stmt} {tc : TT} (hc : PT X c tc) (ha : m9 X a t) (hb : m9 X b u) : PS X (.If c a b pos) (E5 tc t u) := by
  intro pins s σ H D I h
  refine wpAny_If (cE (hc pins s σ H _ I h) fun d s1 ⟨H1, I1, q1⟩ => ?_)
  cases d with
  | true => exact ha pins s1 σ H1 D I1 q1
  | false => exact hb pins s1 σ H1 D I1 q1
end
abbrev TG := V → St → Hp → (St → Hp → Prop) → Prop
abbrev zX := List V → St → Hp → (St → Hp → Prop) → Prop
def PG (X : Cx) (target : Expr) (t : TG) : Prop :=
  ∀ (pins : List (Addr × Obj)) (s : Shared) (σ : St) (H : Hp) (v : V) (u : Value) (Q : St → Hp → Prop), av X pins σ H s → bg v u → t v σ H Q →
    wpAny (model X.prog X.w) X.A (assign target X.env u) (fun _ s' => ∃ σ' H', av X pins σ' H' s' ∧ Q σ' H') X.xe s
def El (X : Cx) (ts : List Expr) (t : zX) : Prop :=
  ∀ (pins : List (Addr × Obj)) (s : Shared) (σ : St) (H : Hp) (vs : List V) (us : List Value) (Q : St → Hp → Prop), av X pins σ H s → aF vs us → t vs σ H Q →
    wpAny (model X.prog X.w) X.A (assignInOrder ((assignEach ts X.env).map (·.2)) us) (fun _ s' => ∃ σ' H', av X pins σ' H' s' ∧ Q σ' H') X.xe s
abbrev B0 := V → V → V → Hp → (Hp → Prop) → Prop
def Ek (X : Cx) (t : B0) : Prop :=
  ∀ (pins : List (Addr × Obj)) (s : Shared) (σ : St) (H : Hp) (o i v : V) (ov iv u : Value) (Q : Hp → Prop), av X pins σ H s → bg o ov → bg i iv → bg v u → t o i v H Q →
    wpAny (model X.prog X.w) X.A (setItem ov iv u) (fun _ s' => ∃ H', av X pins σ H' s' ∧ Q H') X.xe s
abbrev GB := V → V → Hp → VK → Prop
section
variable {X : Cx} {pos : Pos}
def d7 (i : Nat) : TG := fun v σ H Q => Q (σ.set i (some v)) H
theorem sQ {i : Nat} {x : Str} (hN : X.N.Nodup) (hi : X.N[i]? = some x) (hx : xa X.env.scope x) (hf : X.fn x = true ∨ X.env.scope.names.lookup x = some .local := by first | exact .inl rfl | exact .inr rfl | assumption) : PG X (.Name x pos) (d7 i) := by
  intro pins s σ H v u Q I r h
  exact wpAny_assign_Name (lF I hN hi hx r (fun s' I' => ⟨_, H, I', h⟩) hf)
def DP : zX := fun vs σ H Q => vs = [] ∧ Q σ H
def zF (t : TG) (u : zX) : zX := fun vs σ H Q => ∃ v r, vs = v :: r ∧ t v σ H fun σ' H' => u r σ' H' Q
theorem xZ : El X [] DP := by
  intro pins s σ H vs us Q I r h
  obtain ⟨e, h⟩ := h
  subst e
  cases r
  exact assignInOrder_nil ⟨σ, H, I, h⟩
theorem p8 {e : Expr} {es : List Expr} {t : TG} {u : zX} (h1 : PG X e t) (h2 : El X es u)
    (hs : (assignEach (e :: es) X.env).map (·.2) = assign e X.env :: (assignEach es X.env).map (·.2) := by rfl) : El X (e :: es) (zF t u) := by
  intro pins s σ H vs us Q I r h
  obtain ⟨v, vr, e1, h⟩ := h
  subst e1
  cases r with
  | cons r rr =>
    rw [hs]
    refine assignInOrder_cons (cE (h1 pins s σ H _ _ _ I r h) fun _ s1 ⟨σ1, H1, I1, q1⟩ => ?_)
    exact h2 pins s1 σ1 H1 _ _ Q I1 rr q1
def jR (K : PySem.W.Frag) (n : Nat) (t : zX) : TG := fun v σ H Q => ∃ a xs, v = .ref a ∧ iw K H a xs ∧ xs.length = n ∧ t xs σ H Q
theorem AH {es : List Expr} {k : Nat} {t : zX} {n : Nat} (hc : X.calm = true) (h : El X es t)
    (hn : (assignEach es X.env).length = n := by rfl) (hst : (assignEach es X.env).findIdx? (·.1) = none := by rfl) : PG X (.Tuple es k pos) (jR X.K n t) := by
  intro pins s σ H v u Q I r hw
  obtain ⟨a, xs, e1, hq, hl, hw⟩ := hw
  subst e1
  cases r
  obtain ⟨its, rv, ht, hz⟩ := I.tuple hq
  refine assign_Tuple_tuple (I.ok.hd hc) ht (by simp [hn, ← hl, rv.length]) hst fun h' hx => ?_
  have I1 : av X pins σ H { s with heap := h' } := I.kept (t' := s.toks) fun b o e => hx b o (Nat.ne_of_lt (Heap.lt_size e)) e
  exact h pins _ σ H xs _ Q I1 (by simpa using rv) hw
def Fg (to ti : TE) (t : B0) : TG := fun v σ H Q => to σ H fun o H1 => ti σ H1 fun i H2 => t o i v H2 fun H3 => Q σ H3
theorem AI {o i : Expr} {to ti : TE} {t : B0} (ho : PE X o to) (hi : PE X i ti) (hs : Ek X t)
    (ha : ∀ v, assign (.Subscript o i pos) X.env v = (do
      let ov ← holding [v] (eval o X.env)
      let iv ← holding [v, ov] (eval i X.env)
      standAt pos
      holding [v, ov, iv] (setItem ov iv v)
      release [v, ov, iv] []) := by intro _; rfl) : PG X (.Subscript o i pos) (Fg to ti t) := by
  intro pins s σ H v u Q I r h
  rw [ha]
  refine wpAny_bind (wpAny_holding (cE (ho pins s σ H _ I h) fun ov s1 ⟨x, H1, I1, r1, q1⟩ => ?_))
  refine wpAny_bind (wpAny_holding (cE (hi pins s1 σ H1 _ I1 q1) fun iv s2 ⟨y, H2, I2, r2, q2⟩ => ?_))
  refine wpAny_bind (wpAny_standAt (wpAny_bind (wpAny_holding (cE (hs pins s2 σ H2 x y v ov iv u _ I2 r1 r2 r q2) fun _ s3 ⟨H3, I3, q3⟩ => ?_))))
  exact wpAny_release ⟨σ, H3, I3, q3⟩
def CD (te : TE) (g : TG) : TS := fun D σ H => te σ H fun x H1 => g x σ H1 D.nx
theorem vp {tg e : Expr} {te : TE} {g : TG} (he : PE X e te) (hg : PG X tg g) (hs : swapsWithSole [tg] e pos.line X.env = pure false := by rfl) (hw : swappedStores [tg] e X.env = pure none := by rfl)
    (h1 : (assignEach [tg] X.env).map (·.2) = [assign tg X.env] := by rfl) : PS X (.Assign [tg] e pos) (CD te g) := by
  intro pins s σ H D I h
  refine wpAny_Assign_stores (cE (he pins s σ H _ I h) fun v s1 ⟨x, H1, I1, r1, q1⟩ => ?_) hs hw
  rw [h1]
  exact cE (hg pins s1 σ H1 x v _ I1 r1 q1) fun _ s2 q => q
theorem AE {i : Nat} {x : Str} {e : Expr} {te : TE} {pos' : Pos} (hN : X.N.Nodup) (hi : X.N[i]? = some x) (hx : xa X.env.scope x) (he : PE X e te) (hs : swapsWith e (some (.Name x pos')) pos.line X.env = pure false := by rfl) (hf : X.fn x = true ∨ X.env.scope.names.lookup x = some .local := by first | exact .inl rfl | exact .inr rfl | assumption) :
    PS X (.Assign [.Name x pos'] e pos) (CD te (d7 i)) := by
  intro pins s σ H D I h
  refine wpAny_Assign_Name (cE (he pins s σ H _ I h) fun v s1 ⟨y, H1, I1, r1, q1⟩ => ?_) hs
  exact lF I1 hN hi hx r1 (fun s2 I2 => ⟨_, H1, I2, q1⟩) hf
end
section
variable {X : Cx} {pos : Pos}
end
structure It where
  go : Nat → Hp → Prop
  yld : Nat → Hp → V → Hp → Prop
  stop : Nat → Hp → Prop
def iN (X : Cx) (pins : List (Addr × Obj)) (H : Hp) (b : Addr) : Prop :=
  H b = none ∧ b ≠ X.env.locals ∧ b ∉ X.fs ∧ (b ∈ X.ex ∨ X.s₀.heap.objs.size ≤ b) ∧ (∀ x c, X.env.cells.lookup x = some c → c ≠ b) ∧ ∀ p ∈ X.pn ++ pins, p.1 ≠ b
theorem av.fpOk {X : Cx} {pins : List (Addr × Obj)} {σ : St} {H H' : Hp} {s : Shared} {b : Addr} (I : av X pins σ H s) (hb : s.heap.objs.size ≤ b) (hn : H' b = none) : iN X pins H' b := by
  refine ⟨hn, Nat.ne_of_gt (Nat.lt_of_lt_of_le I.lt hb), I.nofs hb, .inr (Nat.le_trans I.sz hb), fun x c e z => ?_, fun p hp z => ?_⟩
  · obtain ⟨v, q⟩ := I.cell x c e
    exact absurd (Nat.lt_of_lt_of_le q.lt (by rw [z]; exact hb)) (Nat.lt_irrefl _)
  · exact absurd (Nat.lt_of_lt_of_le (Heap.lt_size (I.pin p hp).1) (by rw [z]; exact hb)) (Nat.lt_irrefl _)
structure yW (P : Program) (w : World) (K : PySem.W.Frag) (tg : Expr) (J : It) (fp : List Addr) (it : Addr) (tn : Nat → Heap → Prop) : Prop where
  mem : it ∈ fp
  obj : ∀ i h, tn i h → ∀ b ∈ fp, ∃ o, h.get? b = some o ∧ ∀ v, o.data ≠ .cell v
  keep : ∀ i h h', tn i h → (∀ b ∈ fp, ∀ o, h.get? b = some o → h'.get? b = some o) → tn i h'
  item : ∀ (X : Cx), X.prog = P → X.w = w → X.K = K → X.calm = true → ∀ (i : Nat) (pins : List (Addr × Obj)) (s : Shared) (σ : St) (H : Hp) (E : Value → Shared → Prop), av X pins σ H s → (∀ b ∈ fp, iN X pins H b) → tn i s.heap → J.go i H →
    wpAny (model P w) X.A (pyNext (.ref it)) (fun r s1 => ∃ u, r = some u ∧
      wpAny (model P w) X.A (letOwnedTupleGo tg (.ref it) u) (fun _ s2 => ∃ x H', av X pins σ H' s2 ∧ bg x u ∧ J.yld i H x H' ∧ tn (i + 1) s2.heap ∧ ∀ b ∈ fp, H' b = none) E s1) E s
  done : ∀ (X : Cx), X.prog = P → X.w = w → X.K = K → X.calm = true → ∀ (i : Nat) (pins : List (Addr × Obj)) (s : Shared) (σ : St) (H : Hp) (E : Value → Shared → Prop), av X pins σ H s → (∀ b ∈ fp, iN X pins H b) → tn i s.heap → J.stop i H →
    wpAny (model P w) X.A (pyNext (.ref it)) (fun r s1 => r = none ∧ av X pins σ H s1) E s
  self : ∀ (A : Around) (i : Nat) (s : Shared) (Q : Value → Shared → Prop) (E : Value → Shared → Prop), tn i s.heap → Q (.ref it) s → wpAny (model P w) A (pyIter (.ref it)) Q E s
abbrev TI := St → Hp → (It → Hp → Prop) → Prop
def FP (X : Cx) (pins : List (Addr × Obj)) (σ : St) (tg : Expr) (R : It → Hp → Prop) (itv : Value) (s2 : Shared) : Prop :=
  ∃ (it : Addr) (fp : List Addr) (tn : Nat → Heap → Prop) (J : It) (H' : Hp), itv = .ref it ∧ av X pins σ H' s2 ∧ yW X.prog X.w X.K tg J fp it tn ∧ tn 0 s2.heap ∧ (∀ b ∈ fp, iN X pins H' b) ∧ R J H'
def PI (X : Cx) (tg iter : Expr) (wi : TI) : Prop :=
  ∀ (pins : List (Addr × Obj)) (s : Shared) (σ : St) (H : Hp) (R : It → Hp → Prop), av X pins σ H s → wi σ H R →
    wpAny (model X.prog X.w) X.A (eval iter X.env) (fun v s1 => wpAny (model X.prog X.w) X.A (pyIter v) (FP X pins σ tg R) X.xe s1) X.xe s
theorem DN {M : Model} {A : Around} {E : Value → Shared → Prop} {s : Shared} {tg : Expr} {it : Addr} {u : Value} {o : Obj} {n : String} {vs : Array Value} {Q : Unit → Shared → Prop} (ho : s.heap.get? it = some o) (hc : o.cls = .type n) (hd : o.data = .fields vs)
    (hn : ["enumerate", "zip", "dict_itemiterator", "dict_reverseitemiterator", "odict_iterator", "itertools.zip_longest", "itertools.pairwise"].contains n = false) (hQ : Q () s) : wpAny M A (letOwnedTupleGo tg (.ref it) u) Q E s := by
  unfold letOwnedTupleGo
  cases tg <;> first
    | exact wpAny_pure hQ
    | (cases u <;> first
        | exact wpAny_pure hQ
        | (refine wpAny_bind (wpAny_load ho ?_)
           rw [hc, hd]
           show wpAny M A (if (["enumerate", "zip", "dict_itemiterator", "dict_reverseitemiterator", "odict_iterator", "itertools.zip_longest", "itertools.pairwise"].contains n && vs[0]? == some (rawInt _)) = true then _ else _) Q E s
           rw [if_neg (by intro h; rw [hn, Bool.false_and] at h; cases h)]
           exact wpAny_pure hQ))
def EL (lo : Int) (n : Nat) : It := ⟨fun i _ => i < n, fun i H x H' => H' = H ∧ x = .int (lo + i), fun i _ => n ≤ i⟩
theorem qM {P : Program} {w : World} {K : PySem.W.Frag} {tg : Expr} (it : Addr) (lo : Int) (n : Nat) : yW P w K tg (EL lo n) [it] it (fun i h => IsRangeIter h it (lo + (i : Nat) * 1) ((n : Int) - (i : Nat)) 1) where
  mem := by simp
  obj := fun i h st b hb => by
    have e : b = it := by simpa using hb
    subst e
    exact ⟨_, st, fun v z => by
      have z' : Data.fields _ = Data.cell v := z
      cases z'⟩
  keep := fun i h h' st k => k it (by simp) _ st
  item := by
    intro X hP hw hK hc i pins s σ H E I hf st hg
    subst hP hw hK
    obtain ⟨f0, f1, f2, f3, f4, f5⟩ := hf it (by simp)
    have W := Walks.range (prog := X.prog) (w := X.w) (I.ok.hd hc) it lo 1 n
    refine W.item i s _ _ hg st fun v h' tk hv st' kk => ?_
    obtain ⟨t, rfl⟩ := hv
    have I1 : av X pins σ H { s with heap := h', toks := tk } := I.turned (fun b o hb e => kk b o (by simpa using hb) e) f0 f1 f3 f4 f5
    refine ⟨_, rfl, DN (s := { s with heap := h', toks := tk }) (n := "range_iterator") st' rfl rfl (by decide) ⟨.int (lo + i), H, I1, ⟨t, ?_⟩, ⟨rfl, rfl⟩, st', fun b hb => (hf b hb).1⟩⟩
    rw [Int.mul_one]
  done := by
    intro X hP hw hK hc i pins s σ H E I hf st hg
    subst hP hw hK
    obtain ⟨f0, f1, f2, f3, f4, f5⟩ := hf it (by simp)
    exact wpAny_pyNext_range_end (I.ok.hd hc) st (by have : n ≤ i := hg; omega) fun h' eb => ⟨rfl, I.turned (t' := s.toks) (fun b o hb e => eb b o hb e) f0 f1 f3 f4 f5⟩
  self := fun _ _ _ _ _ st h => wpAny_pyIter_rangeiter st h
end L2
namespace L2
open PySem PySem.Spec PyProof.Rows
section
variable {X : Cx} {tg : Expr}
theorem vb {pins : List (Addr × Obj)} {σ : St} {H : Hp} {s : Shared} {R : It → Hp → Prop} {E : Value → Shared → Prop} {lo hi : Int} {t u v : Tok} {tk : Nat} (I : av X pins σ H s) (h1 : -(2 ^ 62) ≤ lo) (h2 : lo < 2 ^ 62) (h3 : -(2 ^ 62) ≤ hi) (h4 : hi < 2 ^ 62)
    (q : R (EL lo (hi - lo).toNat) H) : wpAny (model X.prog X.w) X.A (pyIter (.ref s.heap.objs.size)) (FP X pins σ tg R) E { s with heap := s.heap.push { cls := .type "range", data := .fields #[.int lo t, .int hi u, .int 1 v] }, toks := tk } := by
  refine wpAny_pyIter_range (IsRange.new ..) (small_one h1 h2 h3 h4) ?_
  have I1 : av X pins σ H { s with heap := s.heap.push { cls := .type "range", data := .fields #[.int lo t, .int hi u, .int 1 v] }, toks := tk } := I.kept fun b o e => Heap.get?_push_of_some _ e
  refine ⟨(s.heap.push { cls := .type "range", data := .fields #[.int lo t, .int hi u, .int 1 v] }).objs.size, [(s.heap.push { cls := .type "range", data := .fields #[.int lo t, .int hi u, .int 1 v] }).objs.size], _, _, H, rfl,
    I1.kept (t' := tk) fun b o e => Heap.get?_push_of_some _ e, qM _ lo (hi - lo).toNat, ?_, fun b hb => ?_, q⟩
  · have e1 : lo + ((0 : Nat) : Int) * 1 = lo := by simp
    have e2 : (((hi - lo).toNat : Nat) : Int) - ((0 : Nat) : Int) = Builtin.Range.rangeSize lo hi 1 := by rw [rangeSize_one]; split <;> omega
    show IsRangeIter _ _ (lo + ((0 : Nat) : Int) * 1) ((((hi - lo).toNat : Nat) : Int) - ((0 : Nat) : Int)) 1
    rw [e1, e2]
    exact Heap.get?_push_size _ rfl
  · have e : b = (s.heap.push { cls := .type "range", data := .fields #[.int lo t, .int hi u, .int 1 v] }).objs.size := by simpa using hb
    subst e
    exact I1.fpOk (Nat.le_refl _) (I1.hok.fresh (Nat.le_refl _))
def DK (ta : TA) : TI := fun σ H R => ta σ H fun vs H1 => ∃ j : Int, vs = [.int j] ∧ -(2 ^ 62) ≤ j ∧ j < 2 ^ 62 ∧ R (EL 0 j.toNat) H1
theorem uf {a : Expr} {ta : TA} {p pos : Pos} (hg : Gl X "range") (hm : X.mg "range" = none) (ha : PA X [a] ta) (hs : starEach [a] X.env = [(false, eval a X.env)] := by rfl) : PI X tg (.Call (.Name "range" p) [a] [] pos) (DK ta) := by
  intro pins s σ H R I h
  refine Call_ (mm I hg hm boot_range (PyProof.Rows.callWith_type1 (cE (ha pos pins s σ H _ I h) fun us s1 ⟨vs, H1, I1, r1, q1⟩ => ?_) hs rfl))
  obtain ⟨j, e, q1, q2, q⟩ := q1
  subst e
  cases r1 with
  | cons r rr =>
    cases rr
    obtain ⟨t, rfl⟩ := r
    exact call_range_1 (vb I1 (by omega) (by omega) q1 q2 (by simpa using q))
def Am (wi : TI) (g : TG) (tb : TS) : TS := fun D σ H => wi σ H fun J H1 => ∃ W : Nat → Nat → St → Hp → Prop, (∃ m, W 0 m σ H1) ∧ ∀ i m σ H, W i m σ H →
  (J.stop i H ∧ D.nx σ H) ∨ (J.go i H ∧ ∃ N : St → Hp → Prop, (∀ σ' H', N σ' H' → ∃ m', m' < m ∧ W (i + 1) m' σ' H') ∧ ∀ x H', J.yld i H x H' → g x σ H' fun σ2 H2 => tb { D with nx := N, ct := N, bk := D.nx } σ2 H2)
def lX (fp : List Addr) (h : Heap) : List (Addr × Obj) := fp.filterMap fun b => (h.get? b).map fun o => (b, o)
theorem hU {fp : List Addr} {h : Heap} {b : Addr} {o : Obj} (hb : b ∈ fp) (e : h.get? b = some o) : (b, o) ∈ lX fp h := List.mem_filterMap.mpr ⟨b, hb, by rw [e]; rfl⟩
theorem uj {fp : List Addr} {h : Heap} {p : Addr × Obj} (hp : p ∈ lX fp h) : p.1 ∈ fp ∧ h.get? p.1 = some p.2 := by
  obtain ⟨b, hb, e⟩ := List.mem_filterMap.mp hp
  cases q : h.get? b with
  | none => rw [q] at e; cases e
  | some o =>
    rw [q] at e
    have e' : (b, o) = p := Option.some.inj e
    subst e'
    exact ⟨hb, q⟩
theorem av.pinned {pins : List (Addr × Obj)} {σ : St} {H : Hp} {s : Shared} {fp : List Addr} (I : av X pins σ H s) (hf : ∀ b ∈ fp, iN X pins H b) (ho : ∀ b ∈ fp, ∃ o, s.heap.get? b = some o ∧ ∀ v, o.data ≠ .cell v) : av X (pins ++ lX fp s.heap) σ H s :=
  I.pins_of fun p hp => (List.mem_append.mp hp).elim (fun z => I.pin p (List.mem_append_right _ z)) fun z => by
    obtain ⟨hb, e⟩ := uj z
    obtain ⟨f0, f1, f2, _⟩ := hf p.1 hb
    obtain ⟨o, e', d⟩ := ho p.1 hb
    rw [e] at e'; cases e'
    exact ⟨e, f0, f1, f2, d⟩
theorem av.unpinned {pins pl : List (Addr × Obj)} {σ : St} {H : Hp} {s : Shared} (I : av X (pins ++ pl) σ H s) : av X pins σ H s := I.pins_of fun p hp => I.pin p (List.mem_append_right _ (List.mem_append_left _ hp))
theorem vo {iter : Expr} {body : List Stmt} {wi : TI} {g : TG} {tb : TS} {pos : Pos} (hp : PassesOwn (model X.prog X.w) X.A X.env X.xe) (hc : X.calm = true) (hi : PI X tg iter wi) (hg : PG X tg g) (hb : m9 X body tb)
    (hs : ∀ x, foldedSetIterable iter X.env x = pure x := by intro _; rfl) : PS X (.For tg iter body [] pos) (Am wi g tb) := by
  intro pins s σ H D I h
  refine wpAny_For (cE (hi pins s σ H _ I h) fun v s1 h1 => cE h1 fun itv s2 h2 => ?_) hs
  obtain ⟨it, fp, tn, J, H2, e, I2, T, st2, f2, W, ⟨m0, w0⟩, turn⟩ := h2
  subst e
  -- what stays true of the iterator's objects through the loop
  have stat : ∀ {H' : Hp}, (∀ b ∈ fp, H' b = none) → ∀ b ∈ fp, iN X pins H' b := fun hn b hb => ⟨hn b hb, (f2 b hb).2⟩
  refine codeAny_forLoop_any (fun n s' => ∃ i σ' H', av X pins σ' H' s' ∧ tn i s'.heap ∧ (∀ b ∈ fp, H' b = none) ∧ W i n σ' H') ?_ m0 ⟨0, σ, H2, I2, st2, fun b hb => (f2 b hb).1, w0⟩
  rintro n s3 ⟨i, σ3, H3, I3, st3, fr3, w3⟩
  rcases turn i n σ3 H3 w3 with ⟨stop, qn⟩ | ⟨go, N, hN, step⟩
  · refine wpAny_passesOwn hp (cE (T.done X rfl rfl rfl hc i pins s3 σ3 H3 X.xe I3 (stat fr3) st3 stop) fun r s4 ⟨hr, I4⟩ => ?_)
    subst hr
    exact wpAny_execs_nil ⟨σ3, H3, I4, qn⟩
  · refine wpAny_passesOwn hp (cE (T.item X rfl rfl rfl hc i pins s3 σ3 H3 X.xe I3 (stat fr3) st3 go) fun r s4 ⟨u, hr, h4⟩ => ?_)
    subst hr
    refine wpAny_passesOwn hp (cE h4 fun _ s5 ⟨x, H5, I5, r5, y5, st5, fr5⟩ => ?_)
    have I5' := I5.pinned (stat fr5) (T.obj _ _ st5)
    refine wpAny_passesOwn hp (cE (hg _ s5 σ3 H5 x u _ I5' r5 (step x H5 y5)) fun _ s6 ⟨σ6, H6, I6, q6⟩ => ?_)
    refine wpAny_passesOwn hp (cE (hb _ s6 σ6 H6 _ I6 q6) fun f s7 q7 => ?_)
    have again : ∀ {σ7 : St} {H7 : Hp}, av X (pins ++ lX fp s5.heap) σ7 H7 s7 → N σ7 H7 → ∃ m, m < n ∧ ∃ i σ' H', av X pins σ' H' s7 ∧ tn i s7.heap ∧ (∀ b ∈ fp, H' b = none) ∧ W i m σ' H' := fun {σ7 H7} I7 n7 => by
      obtain ⟨m', hm, w7⟩ := hN σ7 H7 n7
      refine ⟨m', hm, i + 1, σ7, H7, I7.unpinned, T.keep _ _ _ st5 fun b hb o e => (I7.pin (b, o) (List.mem_append_right _ (List.mem_append_right _ (hU hb e)))).1, fun b hb => ?_, w7⟩
      obtain ⟨o, e, d⟩ := T.obj _ _ st5 b hb
      exact (I7.pin (b, o) (List.mem_append_right _ (List.mem_append_right _ (hU hb e)))).2.1
    cases f with
    | next => obtain ⟨σ7, H7, I7, n7⟩ := q7; exact again I7 n7
    | cont => obtain ⟨σ7, H7, I7, n7⟩ := q7; exact again I7 n7
    | brk => obtain ⟨σ7, H7, I7, q7⟩ := q7; exact ⟨σ7, H7, I7.unpinned, q7⟩
    | ret v => obtain ⟨x7, σ7, H7, I7, r7, q7⟩ := q7; exact ⟨x7, σ7, H7, I7.unpinned, r7, q7⟩
end
end L2
namespace L2
open PySem PySem.Spec PyProof.Rows
abbrev R2 := V → V → Hp → VK → Prop
def iu (X : Cx) (f : Value → Value → Sem Value) (r : R2) : Prop :=
  ∀ (pins : List (Addr × Obj)) (s : Shared) (σ : St) (H : Hp) (x y : V) (v u : Value) (Q : VK), av X pins σ H s → bg x v → bg y u → r x y H Q →
    wpAny (model X.prog X.w) X.A (f v u) (EP X pins σ Q) X.xe s
def EH (X : Cx) (f : Value → Sem Value) (r : V → Hp → VK → Prop) : Prop :=
  ∀ (pins : List (Addr × Obj)) (s : Shared) (σ : St) (H : Hp) (x : V) (v : Value) (Q : VK), av X pins σ H s → bg x v → r x H Q →
    wpAny (model X.prog X.w) X.A (f v) (EP X pins σ Q) X.xe s
def iX (X : Cx) (f : Value) (r : List V → Hp → VK → Prop) : Prop :=
  ∀ (pins : List (Addr × Obj)) (s : Shared) (σ : St) (H : Hp) (xs : List V) (us : List Value) (Q : VK), av X pins σ H s → aF xs us → r xs H Q →
    wpAny (model X.prog X.w) X.A (call f us) (EP X pins σ Q) X.xe s
def Fo (X : Cx) (r : V → Hp → (Bool → Hp → Prop) → Prop) : Prop :=
  ∀ (pins : List (Addr × Obj)) (s : Shared) (σ : St) (H : Hp) (x : V) (v : Value) (Q : Bool → Hp → Prop), av X pins σ H s → bg x v → r x H Q →
    wpAny (model X.prog X.w) X.A (truthy v) (TP X pins σ Q) X.xe s
def Cv (r : R2) (ta tb : TE) : TE := fun σ H Q => ta σ H fun x H1 => tb σ H1 fun y H2 => r x y H2 Q
def FZ (r : V → Hp → VK → Prop) (ta : TE) : TE := fun σ H Q => ta σ H fun x H1 => r x H1 Q
def rI (C : Int → Int → Prop) (g : Int → Int → V) : R2 := fun x y H Q => ∃ i j, x = .int i ∧ y = .int j ∧ C i j ∧ Q (g i j) H
def xk (g : Int → Int → V) : R2 := fun x y H Q => ∃ i j, x = .int i ∧ y = .int j ∧ Q (g i j) H
def rU (g : Int → V) : V → Hp → VK → Prop := fun x H Q => ∃ i, x = .int i ∧ Q (g i) H
section
variable {X : Cx} {a b c : Expr} {ta tb tc : TE} {pos : Pos}
theorem BU (ha : PE X a ta) (hb : PE X b tb) {pins : List (Addr × Obj)} {s : Shared} {σ : St} {H : Hp} {R : V → V → Hp → Prop} (I : av X pins σ H s)
    (h : ta σ H fun x H1 => tb σ H1 fun y H2 => R x y H2) {Q : Value → Shared → Prop} {f : Value → Value → Sem Value}
    (hf : ∀ v u s2 x y H2, av X pins σ H2 s2 → bg x v → bg y u → R x y H2 → wpAny (model X.prog X.w) X.A (f v u) Q X.xe s2) :
    wpAny (model X.prog X.w) X.A (eval a X.env) (fun v s₁ => wpAny (model X.prog X.w) X.A (eval b X.env) (fun u s₂ => wpAny (model X.prog X.w) X.A (f v u) Q X.xe s₂) X.xe s₁) X.xe s := by
  refine cE (ha pins s σ H _ I h) fun v s1 ⟨x, H1, I1, r1, q1⟩ => ?_
  refine cE (hb pins s1 σ H1 _ I1 q1) fun u s2 ⟨y, H2, I2, r2, q2⟩ => ?_
  exact hf v u s2 x y H2 I2 r1 r2 q2
theorem C9 {op : Operator} {r : R2} (ho : iu X (binaryOp op) r) (ha : PE X a ta) (hb : PE X b tb) : PE X (.BinOp a op b pos) (Cv r ta tb) := by
  intro pins s σ H Q I h
  exact wpAny_BinOp (BU ha hb I h fun v u s2 x y H2 I2 rx ry q => ho pins s2 σ H2 x y v u Q I2 rx ry q)
theorem C8 {op : UnaryOp} {r : V → Hp → VK → Prop} (ho : EH X (unaryOp op) r) (ha : PE X a ta) : PE X (.UnaryOp op a pos) (FZ r ta) := by
  intro pins s σ H Q I h
  exact UnaryOp_ (cE (ha pins s σ H _ I h) fun v s1 ⟨x, H1, I1, r1, q1⟩ => ho pins s1 σ H1 x v Q I1 r1 q1)
theorem ED {f : Value → Value → Sem Value} {C : Int → Int → Prop} {g : Int → Int → Int}
    (rule : ∀ (i j : Int) (t u : Tok) (s : Shared) (Q : Value → Shared → Prop) (E : Value → Shared → Prop), C i j → Q (.int (g i j) s.toks) { s with toks := s.toks + 1 } → wpAny (model X.prog X.w) X.A (f (.int i t) (.int j u)) Q E s) :
    iu X f (rI C fun i j => .int (g i j)) := by
  intro pins s σ H x y v u Q I rx ry h
  obtain ⟨i, j, rfl, rfl, hc, q⟩ := h
  obtain ⟨t, rfl⟩ := rx
  obtain ⟨t', rfl⟩ := ry
  exact rule i j t t' s _ _ hc ⟨.int (g i j), H, I.tok _, ⟨_, rfl⟩, q⟩
theorem Dv {f : Value → Value → Sem Value} {g : Int → Int → Int}
    (rule : ∀ (i j : Int) (t u : Tok) (s : Shared) (Q : Value → Shared → Prop) (E : Value → Shared → Prop), Q (.int (g i j) s.toks) { s with toks := s.toks + 1 } → wpAny (model X.prog X.w) X.A (f (.int i t) (.int j u)) Q E s) :
    iu X f (xk fun i j => .int (g i j)) := by
  intro pins s σ H x y v u Q I rx ry h
  obtain ⟨i, j, rfl, rfl, q⟩ := h
  obtain ⟨t, rfl⟩ := rx
  obtain ⟨t', rfl⟩ := ry
  exact rule i j t t' s _ _ ⟨.int (g i j), H, I.tok _, ⟨_, rfl⟩, q⟩
theorem Be {f : Value → Value → Sem Value} {g : Int → Int → Bool}
    (rule : ∀ (i j : Int) (t u : Tok) (s : Shared) (Q : Value → Shared → Prop) (E : Value → Shared → Prop), Q (.bool (g i j)) s → wpAny (model X.prog X.w) X.A (f (.int i t) (.int j u)) Q E s) :
    iu X f (xk fun i j => .bl (g i j)) := by
  intro pins s σ H x y v u Q I rx ry h
  obtain ⟨i, j, rfl, rfl, q⟩ := h
  obtain ⟨t, rfl⟩ := rx
  obtain ⟨t', rfl⟩ := ry
  exact rule i j t t' s _ _ ⟨.bl (g i j), H, I, rfl, q⟩
def Ez (i j : Int) : Prop := 0 < j ∧ j < 1073741824
def B3 (i j : Int) : Prop := 0 ≤ j ∧ j ≤ 1000000 ∧ i.natAbs < 2 ^ 64
def xg (i j : Int) : Prop := (-(2 ^ 64) < i ∧ i < 2 ^ 64) ∨ (-(2 ^ 64) < j ∧ j < 2 ^ 64)
theorem xg.ok {i j : Int} (h : xg i j) : IntMulOk i j := by
  rcases h with ⟨h1, h2⟩ | ⟨h1, h2⟩
  · exact .of_left (intBits_le_64 h1 h2)
  · exact .of_right (intBits_le_64 h1 h2)
theorem Bd : iu X (binaryOp .Add) (xk fun i j => .int (i + j)) := Dv fun _ _ _ _ _ _ _ q => add_int q
theorem A4 : iu X (binaryOp .Sub) (xk fun i j => .int (i - j)) := Dv fun _ _ _ _ _ _ _ q => sub_int q
theorem A8 : iu X (binaryOp .Mult) (rI xg fun i j => .int (i * j)) := ED fun _ _ _ _ _ _ _ hc q => mul_int q hc.ok
theorem yk : iu X (binaryOp .FloorDiv) (rI Ez fun i j => .int (i / j)) := ED fun i j _ _ _ _ _ hc q => by
  have h1 : (0 : Int) < j := hc.1
  have h2 : j < 1073741824 := hc.2
  exact floordiv_int (by omega) (by rw [Int.fdiv_eq_ediv_of_nonneg i (by omega)]; exact q) (.inl (PyProof.noPylong_small (by omega)))
theorem A9 : iu X (binaryOp .Mod) (rI (fun _ j => 0 < j) fun i j => .int (i % j)) := ED fun i j _ _ _ _ _ hc q => by
  have h1 : (0 : Int) < j := hc
  exact mod_int' (by omega) (by rw [Int.fmod_eq_emod_of_nonneg i (by omega)]; exact q)
theorem A6 : iu X (binaryOp .Pow) (rI B3 fun i j => .int (i ^ j.toNat)) := ED fun _ _ _ _ _ _ _ hc q => pow_int_small hc.1 hc.2.1 hc.2.2 q
theorem FY {f : Value → Sem Value} {g : Int → Int}
    (rule : ∀ (i : Int) (t : Tok) (s : Shared) (Q : Value → Shared → Prop) (E : Value → Shared → Prop), Q (.int (g i) s.toks) { s with toks := s.toks + 1 } → wpAny (model X.prog X.w) X.A (f (.int i t)) Q E s) :
    EH X f (rU fun i => .int (g i)) := by
  intro pins s σ H x v Q I rx h
  obtain ⟨i, rfl, q⟩ := h
  obtain ⟨t, rfl⟩ := rx
  exact rule i t s _ _ ⟨.int (g i), H, I.tok _, ⟨_, rfl⟩, q⟩
theorem Ab : EH X (unaryOp .USub) (rU fun i => .int (-i)) := FY fun _ _ _ _ _ q => neg_int q
end
def xK : V → V → Bool
  | .non, .non => true | .non, .int _ => true | .int _, .non => true | .non, .bl _ => true | .bl _, .non => true | .non, .str _ => true | .str _, .non => true
  | .int _, .int _ => true | .bl _, .bl _ => true | .str _, .str _ => true | .byt _, .byt _ => true
  | .int _, .str _ => true | .str _, .int _ => true | .bl _, .str _ => true | .str _, .bl _ => true
  | _, _ => false
def F6 : R2 := fun x y H Q => xK x y = true ∧ Q (.bl (decide (x = y))) H
def F5 : R2 := fun x y H Q => xK x y = true ∧ Q (.bl (!decide (x = y))) H
theorem tu {i j : Int} : decide (V.int i = V.int j) = (i == j) := by
  rw [Bool.eq_iff_iff]
  simp
theorem wA {i j : Bool} : decide (V.bl i = V.bl j) = (i == j) := by
  rw [Bool.eq_iff_iff]
  simp
theorem tq {i j : Str} : decide (V.str i = V.str j) = (i == j) := by
  rw [Bool.eq_iff_iff]
  simp
theorem tw {i j : Array UInt8} : decide (V.byt i = V.byt j) = (i.toList == j.toList) := by
  rw [Bool.eq_iff_iff]
  cases i
  cases j
  simp
section
variable {X : Cx} {a b c : Expr} {ta tb tc : TE} {pos : Pos}
theorem aU {pins : List (Addr × Obj)} {σ : St} {H : Hp} {s : Shared} {Q : VK} {k k' : Bool} (I : av X pins σ H s) (q : Q (.bl k) H) (e : k = k') : EP X pins σ Q (.bool k') s := by
  subst e
  exact ⟨.bl k, H, I, rfl, q⟩
theorem Du : iu X (compareOp .Eq) F6 := by
  intro pins s σ H x y v u Q I rx ry h
  obtain ⟨hs, q⟩ := h
  cases x with
  | non =>
    cases rx
    cases y with
    | non => cases ry; exact PySem.EqNone.eq_none_none (aU I q (by simp))
    | bl j => cases ry; exact PySem.EqNone.eq_none_bool (aU I q (by simp))
    | int j => obtain ⟨t', rfl⟩ := ry; exact PySem.EqNone.eq_none_int (aU I q (by simp))
    | str j => obtain ⟨t', rfl⟩ := ry; exact PySem.EqNone.eq_none_str (aU I q (by simp))
    | _ => exact absurd (show false = true from hs) Bool.false_ne_true
  | bl i =>
    cases rx
    cases y with
    | non => cases ry; exact PySem.EqNone.eq_bool_none (aU I q (by simp))
    | bl j => cases ry; exact eq_bool (aU I q wA)
    | str j => obtain ⟨t', rfl⟩ := ry; exact PySem.EqMixed.eq_bool_str (aU I q (by simp))
    | _ => exact absurd (show false = true from hs) Bool.false_ne_true
  | int i =>
    obtain ⟨t, rfl⟩ := rx
    cases y with
    | non => cases ry; exact PySem.EqNone.eq_int_none (aU I q (by simp))
    | int j => obtain ⟨t', rfl⟩ := ry; exact eq_int (aU I q tu)
    | str j => obtain ⟨t', rfl⟩ := ry; exact PySem.EqMixed.eq_int_str (aU I q (by simp))
    | _ => exact absurd (show false = true from hs) Bool.false_ne_true
  | str i =>
    obtain ⟨t, rfl⟩ := rx
    cases y with
    | non => cases ry; exact PySem.EqNone.eq_str_none (aU I q (by simp))
    | bl j => cases ry; exact PySem.EqMixed.eq_str_bool (aU I q (by simp))
    | int j => obtain ⟨t', rfl⟩ := ry; exact PySem.EqMixed.eq_str_int (aU I q (by simp))
    | str j => obtain ⟨t', rfl⟩ := ry; exact eq_str (aU I q tq)
    | _ => exact absurd (show false = true from hs) Bool.false_ne_true
  | byt i =>
    obtain ⟨t, rfl⟩ := rx
    cases y with
    | byt j => obtain ⟨t', rfl⟩ := ry; exact PySem.W.eq_bytes (aU I q tw)
    | _ => exact absurd (show false = true from hs) Bool.false_ne_true
  | _ => cases y <;> exact absurd (show false = true from hs) Bool.false_ne_true
theorem Dr : iu X (compareOp .NotEq) F5 := by
  intro pins s σ H x y v u Q I rx ry h
  obtain ⟨hs, q⟩ := h
  cases x with
  | non =>
    cases rx
    cases y with
    | non => cases ry; exact PySem.EqNone.ne_none_none (aU I q (by simp))
    | bl j => cases ry; exact PySem.EqNone.ne_none_bool (aU I q (by simp))
    | int j => obtain ⟨t', rfl⟩ := ry; exact PySem.EqNone.ne_none_int (aU I q (by simp))
    | str j => obtain ⟨t', rfl⟩ := ry; exact PySem.EqNone.ne_none_str (aU I q (by simp))
    | _ => exact absurd (show false = true from hs) Bool.false_ne_true
  | bl i =>
    cases rx
    cases y with
    | non => cases ry; exact PySem.EqNone.ne_bool_none (aU I q (by simp))
    | bl j => cases ry; exact ne_bool (aU I q (congrArg not wA))
    | str j => obtain ⟨t', rfl⟩ := ry; exact PySem.EqMixed.ne_bool_str (aU I q (by simp))
    | _ => exact absurd (show false = true from hs) Bool.false_ne_true
  | int i =>
    obtain ⟨t, rfl⟩ := rx
    cases y with
    | non => cases ry; exact PySem.EqNone.ne_int_none (aU I q (by simp))
    | int j => obtain ⟨t', rfl⟩ := ry; exact ne_int (aU I q (congrArg not tu))
    | str j => obtain ⟨t', rfl⟩ := ry; exact PySem.EqMixed.ne_int_str (aU I q (by simp))
    | _ => exact absurd (show false = true from hs) Bool.false_ne_true
  | str i =>
    obtain ⟨t, rfl⟩ := rx
    cases y with
    | non => cases ry; exact PySem.EqNone.ne_str_none (aU I q (by simp))
    | bl j => cases ry; exact PySem.EqMixed.ne_str_bool (aU I q (by simp))
    | int j => obtain ⟨t', rfl⟩ := ry; exact PySem.EqMixed.ne_str_int (aU I q (by simp))
    | str j => obtain ⟨t', rfl⟩ := ry; exact ne_str (aU I q (congrArg not tq))
    | _ => exact absurd (show false = true from hs) Bool.false_ne_true
  | byt i =>
    obtain ⟨t, rfl⟩ := rx
    cases y with
    | byt j => obtain ⟨t', rfl⟩ := ry; exact PySem.W.ne_bytes (aU I q (congrArg not tw))
    | _ => exact absurd (show false = true from hs) Bool.false_ne_true
  | _ => cases y <;> exact absurd (show false = true from hs) Bool.false_ne_true
theorem Ds : iu X (compareOp .Lt) (xk fun i j => .bl (decide (i < j))) := Be fun _ _ _ _ _ _ _ q => lt_int q
theorem vL : iu X (compareOp .LtE) (xk fun i j => .bl (decide (i ≤ j))) := Be fun _ _ _ _ _ _ _ q => le_int q
theorem Dt : iu X (compareOp .Gt) (xk fun i j => .bl (decide (j < i))) := Be fun _ _ _ _ _ _ _ q => gt_int q
theorem Ba : iu X (compareOp .Is) (fun x y H Q => y = .non ∧ Q (.bl (decide (x = .non))) H) := by
  intro pins s σ H x y v u Q I rx ry h
  obtain ⟨rfl, q⟩ := h
  cases ry
  refine is_none_gen (aU I q ?_)
  cases x <;> first
    | (cases rx; rfl)
    | (obtain ⟨t, rfl⟩ := rx; rfl)
theorem yi : iu X (compareOp .IsNot) (fun x y H Q => y = .non ∧ Q (.bl (!decide (x = .non))) H) := by
  intro pins s σ H x y v u Q I rx ry h
  obtain ⟨rfl, q⟩ := h
  cases ry
  refine isnot_none_gen (aU I q ?_)
  cases x <;> first
    | (cases rx; rfl)
    | (obtain ⟨t, rfl⟩ := rx; rfl)
theorem iu.or {f : Value → Value → Sem Value} {r r' : R2} (h : iu X f r) (h' : iu X f r') : iu X f (fun x y H Q => r x y H Q ∨ r' x y H Q) := by
  intro pins s σ H x y v u Q I rx ry q
  rcases q with q | q
  · exact h pins s σ H x y v u Q I rx ry q
  · exact h' pins s σ H x y v u Q I rx ry q
theorem yd {op : CmpOp} {r : R2} (ho : iu X (compareOp op) r) (ha : PE X a ta) (hb : PE X b tb) (hm : behindInMarks op b = false) : PE X (.Compare a [op] [b] pos) (Cv r ta tb) := by
  intro pins s σ H Q I h
  exact wpAny_Compare1 (BU ha hb I h fun v u s2 x y H2 I2 rx ry q => ho pins s2 σ H2 x y v u Q I2 rx ry q) hm
def y9 (t : TE) : TT := fun σ H Q => t σ H fun x H' => ∃ k, x = .bl k ∧ Q k H'
theorem xX {op : CmpOp} {r : R2} (ho : iu X (compareOp op) r) (ha : PE X a ta) (hb : PE X b tb) (hm : behindInMarks op b = false) : PT X (.Compare a [op] [b] pos) (y9 (Cv r ta tb)) := by
  intro pins s σ H Q I h
  refine wpAny_isTrue_Compare1 (cE (ha pins s σ H _ I h) fun v s1 ⟨x, H1, I1, r1, q1⟩ => cE (hb pins s1 σ H1 _ I1 q1) fun u s2 ⟨y, H2, I2, r2, q2⟩ =>
    cE (ho pins s2 σ H2 x y v u _ I2 r1 r2 q2) fun c s3 ⟨z, H3, I3, r3, k, e, q3⟩ => ?_) hm
  subst e
  cases r3
  exact wpAny_truthy_bool ⟨H3, I3, q3⟩
def uU (r r' : R2) (ta tb tc : TE) : TE := fun σ H Q => ta σ H fun x H1 => tb σ H1 fun y H2 => r x y H2 fun z H3 => ∃ k, z = .bl k ∧
  (if k = true then tc σ H3 fun w' H4 => r' y w' H4 Q else Q (.bl false) H3)
theorem vH {op op' : CmpOp} {r r' : R2} (ho : iu X (compareOp op) r) (ho' : iu X (compareOp op') r') (ha : PE X a ta) (hb : PE X b tb) (hc : PE X c tc)
    (hm : lastMarks [op, op'] [b, c] = false := by with_unfolding_all rfl) : PE X (.Compare a [op, op'] [b, c] pos) (uU r r' ta tb tc) := by
  intro pins s σ H Q I h
  refine Compare_chain (cE (ha pins s σ H _ I h) fun v s1 ⟨x, H1, I1, r1, q1⟩ => chain_link (cE (hb pins s1 σ H1 _ I1 q1) fun u s2 ⟨y, H2, I2, r2, q2⟩ =>
    cE (ho pins s2 σ H2 x y v u _ I2 r1 r2 q2) fun d s3 ⟨z, H3, I3, r3, k, e, q3⟩ => ?_)) hm
  subst e
  cases r3
  refine wpAny_truthy_bool ?_
  cases k with
  | false => exact ite_ff ⟨.bl false, H3, I3, rfl, q3⟩
  | true => exact ite_tt (chain_last (cE (hc pins s3 σ H3 _ I3 q3) fun w' s4 ⟨z', H4, I4, r4, q4⟩ => ho' pins s4 σ H4 y z' u w' Q I4 r2 r4 q4))
def BZ (K : PySem.W.Frag) (x : V) (H : Hp) (k : Bool) : Prop :=
  match x with
  | .non => k = false
  | .bl b => k = b
  | .int i => k = (i != 0)
  | .str y => y.length ≤ sizeLine ∧ k = ((y.length : Int) != 0)
  | .byt y => y.size ≤ sizeLine ∧ k = ((y.size : Int) != 0)
  | .ref p => (∃ xs, ji K H p xs ∧ k = !xs.isEmpty) ∨ (∃ xs, iw K H p xs ∧ k = !xs.isEmpty) ∨ ∃ kvs, H p = some (.dK kvs) ∧ k = !kvs.isEmpty
  | _ => False
theorem rm {κ : Type} {kvs : List (κ × V)} {vs : List (κ × Value)} (r : KV kvs vs) : (!vs.isEmpty) = !kvs.isEmpty := by
  cases r <;> rfl
theorem mq {xs : List V} {its : List Value} (r : aF xs its) : (!its.toArray.isEmpty) = !xs.isEmpty := by
  cases r <;> simp
theorem kh : (sizeLine : Nat) < 2 ^ 63 := by rw [sizeLine_eq]; decide
theorem Ai : Fo X (fun x H Q => ∃ k, BZ X.K x H k ∧ Q k H) := by
  intro pins s σ H x v Q I rx h
  obtain ⟨k, e, q⟩ := h
  have hl := kh
  have hs : sizeLine = 16777216 := sizeLine_eq
  cases x with
  | non =>
    cases rx
    have e' : k = false := e
    subst e'
    exact truthy_none ⟨H, I, q⟩
  | bl b =>
    cases rx
    have e' : k = b := e
    subst e'
    exact wpAny_truthy_bool ⟨H, I, q⟩
  | int i =>
    obtain ⟨t, rfl⟩ := rx
    have e' : k = (i != 0) := e
    subst e'
    exact PySem.P.truthy_int ⟨H, I, q⟩
  | str y =>
    obtain ⟨t, rfl⟩ := rx
    obtain ⟨hy, e'⟩ : y.length ≤ sizeLine ∧ k = ((y.length : Int) != 0) := e
    subst e'
    exact PySem.P.truthy_str (by omega) ⟨H, I.tok _, q⟩
  | byt y =>
    obtain ⟨t, rfl⟩ := rx
    obtain ⟨hy, e'⟩ : y.size ≤ sizeLine ∧ k = ((y.size : Int) != 0) := e
    subst e'
    exact PySem.W.truthy_bytes (by omega) ⟨H, I.tok _, q⟩
  | ref p =>
    cases rx
    have e' : (∃ xs, ji X.K H p xs ∧ k = !xs.isEmpty) ∨ (∃ xs, iw X.K H p xs ∧ k = !xs.isEmpty) ∨ ∃ kvs, H p = some (.dK kvs) ∧ k = !kvs.isEmpty := e
    rcases e' with ⟨xs, hx, e'⟩ | ⟨xs, hx, e'⟩ | ⟨kvs, hx, e'⟩
    · subst e'
      obtain ⟨its, r, pl, hz⟩ := I.list hx
      have hlen := r.length
      exact wpAny_truthy_list pl.isList (by simp only [List.size_toArray]; omega) ⟨H, I.tok _, by rw [mq r]; exact q⟩
    · subst e'
      obtain ⟨its, r, pl, hz⟩ := I.tuple hx
      have hlen := r.length
      exact truthy_tuple pl (by simp only [List.size_toArray]; omega) ⟨H, I.tok _, by rw [mq r]; exact q⟩
    · subst e'
      obtain ⟨hz, hS, vs, r, m⟩ : kvs.length ≤ sizeLine ∧ (p == sysModules) = false ∧ ∃ vs, KV kvs vs ∧ s.heap.DictOf (oK X.prog X.w) p vs := I.hok p _ hx
      have hlen : kvs.length = vs.length := Paired.length r
      exact wpAny_truthy_dict hS m (by omega) ⟨H, I.tok _, by rw [rm r]; exact q⟩
  | _ => exact (show False from e).elim
theorem vm (ha : PE X a ta) (he : ∀ whole, isTrue a X.env whole = (do let v ← whole; standAt a.pos; holding [v] (truthy v))) :
    PT X a (fun σ H Q => ta σ H fun x H' => ∃ k, BZ X.K x H' k ∧ Q k H') := by
  intro pins s σ H Q I h
  exact isTrue_plain (cE (ha pins s σ H _ I h) fun v s1 ⟨x, H1, I1, r1, q1⟩ => Ai pins s1 σ H1 x v Q I1 r1 q1) (he _)
theorem q8 : iu X (binaryOp .Add) (fun x y H Q => ∃ i j, x = .str i ∧ y = .str j ∧ i.length + j.length ≤ sizeLine ∧ Q (.str (i ++ j)) H) := by
  intro pins s σ H x y v u Q I rx ry h
  obtain ⟨i, j, rfl, rfl, hz, q⟩ := h
  obtain ⟨t, rfl⟩ := rx
  obtain ⟨t', rfl⟩ := ry
  exact add_str (fun t' tk => ⟨.str (i ++ j), H, I.tok _, ⟨_, rfl⟩, q⟩) hz
theorem rS {x : V} {us : List Value} (r : aF [x] us) : ∃ u, us = [u] ∧ bg x u := by
  cases r with
  | cons r1 r2 => cases r2; exact ⟨_, rfl, r1⟩
theorem y8 {x y : V} {us : List Value} (r : aF [x, y] us) : ∃ u w', us = [u, w'] ∧ bg x u ∧ bg y w' := by
  cases r with
  | cons r1 r2 =>
    cases r2 with
    | cons r3 r4 => cases r4; exact ⟨_, _, rfl, r1, r3⟩
theorem uH (hc : X.calm = true) : iX X (.builtin "min") (fun xs H Q => ∃ i j, xs = [.int i, .int j] ∧ Q (.int (if j < i then j else i)) H) := by
  intro pins s σ H xs us Q I r h
  obtain ⟨i, j, rfl, q⟩ := h
  obtain ⟨u, w', rfl, ⟨t, rfl⟩, ⟨t', rfl⟩⟩ := y8 r
  refine min_two_ints (I.ok.hd hc) fun h' tk k => ⟨_, H, I.kept k, ?_, q⟩
  by_cases hj : j < i
  · rw [if_pos hj, if_pos hj]; exact ⟨_, rfl⟩
  · rw [if_neg hj, if_neg hj]; exact ⟨_, rfl⟩
def Ep (K : PySem.W.Frag) (x : V) (H : Hp) (n : Nat) : Prop :=
  match x with
  | .str y => y.length ≤ sizeLine ∧ n = y.length
  | .byt y => y.size ≤ sizeLine ∧ n = y.size
  | .ref p => (∃ xs, ji K H p xs ∧ n = xs.length) ∨ ∃ xs, iw K H p xs ∧ n = xs.length
  | _ => False
theorem wL : iX X (.builtin "len") (fun xs H Q => ∃ x n, xs = [x] ∧ Ep X.K x H n ∧ Q (.int n) H) := by
  intro pins s σ H xs us Q I r h
  obtain ⟨x, n, rfl, e, q⟩ := h
  obtain ⟨u, rfl, rx⟩ := rS r
  have hl := kh
  have hs : sizeLine = 16777216 := sizeLine_eq
  cases x with
  | str y =>
    obtain ⟨t, rfl⟩ := rx
    obtain ⟨hy, e'⟩ : y.length ≤ sizeLine ∧ n = y.length := e
    subst e'
    exact len_str (by omega) ⟨.int _, H, I.tok _, ⟨_, rfl⟩, q⟩
  | byt y =>
    obtain ⟨t, rfl⟩ := rx
    obtain ⟨hy, e'⟩ : y.size ≤ sizeLine ∧ n = y.size := e
    subst e'
    exact PySem.W.len_bytes (by omega) ⟨.int _, H, I.tok _, ⟨_, rfl⟩, q⟩
  | ref p =>
    cases rx
    have e' : (∃ xs, ji X.K H p xs ∧ n = xs.length) ∨ ∃ xs, iw X.K H p xs ∧ n = xs.length := e
    rcases e' with ⟨xs, hx, e'⟩ | ⟨xs, hx, e'⟩
    · subst e'
      obtain ⟨its, r', pl, hz⟩ := I.list hx
      have hlen := r'.length
      exact Calls.call_len_list pl.isList (by simp only [List.size_toArray]; omega) ⟨.int xs.length, H, I.tok _, ⟨_, by simp only [List.size_toArray]; rw [hlen]⟩, q⟩
    · subst e'
      obtain ⟨its, r', pl, hz⟩ := I.tuple hx
      have hlen := r'.length
      exact len_tuple pl (by simp only [List.size_toArray]; omega) ⟨.int xs.length, H, I.tok _, ⟨_, by simp only [List.size_toArray]; rw [hlen]⟩, q⟩
  | _ => exact (show False from e).elim
end
end L2
namespace L2
open PySem PySem.Spec PyProof.Rows
structure rM (h : Heap) (x dx C : Addr) (mA : Str → Option Value) : Prop where
  obj : h.get? x = some (PySem.W.instObj C dx)
  ns : h.Ns1 dx mA
  ne : dx ≠ x
theorem nC {h : Heap} {dx : Addr} {mA : Str → Option Value} (n : h.Ns1 dx mA) : ∃ od, h.get? dx = some od ∧ ∀ name, PySem.W.lookIn name od = some (mA name) := by
  obtain ⟨o, es, ep, ho, hd, hk, _, hm⟩ := n
  refine ⟨o, ho, fun name => ?_⟩
  have e := hm name
  unfold nsFind findBy at e
  rw [← Array.find?_toList] at e
  unfold PySem.W.lookIn
  rw [hd]
  dsimp only
  split
  · rename_i y q
    rw [q] at e
    exact congrArg some e
  · rename_i q
    rw [q] at e
    have a : es.toList.any (·.refKey) = false := by
      rw [List.any_eq_false]
      intro y hy
      obtain ⟨z, t, hkey⟩ := hk y (Array.mem_toList_iff.mp hy)
      simp [DictEntry.refKey, hkey]
    have a' : ¬ es.toList.any (·.refKey) = true := by rw [a]; exact Bool.false_ne_true
    rw [if_neg a']
    exact congrArg some e
theorem rM.look {h : Heap} {x dx C : Addr} {mA : Str → Option Value} (I : rM h x dx C mA) : ∃ od, PySem.W.InstAt h x (PySem.W.instObj C dx) C (some od) ∧ ∀ name, PySem.W.lookIn name od = some (mA name) :=
  let ⟨od, ho, hl⟩ := nC I.ns
  ⟨od, ⟨I.obj, rfl, rfl, ho⟩, hl⟩
section
variable {prog : Program} {w : World} {A : Around} {E : Value → Shared → Prop} {s : Shared} {K : PySem.W.Frag} {x dx C f : Addr} {mA : Str → Option Value} {name : Str} {v : Value}
theorem yA {expr : Bool} {Q : Value → Shared → Prop} (X : K.In s.heap) (I : rM s.heap x dx C mA) (hg : PySem.W.plainGet K C name = true) (hh : PySem.W.hasDictIn K C = true)
    (ha : PySem.W.findIn K (.ref C) name = some none) (hv : mA name = some v) (hv' : PySem.W.handedIn v = true) (h : Q v { s with toks := s.toks + 1 }) :
    wpAny (model prog w) A (getAttr (.ref x) name expr) Q E s := by
  obtain ⟨od, J, hl⟩ := I.look
  exact PySem.W.get_value X J (PySem.W.plainGet_of hg).1 (PySem.W.findObj_own hh ha rfl (by rw [hl, hv])) hv' h
theorem v7 {pl : Sem Bool} {Q : Value × List Value → Shared → Prop} (X : K.In s.heap) (I : rM s.heap x dx C mA) (hg : PySem.W.plainGet K C name = true)
    (hf : PySem.W.findIn K (.ref C) name = some (some (.ref f))) (ht : PySem.W.isFn K (.ref f) = true) (hv : mA name = none) (h : Q (.ref f, [.ref x]) s) :
    wpAny (model prog w) A (getMethod (.ref x) name pl) Q E s := by
  obtain ⟨od, J, hl⟩ := I.look
  exact PySem.W.method_fn X J (PySem.W.plainGet_of hg).1 (PySem.W.plainGet_of hg).2 hf (beq_iff_eq.mp ht) (by show (PySem.W.lookIn name od).map (·.isSome) = some false; rw [hl, hv]; rfl) h
theorem xH {ns : List Str} {Q : Unit → Shared → Prop} (X : K.In s.heap) (I : rM s.heap x dx C mA)
    (hs : PySem.W.findIn K (.ref C) "__setattr__" = some (some (.builtin "object.__setattr__"))) (hp : PySem.W.plainOver K C = true) (ht : PySem.W.takerIn K C name = some none) (hh : PySem.W.hasDictIn K C = true)
    (hw : PySem.Within mA ns) (hsz : ns.length ≤ sizeLine)
    (h : ∀ h', rM h' x dx C (fun y => if y = name then some v else mA y) → Heap.SameBut dx s.heap h' → Q () { s with heap := h', toks := s.toks + 2 }) :
    wpAny (model prog w) A (setAttr (.ref x) name v) Q E s := by
  obtain ⟨od, J, hl⟩ := I.look
  refine PySem.W.set_plain X J hs (PySem.W.osa_open (s := { s with toks := s.toks + 1 }) (r := none) X J hp ht fun b => ?_)
  obtain ⟨cd, hc, hd'⟩ := PySem.W.any_some hh
  have hx : s.heap.get? x = some ⟨.ref C, some dx, .plain, #[]⟩ := I.obj
  refine wpAny_bind (wpAny_pure (wpAny_bind (wpAny_bind (wpAny_loadPart hx (wpAny_bind (PySem.W.Looks.here (s := { s with toks := s.toks + 1 }) (PySem.W.looks_clsIn X hc) ?_))))))
  rw [hd']
  refine wpAny_pure (a := some dx) (wpAny_bind (wpAny_pure (wpAny_bind ?_)))
  refine wpAny_nsSet1 (s := { s with toks := s.toks + 1 }) I.ns fun h' hn2 hs2 => ?_
  obtain ⟨oD, esD, epD, hoD, hdD, hcD⟩ := hn2.count (PySem.Within.cons name v hw)
  refine wpAny_bind (wpAny_lookBehind hoD (by rw [hdD]; exact pastItsLine_dict (Nat.le_trans hcD (by rw [List.length_cons]; omega))) ?_)
  exact wpAny_pure (h _ ⟨(hs2.2 _ (Ne.symm I.ne)).trans I.obj, hn2, I.ne⟩ hs2)
theorem vT {R : Result → Shared → Prop} {vs : List Value} {kw : List (Str × Value)} (X : K.In s.heap) (hm : PySem.W.makesIn K C = true)
    (hi : PySem.W.findIn K (.ref C) "__init__" = some (some (.ref f))) (hf : PySem.W.typeIn K (.ref f) = some (.type "function"))
    (h : codeAny (model prog w) (A.under (.builtin "type.__call__" ⟨.ref C :: vs, kw⟩)) (.call (.ref f) ⟨.ref (s.heap.objs.size + 1) :: vs, kw⟩) (PySem.W.InitBack (s.heap.objs.size + 1) R)
      { s with heap := (s.heap.push PySem.W.emptyDict).push (PySem.W.instObj C s.heap.objs.size) }) :
    codeAny (model prog w) A (.call (.ref C) ⟨vs, kw⟩) R s := by
  obtain ⟨hh, g, d, t, os⟩ := s
  exact PySem.W.make_core (PySem.W.makes_of X hm) (PySem.W.looks_findIn X hi) (fun self => PySem.W.bind_fn X self hf) (.inl rfl) h
end
def gL (f : Str) (v : V) : List (Str × V) → List (Str × V)
  | [] => [(f, v)]
  | (g, x) :: r => if g = f then (g, v) :: r else (g, x) :: gL f v r
theorem kz (f g : Str) (v : V) : ∀ fs : List (Str × V), (gL f v fs).lookup g = if g = f then some v else fs.lookup g
  | [] => by
    show List.lookup g [(f, v)] = _
    by_cases h : g = f
    · have hb : (g == f) = true := beq_iff_eq.mpr h
      simp only [List.lookup, hb, if_pos h]
    · have hb : (g == f) = false := beq_eq_false_iff_ne.mpr h
      simp only [List.lookup, hb, if_neg h]
  | (k, x) :: r => by
    have ih := kz f g v r
    rw [show gL f v ((k, x) :: r) = (if k = f then (k, v) :: r else (k, x) :: gL f v r) from rfl]
    by_cases hk : k = f
    · rw [if_pos hk]
      by_cases h : g = k
      · have hb : (g == k) = true := beq_iff_eq.mpr h
        simp only [List.lookup, hb, if_pos (h.trans hk)]
      · have hb : (g == k) = false := beq_eq_false_iff_ne.mpr h
        simp only [List.lookup, hb, if_neg (fun e : g = f => h (e.trans hk.symm))]
    · rw [if_neg hk]
      by_cases h : g = k
      · have hb : (g == k) = true := beq_iff_eq.mpr h
        simp only [List.lookup, hb, if_neg (fun e : g = f => hk (h.symm.trans e))]
      · have hb : (g == k) = false := beq_eq_false_iff_ne.mpr h
        simp only [List.lookup, hb]
        exact ih
theorem ki (f : Str) (v : V) : ∀ fs : List (Str × V), f ∈ (gL f v fs).map (·.1) ∧ ∀ g, g ∈ fs.map (·.1) → g ∈ (gL f v fs).map (·.1)
  | [] => ⟨by simp [gL], fun g h => by simp at h⟩
  | (k, x) :: r => by
    obtain ⟨i1, i2⟩ := ki f v r
    rw [show gL f v ((k, x) :: r) = (if k = f then (k, v) :: r else (k, x) :: gL f v r) from rfl]
    by_cases hk : k = f
    · rw [if_pos hk]
      subst hk
      exact ⟨by simp, fun g h => by simpa using h⟩
    · rw [if_neg hk]
      refine ⟨?_, fun g h => ?_⟩
      · rw [List.map_cons]
        exact List.mem_cons_of_mem _ i1
      · rw [List.map_cons] at h ⊢
        rcases List.mem_cons.mp h with e | e
        · exact List.mem_cons.mpr (.inl e)
        · exact List.mem_cons_of_mem _ (i2 g e)
theorem kA (f : Str) (v : V) : ∀ fs : List (Str × V), (gL f v fs).length ≤ fs.length + 1
  | [] => by simp [gL]
  | (k, x) :: r => by
    have ih := kA f v r
    rw [show gL f v ((k, x) :: r) = (if k = f then (k, v) :: r else (k, x) :: gL f v r) from rfl]
    by_cases hk : k = f
    · rw [if_pos hk, List.length_cons, List.length_cons]; omega
    · rw [if_neg hk, List.length_cons, List.length_cons]; omega
theorem j1.some_of {v : V} {o : Option Value} (r : j1 (some v) o) : ∃ u, o = some u ∧ bg v u := by
  cases o with
  | none => exact (show False from r).elim
  | some u => exact ⟨u, rfl, r⟩
theorem j1.none_of {o : Option Value} (r : j1 none o) : o = none := by
  cases o with
  | none => rfl
  | some u => exact (show False from r).elim
theorem uC {v : V} {u : Value} (r : bg v u) : PySem.W.handedIn u = true := by
  cases v with
  | non => cases (show u = Value.none from r); rfl
  | bl b => cases (show u = Value.bool b from r); rfl
  | int i => obtain ⟨t, e⟩ := (show ∃ t, u = Value.int i t from r); cases e; rfl
  | str x => obtain ⟨t, e⟩ := (show ∃ t, u = Value.str x t from r); cases e; rfl
  | byt b => obtain ⟨t, e⟩ := (show ∃ t, u = Value.bytes b t from r); cases e; rfl
  | flt b => obtain ⟨t, e⟩ := (show ∃ t, u = Value.float b t from r); cases e; rfl
  | ref a => cases (show u = Value.ref a from r); rfl
  | ty n => cases (show u = Value.type n from r); rfl
section
variable {P : Program} {w : World} {H H' : Hp} {h h' : Heap} {a C dx : Addr} {fs fs' : List (Str × V)}
theorem ll (hok : i7 P w H h) (e : H a = some (.ins C dx fs)) : ∃ mA, rM h a dx C mA ∧ (∀ f, j1 (fs.lookup f) (mA f)) ∧ PySem.Within mA (fs.map (·.1)) ∧ fs.length ≤ 1000 ∧ H dx = some (.own a) := by
  obtain ⟨d, z, ne, ob, mA, n, r, q⟩ := (show cv P w H h a (.ins C dx fs) from hok a _ e)
  exact ⟨mA, ⟨ob, n, ne⟩, r, q, z, d⟩
end
structure nN (K : PySem.W.Frag) (C : Addr) : Prop where
  pg : PySem.W.plainGet K C Str.empty = true
  hd : PySem.W.hasDictIn K C = true
  po : PySem.W.plainOver K C = true
  sa : PySem.W.findIn K (.ref C) "__setattr__" = some (some (.builtin "object.__setattr__"))
theorem nN.get {K : PySem.W.Frag} {C : Addr} (c : nN K C) (f : Str) : PySem.W.plainGet K C f = true := c.pg
def fL (K : PySem.W.Frag) (C : Addr) (f : Str) : Prop := PySem.W.findIn K (.ref C) f = some none
theorem fL.taker {K : PySem.W.Frag} {C : Addr} {f : Str} (n : fL K C f) : PySem.W.takerIn K C f = some none := by
  unfold PySem.W.takerIn
  rw [show PySem.W.findIn K (.ref C) f = some none from n]
  rfl
structure GD (K : PySem.W.Frag) (C : Addr) (f : Str) (v : V) (u : Value) : Prop where
  at_ : PySem.W.findIn K (.ref C) f = some (some u)
  rel : bg v u
  get : PySem.W.specialIn K u "__get__" = some none
  cp : PySem.W.copiedNames.contains f = false
structure Eo (K : PySem.W.Frag) (C : Addr) (m : Str) (f : Addr) : Prop where
  at_ : PySem.W.findIn K (.ref C) m = some (some (.ref f))
  fn : PySem.W.isFn K (.ref f) = true
  kp : PySem.W.keepIn K (.ref f) = true
section
variable {X : Cx} {pins : List (Addr × Obj)} {σ : St} {H : Hp} {s : Shared} {a C dx : Addr} {fs : List (Str × V)} {f : Str} {v : V} {A : Around} {E : Value → Shared → Prop}
theorem rn {b : Bool} {Q : Value → Shared → Prop} (I : av X pins σ H s) (e : H a = some (.ins C dx fs)) (c : nN X.K C) (n : fL X.K C f) (l : fs.lookup f = some v)
    (h : ∀ u s', av X pins σ H s' → bg v u → Q u s') : wpAny (model X.prog X.w) A (getAttr (.ref a) f b) Q E s := by
  obtain ⟨mA, O, r, _, _, _⟩ := ll I.hok e
  obtain ⟨u, hu, ru⟩ := j1.some_of (v := v) (o := mA f) (by rw [← l]; exact r f)
  exact yA I.kIn O (c.get f) c.hd n hu (uC ru) (h u _ (I.tok _) ru)
theorem jr {m : Str} {g : Addr} {pl : Sem Bool} {Q : Value × List Value → Shared → Prop} (I : av X pins σ H s) (e : H a = some (.ins C dx fs)) (c : nN X.K C) (k : Eo X.K C m g) (l : fs.lookup m = none)
    (h : Q (.ref g, [.ref a]) s) : wpAny (model X.prog X.w) A (getMethod (.ref a) m pl) Q E s := by
  obtain ⟨mA, O, r, _, _, _⟩ := ll I.hok e
  have hn : mA m = none := j1.none_of (by rw [← l]; exact r m)
  exact v7 I.kIn O (c.get m) k.at_ k.fn hn h
theorem qT {y : V} {u : Value} {Q : Unit → Shared → Prop} (I : av X pins σ H s) (e : H a = some (.ins C dx fs)) (c : nN X.K C) (n : fL X.K C f) (hl : fs.length < 1000) (ry : bg y u)
    (h : ∀ s', av X pins σ (upd H a (.ins C dx (gL f y fs))) s' → Q () s') : wpAny (model X.prog X.w) A (setAttr (.ref a) f u) Q E s := by
  obtain ⟨mA, O, r, wi, _, ho⟩ := ll I.hok e
  have hz : (fs.map (·.1)).length ≤ sizeLine := by rw [List.length_map, sizeLine_eq]; omega
  refine xH I.kIn O c.sa c.po n.taker c.hd wi hz fun h' O' sb => h _ ?_
  have hd : ∃ o, h'.get? dx = some o := let ⟨o, _, _, e', _⟩ := O'.ns; ⟨o, e'⟩
  refine I.write (x := a) (e := dx) (by rw [e]; exact True.intro) (.inr ho) (fun b q hb z => (sb.2 b hb).trans z) hd ?_
  refine ⟨by rw [aH O.ne]; exact ho, ?_, O.ne, O'.obj, _, O'.ns, fun g => ?_, fun g hg => ?_⟩
  · have := kA f y fs; omega
  · show j1 ((gL f y fs).lookup g) (if g = f then some u else mA g)
    rw [kz]
    by_cases q : g = f
    · rw [if_pos q, if_pos q]; exact ry
    · rw [if_neg q, if_neg q]; exact r g
  · by_cases q : g = f
    · rw [q]; exact (ki f y fs).1
    · refine (ki f y fs).2 g (wi g fun z => hg ?_)
      show (if g = f then some u else mA g) = none
      rw [if_neg q]; exact z
theorem av.made (I : av X pins σ H s) : av X pins σ (upd (upd H s.heap.objs.size (.own (s.heap.objs.size + 1))) (s.heap.objs.size + 1) (.ins C s.heap.objs.size []))
    { s with heap := (s.heap.push PySem.W.emptyDict).push (PySem.W.instObj C s.heap.objs.size) } := by
  have e1 : (s.heap.push PySem.W.emptyDict).get? s.heap.objs.size = some PySem.W.emptyDict := Heap.get?_push_size s.heap rfl
  have e2 : ((s.heap.push PySem.W.emptyDict).push (PySem.W.instObj C s.heap.objs.size)).get? (s.heap.objs.size + 1) = some (PySem.W.instObj C s.heap.objs.size) := by
    have := Heap.get?_push_size (s.heap.push PySem.W.emptyDict) (o := PySem.W.instObj C s.heap.objs.size) rfl
    rwa [Heap.size_push] at this
  have e3 : (s.heap.push PySem.W.emptyDict).Ns s.heap.objs.size (fun _ => none) := ⟨PySem.W.emptyDict, #[], _, e1, rfl, (fun e he => absurd he (by simp)), fun _ => rfl⟩
  have I1 := I.laid (a := s.heap.objs.size) (o := .own (s.heap.objs.size + 1)) (h' := s.heap.push PySem.W.emptyDict) (t' := s.toks) (fun b u q => Heap.get?_push_of_some _ q) (Nat.le_refl _) ⟨_, e1⟩
  refine I1.laid (a := s.heap.objs.size + 1) (o := .ins C s.heap.objs.size []) (t' := s.toks) (fun b u q => Heap.get?_push_of_some _ q) (Nat.le_of_eq (Heap.size_push _ _)) ?_
  have ne : s.heap.objs.size ≠ s.heap.objs.size + 1 := Nat.ne_of_lt (Nat.lt_succ_self _)
  refine ⟨by rw [aH ne, aX], Nat.zero_le _, ne, e2, fun _ => none, (Heap.Ns1.of_empty e3).at fun o q => Heap.get?_push_of_some _ q, fun _ => True.intro, fun y hy => absurd rfl hy⟩
theorem yU {prog : Program} {w : World} {env : Env} {e : Expr} {f : Str} {pos : Pos} {s : Shared} {Q : Value → Shared → Prop} (hb : attributeBase e f env (eval e env) = eval e env)
    (h : wpAny (model prog w) A (eval e env) (fun o s₁ => wpAny (model prog w) A (getAttr o f true) Q E s₁) E s) : wpAny (model prog w) A (eval (.Attribute e f pos) env) Q E s :=
  Attribute_any_ h (by rw [arm_eval_Attribute, hb])
end
def E6 (K : PySem.W.Frag) (ta : TE) (f : Str) : TE := fun σ H Q => ta σ H fun x H1 => ∃ a C dx fs v, x = .ref a ∧ H1 a = some (.ins C dx fs) ∧ nN K C ∧ fL K C f ∧ fs.lookup f = some v ∧ Q v H1
def gW (K : PySem.W.Frag) (ta tv : TE) (f : Str) : TS := fun D σ H => tv σ H fun y H1 => ta σ H1 fun x H2 => ∃ a C dx fs, x = .ref a ∧ H2 a = some (.ins C dx fs) ∧ nN K C ∧ fL K C f ∧ fs.length < 1000 ∧
  D.nx σ (upd H2 a (.ins C dx (gL f y fs)))
section
variable {X : Cx} {o e value : Expr} {f : Str} {pos pos' tpos : Pos} {ta tv : TE}
theorem AR (he : PE X e ta) (hb : attributeBase e f X.env (eval e X.env) = eval e X.env) : PE X (.Attribute e f pos) (E6 X.K ta f) := by
  intro pins s σ H Q I h
  refine yU hb (cE (he pins s σ H _ I h) fun u s1 ⟨x, H1, I1, rx, a, C, dx, fs, v, ex, ea, c, n, l, q⟩ => ?_)
  subst ex
  obtain rfl : u = Value.ref a := rx
  exact rn I1 ea c n l fun u' s2 I2 ru => ⟨v, H1, I2, ru, q⟩
theorem AG (ha : PE X o ta) (hv : PE X value tv) (hs : swapsWith value (some (.Attribute o f pos')) pos.line X.env = pure false) : PS X (.Assign [.Attribute o f pos'] value pos) (gW X.K ta tv f) := by
  intro pins s σ H D I h
  refine plainObj_wpAny_Assign_Attribute (cE (hv pins s σ H _ I h) fun u s1 ⟨y, H1, I1, ry, q⟩ => cE (ha pins s1 σ H1 _ I1 q) fun ov s2 ⟨x, H2, I2, rx, a, C, dx, fs, ex, ea, c, n, l, q2⟩ => ?_) hs
  subst ex
  obtain rfl : ov = Value.ref a := rx
  exact qT I2 ea c n l ry fun s3 I3 => ⟨σ, _, I3, q2⟩
end
section
variable {X : Cx} {pins : List (Addr × Obj)} {σ : St} {H : Hp} {s : Shared} {A : Around} {E : Value → Shared → Prop} {Q : Value → Shared → Prop} {c : Value} {b : Bool}
inductive kY (K : PySem.W.Frag) (H : Hp) : V → Value → Prop where
  | non : kY K H .non (.type "NoneType")
  | bl (x : Bool) : kY K H (.bl x) (.type "bool")
  | int (i : Int) : kY K H (.int i) (.type "int")
  | str (x : Str) : kY K H (.str x) (.type "str")
  | flt (x : UInt64) : kY K H (.flt x) (.type "float")
  | lst {a : Addr} {xs : List V} (e : H a = some (.lst xs)) : kY K H (.ref a) (.type "list")
  | frz {a : Addr} {o : Obj} {xs : List V} (e : H a = some (.frz o (.lst xs))) : kY K H (.ref a) (.type "list")
  | tup {a : Addr} {xs : List V} (e : H a = some (.tup xs)) : kY K H (.ref a) (.type "tuple")
  | dK {a : Addr} {kvs : List (o8 × V)} (e : H a = some (.dK kvs)) : kY K H (.ref a) (.type "dict")
  | dT {a : Addr} {kvs : List (List o8 × V)} (e : H a = some (.dT kvs)) : kY K H (.ref a) (.type "dict")
  | ins {a C dx : Addr} {fs : List (Str × V)} (e : H a = some (.ins C dx fs)) (cl : nN K C) (ha : PySem.W.findIn K (.ref C) "__class__" = some (some (.builtin "object.__class__")))
      (hn : PySem.W.specialIn K (.builtin "object.__class__") "__get__" = some (some (.builtin "getset_descriptor.__get__"))) (htk : PySem.W.takesIn K (.builtin "object.__class__") = some true)
      (hm : PySem.W.mroIn K C (.type "object") = some true) : kY K H (.ref a) (.ref C)
end
end L2
namespace L2
open PySem PySem.Spec PyProof.Rows
structure bx (k : Nat) (A : Around) : Prop where
  hd : A.handled = none
  dp : A.depth + 3 * k + 5 < recursionLimit
  un : A.units + 16 * k + 200 < cLine
theorem bx.mono {j k : Nat} {A : Around} (r : bx k A) (h : j ≤ k) : bx j A := ⟨r.hd, by have := r.dp; omega, by have := r.un; omega⟩
theorem bx.deeper {k : Nat} {A : Around} (r : bx (k + 1) A) (env : Env) : bx k (A.deeper env) :=
  ⟨r.hd, by have := r.dp; show A.depth + 1 + 3 * k + 5 < _; omega, by have := r.un; show A.units + 3 + 16 * k + 200 < _; omega⟩
theorem bx.in1 {k : Nat} {A : Around} (r : bx (k + 1) A) : bx k A.in1 :=
  ⟨r.hd, by have := r.dp; show A.depth + 3 * k + 5 < _; omega, by have := r.un; show A.units + 1 + 16 * k + 200 < _; omega⟩
theorem rj {A : Around} {C : Addr} {us : List Value} {kw : List (Str × Value)} : (A.under (.builtin "type.__call__" ⟨.ref C :: us, kw⟩)).depth = A.depth + 1 := by
  first | rfl | simp [Around.under, Code.weight, Code.isCreation, Code.isGuard, Code.isCaller, Code.frames, Code.isFrame, guardIds]
theorem rh {A : Around} {C : Addr} {us : List Value} {kw : List (Str × Value)} : (A.under (.builtin "type.__call__" ⟨.ref C :: us, kw⟩)).units = A.units + 1 := by
  first | rfl | simp [Around.under, Code.cUnits, Code.frames, Code.isFrame]
theorem bx.make {k : Nat} {A : Around} (r : bx (k + 1) A) (C : Addr) (us : List Value) (kw : List (Str × Value)) : bx k (A.under (.builtin "type.__call__" ⟨.ref C :: us, kw⟩)) :=
  ⟨r.hd, by have := r.dp; rw [rj]; omega, by have := r.un; rw [rh]; omega⟩
theorem bx.depth {k : Nat} {A : Around} (r : bx k A) : A.depth < recursionLimit := by have := r.dp; omega
theorem bx.units {k : Nat} {A : Around} (r : bx k A) : A.units + 64 < cLine := by have := r.un; omega
def Cy : TA := fun _ H Q => Q [] H
def CC (ta : TE) (tr : TA) : TA := fun σ H Q => ta σ H fun x H1 => tr σ H1 fun xs H2 => Q (x :: xs) H2
section
variable {X : Cx} {e : Expr} {es : List Expr} {te : TE} {t : TA} {pos : Pos}
theorem AV : PA X [] Cy := fun _ _ _ _ H Q I h => Calls.spliced_nil ⟨[], H, I, .nil, h⟩
theorem yg (ha : PE X e te) (hr : PA X es t) (hs : starEach (e :: es) X.env = (false, eval e X.env) :: starEach es X.env := by rfl) : PA X (e :: es) (CC te t) := by
  intro pos pins s σ H Q I h
  rw [hs]
  show wpAny _ _ (spliced ((false, eval e X.env) :: backTo pos (starEach es X.env))) _ _ s
  refine Calls.spliced_cons (cE (ha pins s σ H _ I h) fun u s1 ⟨x, H1, I1, r1, q1⟩ => ?_)
  exact cE (hr pos pins s1 σ H1 _ I1 q1) fun us s2 ⟨xs, H2, I2, r2, q2⟩ => ⟨x :: xs, H2, I2, .cons r1 r2, q2⟩
def EY (t : TA) : TE := fun σ H Q => t σ H fun xs H1 => xs.length ≤ sizeLine ∧ ∀ p, H1 p = none → Q (.ref p) (upd H1 p (.tup xs))
def E4 (t : TA) : TE := fun σ H Q => t σ H fun xs H1 => xs.length ≤ sizeLine ∧ ∀ p, H1 p = none → Q (.ref p) (upd H1 p (.lst xs))
theorem AJ {x1} (h : PA X es t) : PE X (.Tuple es x1 pos) (EY t) := by
  intro pins s σ H Q I hq
  refine wpAny_Tuple_spliced (cE (h pos pins s σ H _ I hq) fun us s1 ⟨xs, H1, I1, r, z, q⟩ => ⟨by rw [← r.length]; exact z, ?_⟩)
  have hf : H1 s1.heap.objs.size = none := I1.hok.fresh (Nat.le_refl _)
  refine ⟨.ref s1.heap.objs.size, upd H1 s1.heap.objs.size (.tup xs), I1.laid (t' := s1.toks) (fun b u e => Heap.get?_push_of_some _ e) (Nat.le_refl _) ?_, rfl, q _ hf⟩
  exact ⟨z, us, r, ⟨_, Heap.get?_push_size _ rfl, rfl, _, rfl⟩⟩
theorem AO (h : PA X es t) : PE X (.List es pos) (E4 t) := by
  intro pins s σ H Q I hq
  refine wpAny_List_spliced (cE (h pos pins s σ H _ I hq) fun us s1 ⟨xs, H1, I1, r, z, q⟩ => ⟨by rw [← r.length]; exact z, ?_⟩)
  have hf : H1 s1.heap.objs.size = none := I1.hok.fresh (Nat.le_refl _)
  refine ⟨.ref s1.heap.objs.size, upd H1 s1.heap.objs.size (.lst xs), I1.laid (t' := s1.toks) (fun b u e => Heap.get?_push_of_some _ e) (Nat.le_refl _) ?_, rfl, q _ hf⟩
  exact ⟨z, us, 0, r, Heap.get?_push_size _ rfl⟩
end
abbrev Sp := List V → Hp → VK → XK → Prop
abbrev tK := List Env → Hp → Shared → XK → Value → Shared → Prop
structure mG (P : Program) (w : World) (K : PySem.W.Frag) (mg : Str → Option Value) (base : Heap) (A : Around) (outer : List Env) (s : Shared) (H : Hp) : Prop where
  frames : A.frames = some outer
  mod : Mod K mg base
  bs : ∀ b o, base.get? b = some o → s.heap.get? b = some o ∧ H b = none
  bsz : base.objs.size ≤ s.heap.objs.size
  funs : s.heap.FunFrames base outer
  frf : ∀ b ∈ qd outer, H b = none
  hok : i7 P w H s.heap
  bare : AllBare s.gens
def CE (outer : List Env) (P : Program) (w : World) (H : Hp) (s : Shared) (Q : VK) (u : Value) (s' : Shared) : Prop :=
  ∃ v H', s'.os = s.os ∧ AllBare s'.gens ∧ Un (qd outer) [] H H' s.heap s'.heap ∧ i7 P w H' s'.heap ∧ bg v u ∧ Q v H'
def CR (CX : tK) (outer : List Env) (P : Program) (w : World) (H : Hp) (s : Shared) (Q : VK) (E : XK) (r : Result) (s' : Shared) : Prop :=
  match r with
  | .ok (.ret u) => CE outer P w H s Q u s'
  | .ok _ => False
  | .error e => CX outer H s E e s'
structure i9 (P : Program) (w : World) (K : PySem.W.Frag) (mg : Str → Option Value) (base : Heap) (CX : tK) (k : Nat) (f : Addr) (fd : FuncData) (ps : List Str) (sp : Sp) : Prop where
  len : ∀ vs H Q E, sp vs H Q E → vs.length = ps.length
  run : ∀ (A : Around) (outer : List Env) (s : Shared) (H : Hp) (args : Args) (us : List Value) (vs : List V) (Q : VK) (E : XK), bx k A → mG P w K mg base A outer s H → BindsTo s fd args (ps.zip us) → aF vs us → sp vs H Q E →
    codeAny (model P w) A (.call (.ref f) args) (CR CX outer P w H s Q E) s
theorem mG.make {P : Program} {w : World} {K : PySem.W.Frag} {mg : Str → Option Value} {base : Heap} {A : Around} {outer : List Env} {s : Shared} {H : Hp} (e : mG P w K mg base A outer s H) (C : Addr) (us : List Value) (kw : List (Str × Value)) :
    mG P w K mg base (A.under (.builtin "type.__call__" ⟨.ref C :: us, kw⟩)) outer s H := ⟨by first | exact e.frames | (simpa [Around.under, Code.envs, Code.isFrame, pushEnvs] using e.frames), e.mod, e.bs, e.bsz, e.funs, e.frf, e.hok, e.bare⟩
theorem mG.in1 {P : Program} {w : World} {K : PySem.W.Frag} {mg : Str → Option Value} {base : Heap} {A : Around} {outer : List Env} {s : Shared} {H : Hp} (e : mG P w K mg base A outer s H) :
    mG P w K mg base A.in1 outer s H := ⟨e.frames, e.mod, e.bs, e.bsz, e.funs, e.frf, e.hok, e.bare⟩
section
variable {X : Cx} {pins : List (Addr × Obj)} {σ : St} {H : Hp} {s s' : Shared}
theorem av.env0 (I : av X pins σ H s) : mG X.prog X.w X.K X.mg X.base X.A X.stack s H :=
  ⟨I.ok.frames, I.ok.mod, I.bs, Nat.le_trans I.ok.bsz I.sz, I.stack, I.stkFree, I.hok, I.bare⟩
theorem av.after {Q : VK} {u : Value} (I : av X pins σ H s) (h : CE X.stack X.prog X.w H s Q u s') : EP X pins σ Q u s' := by
  obtain ⟨v, H', os, bare, un, hok, r, q⟩ := h
  obtain ⟨hh, g, d, t, os'⟩ := s'
  obtain rfl : os' = s.os := os
  exact ⟨v, H', I.call (h' := hh) (g' := g) (d' := d) (t' := t) (ch := []) un hok bare (fun b z => absurd z (by simp)), r, q⟩
end
def uV (sp : Sp) (dvs : List V) (E : XK) (t : TA) : TE := fun σ H Q => t σ H fun vs H1 => sp (vs ++ dvs) H1 Q E
def CA (C : Addr) (m : Str) (sp : Sp) (dvs : List V) (E : XK) (ta : TE) (t : TA) : TE := fun σ H Q => ta σ H fun x H1 => ∃ a dx fs, x = .ref a ∧ H1 a = some (.ins C dx fs) ∧ fs.lookup m = none ∧
  t σ H1 fun vs H2 => sp (x :: (vs ++ dvs)) H2 Q E
def za (C : Addr) (sp : Sp) (dvs : List V) (E : XK) (t : TA) : TE := fun σ H Q => t σ H fun vs H1 => ∀ x dx, H1 x = none → H1 dx = none → dx ≠ x →
  sp (.ref x :: (vs ++ dvs)) (upd (upd H1 dx (.own x)) x (.ins C dx [])) (fun v H2 => v = .non ∧ Q (.ref x) H2) E
def ed (K : PySem.W.Frag) (fd : FuncData) (ps : List Str) (ds : List Value) : Prop :=
  ∀ (s : Shared) (us : List Value), K.In s.heap → (us ++ ds).length = ps.length → BindsTo s fd ⟨us, []⟩ (ps.zip (us ++ ds))
theorem ed.all {K : PySem.W.Frag} {fd : FuncData} {ps : List Str} (h : ∀ us : List Value, us.length = ps.length → bindArgs fd ⟨us, []⟩ = pure (ps.zip us)) : ed K fd ps [] := fun s us _ hl => by
  rw [List.append_nil] at hl ⊢
  exact .of_eq (h us hl)
def jw (CX : tK) (X : Cx) (E : XK) : Prop := ∀ (pins : List (Addr × Obj)) (σ : St) (H : Hp) (s : Shared) (e : Value) (s' : Shared), av X pins σ H s → CX X.stack H s E e s' → X.xe e s'
section
variable {X : Cx} {CX : tK} {k : Nat} {f C : Addr} {fd : FuncData} {ps : List Str} {sp : Sp} {dvs : List V} {ds : List Value} {E : XK} {x m : Str} {p pos apos : Pos} {e o : Expr} {es : List Expr} {ta : TE} {t : TA}
theorem oh {pins : List (Addr × Obj)} {σ : St} {H : Hp} {s : Shared} {Q : VK} {us : List Value} {vs : List V} (F : i9 X.prog X.w X.K X.mg X.base CX k f fd ps sp) (hr : bx k X.A) (hb : ed X.K fd ps ds) (hd : aF dvs ds) (hx : jw CX X E)
    (I : av X pins σ H s) (r : aF vs us) (h : sp (vs ++ dvs) H Q E) : wpAny (model X.prog X.w) X.A (call (.ref f) us) (EP X pins σ Q) X.xe s := by
  have r2 : aF (vs ++ dvs) (us ++ ds) := r.append hd
  have hl : (us ++ ds).length = ps.length := by rw [← r2.length]; exact F.len _ _ _ _ h
  refine wpAny_call (codeAny_mono (F.run X.A X.stack s H ⟨us, []⟩ (us ++ ds) (vs ++ dvs) Q E hr I.env0 (hb s us I.kIn hl) r2 h) fun r s' hq => ?_)
  cases r with
  | error e => exact hx pins σ H s e s' I hq
  | ok fl =>
    cases fl with
    | ret u => exact I.after hq
    | next => exact False.elim hq
    | brk => exact False.elim hq
    | cont => exact False.elim hq
theorem ye (F : i9 X.prog X.w X.K X.mg X.base CX k f fd ps sp) (hr : bx k X.A) (hg : Gl X x) (hm : X.mg x = some (.ref f)) (hk : PySem.W.keepIn X.K (.ref f) = true) (hb : ed X.K fd ps ds) (hd : aF dvs ds) (hx : jw CX X E)
    (ha : PA X (e :: es) t) (hdb : (x == ("__debug__" : Str)) = false := by decide) (he : starEach (e :: es) X.env = (false, eval e X.env) :: starEach es X.env := by rfl) (hpl : (backTo pos (starEach es X.env)).any (·.1) = false := by rfl) :
    PE X (.Call (.Name x p) (e :: es) [] pos) (uV sp dvs E t) := by
  intro pins s σ H Q I h
  refine wpAny_Call_Name_kw (jQ I hg hm ?_ hdb)
  refine PySem.W.callWith_K (h₀ := X.base) I.ok.mod.kin hk (cE (ha pos pins s σ H _ I h) fun us s1 ⟨vs, H1, I1, r, q⟩ => ⟨I1.kIn, ?_⟩) he hpl
  exact oh F hr hb hd hx I1 r q
theorem ya {pl : Sem Bool} (he : PE X o ta) (c : nN X.K C) (hm : Eo X.K C m f) (F : i9 X.prog X.w X.K X.mg X.base CX k f fd ps sp) (hr : bx k X.A) (hb : ed X.K fd ps ds) (hd : aF dvs ds) (hx : jw CX X E) (ha : PA X (e :: es) t)
    (hst : starEach (e :: es) X.env = (false, eval e X.env) :: starEach es X.env := by rfl) (hpl : (backTo pos (starEach es X.env)).any (·.1) = false := by rfl)
    (ht : eval (.Call (.Attribute o m apos) (e :: es) [] pos) X.env = (do
      let ov ← eval o X.env
      standAt apos.atName
      let (f, first) ← holding [ov] (getMethod ov m pl)
      callWith pos f first (backTo pos (starEach (e :: es) X.env)) (backToKw pos (keywordEach [] X.env))) := by rfl) :
    PE X (.Call (.Attribute o m apos) (e :: es) [] pos) (CA C m sp dvs E ta t) := by
  intro pins s σ H Q I h
  refine PySem.W.methodCall_KW (pl := pl) (cE (he pins s σ H _ I h) fun u s1 ⟨x, H1, I1, rx, a, dx, fs, ex, ea, l, q⟩ => ?_) ht
  subst ex
  obtain rfl : u = Value.ref a := rx
  refine jr I1 ea c hm l ?_
  refine PySem.W.callWith_K (first := [.ref a]) (h₀ := X.base) I.ok.mod.kin hm.kp (cE (ha pos pins s1 σ H1 _ I1 q) fun us s2 ⟨vs, H2, I2, r, q2⟩ => ⟨I2.kIn, ?_⟩) hst hpl
  exact oh (us := .ref a :: us) (vs := .ref a :: vs) F hr hb hd hx I2 (.cons rfl r) q2
structure Mk (K : PySem.W.Frag) (C f : Addr) : Prop where
  makes : PySem.W.makesIn K C = true
  init : PySem.W.findIn K (.ref C) "__init__" = some (some (.ref f))
  fn : PySem.W.isFn K (.ref f) = true
  kp : PySem.W.keepIn K (.ref C) = true
theorem va {pins : List (Addr × Obj)} {σ : St} {H : Hp} {s : Shared} {Q : VK} {us : List Value} {vs : List V} (M : Mk X.K C f) (F : i9 X.prog X.w X.K X.mg X.base CX k f fd ps sp) (hr : bx (k + 1) X.A) (hb : ed X.K fd ps ds) (hd : aF dvs ds)
    (hx : jw CX X E) (I : av X pins σ H s) (r : aF vs us)
    (h : ∀ x dx, H x = none → H dx = none → dx ≠ x → sp (.ref x :: (vs ++ dvs)) (upd (upd H dx (.own x)) x (.ins C dx [])) (fun v H2 => v = .non ∧ Q (.ref x) H2) E) :
    wpAny (model X.prog X.w) X.A (call (.ref C) us) (EP X pins σ Q) X.xe s := by
  have hq := h (s.heap.objs.size + 1) s.heap.objs.size (I.hok.fresh (Nat.le_succ _)) (I.hok.fresh (Nat.le_refl _)) (Nat.ne_of_lt (Nat.lt_succ_self _))
  have I2 := av.made (C := C) I
  have r2 : aF (V.ref (s.heap.objs.size + 1) :: (vs ++ dvs)) (Value.ref (s.heap.objs.size + 1) :: (us ++ ds)) := .cons rfl (r.append hd)
  have hl : (Value.ref (s.heap.objs.size + 1) :: us ++ ds).length = ps.length := by
    have e := r2.length
    rw [F.len _ _ _ _ hq] at e
    exact e.symm
  refine wpAny_call (vT (f := f) I.kIn M.makes M.init (beq_iff_eq.mp M.fn) (codeAny_mono (F.run _ X.stack _ _ ⟨Value.ref (s.heap.objs.size + 1) :: us, []⟩ (Value.ref (s.heap.objs.size + 1) :: (us ++ ds)) _ _ E (hr.make C us [])
    (I2.env0.make C us []) (hb _ (Value.ref (s.heap.objs.size + 1) :: us) I2.kIn hl) r2 hq) fun r s' hq' => ?_))
  cases r with
  | error e => exact hx pins σ _ _ e s' I2 hq'
  | ok fl =>
    cases fl with
    | ret u =>
      obtain ⟨v, H', I3, rv, ev, q3⟩ := I2.after hq'
      subst ev
      exact ⟨rv, ⟨V.ref (s.heap.objs.size + 1), H', I3, rfl, q3⟩⟩
    | next => exact False.elim hq'
    | brk => exact False.elim hq'
    | cont => exact False.elim hq'
theorem yb (M : Mk X.K C f) (F : i9 X.prog X.w X.K X.mg X.base CX k f fd ps sp) (hr : bx (k + 1) X.A) (hg : Gl X x) (hm : X.mg x = some (.ref C)) (hb : ed X.K fd ps ds) (hd : aF dvs ds) (hx : jw CX X E)
    (ha : PA X (e :: es) t) (hdb : (x == ("__debug__" : Str)) = false := by decide) (he : starEach (e :: es) X.env = (false, eval e X.env) :: starEach es X.env := by rfl) (hpl : (backTo pos (starEach es X.env)).any (·.1) = false := by rfl) :
    PE X (.Call (.Name x p) (e :: es) [] pos) (za C sp dvs E t) := by
  intro pins s σ H Q I h
  refine wpAny_Call_Name_kw (jQ I hg hm ?_ hdb)
  refine PySem.W.callWith_K (h₀ := X.base) I.ok.mod.kin M.kp (cE (ha pos pins s σ H _ I h) fun us s1 ⟨vs, H1, I1, r, q⟩ => ⟨I1.kIn, ?_⟩) he hpl
  exact va M F hr hb hd hx I1 r q
end
section
variable {X : Cx} {CX : tK} {k : Nat} {f C : Addr} {fd : FuncData} {ps ks : List Str} {sp : Sp} {E : XK} {x m : Str} {p pos apos kpos : Pos} {e o : Expr} {es : List Expr} {kws : List Keyword} {te ta : TE} {t tk : TA} {nm : Option Str}
structure Fw (K : PySem.W.Frag) (fd : FuncData) (ps ks : List Str) (g : List Value → List Value → List Value) (gV : List V → List V → List V) : Prop where
  to : ∀ (s : Shared) (us ws : List Value), K.In s.heap → (g us ws).length = ps.length → BindsTo s fd ⟨us, ks.zip ws⟩ (ps.zip (g us ws))
  rel : ∀ {vs : List V} {us : List Value} {zs : List V} {ws : List Value}, aF vs us → aF zs ws → aF (gV vs zs) (g us ws)
variable {g : List Value → List Value → List Value} {gV : List V → List V → List V}
end
structure aN (N P : List Str) (sc : Scope) : Prop where
  kind : sc.kind = .function
  co : sc.isCoroutine = false
  gen : sc.isGenerator = false
  nd : N.Nodup
  pre : N.take P.length = P
  par : ∀ x ∈ P, sc.names.lookup x = some .local ∨ sc.names.lookup x = some .cell
  nofree : ∀ y ∈ sc.names, y.2 ≠ .free
theorem nI {kindOf : Str → Option NameKind} {x : Str} : ∀ {binds : List (Str × Value)} {m : Str → Option Value}, (∀ v, (x, v) ∉ binds) → bindL kindOf binds m x = m x
  | [], _, _ => rfl
  | (n, v) :: r, m, h => by
    unfold bindL
    rw [nI fun w hw => h w (List.mem_cons_of_mem _ hw)]
    split
    · have : x ≠ n := by rintro rfl; exact h v List.mem_cons_self
      simp [this]
    · rfl
theorem nK {kindOf : Str → Option NameKind} {x : Str} : ∀ {binds : List (Str × Value)} {m : Str → Option Value}, (∀ v, (x, v) ∉ binds) → bindC kindOf binds m x = m x
  | [], _, _ => rfl
  | (n, v) :: r, m, h => by
    unfold bindC
    rw [nK fun w hw => h w (List.mem_cons_of_mem _ hw)]
    split
    · rfl
    · have : x ≠ n := by rintro rfl; exact h v List.mem_cons_self
      simp [this]
theorem nJ {kindOf : Str → Option NameKind} {x : Str} {v : Value} : ∀ {P : List Str} {vs : List Value} {i : Nat} {m : Str → Option Value}, P.Nodup → P[i]? = some x → vs[i]? = some v → kindOf x = some .local →
    bindL kindOf (P.zip vs) m x = some v
  | [], _, _, _, _, h, _, _ => by simp at h
  | _ :: _, [], _, _, _, _, h, _ => by simp at h
  | p :: P, w :: vs, 0, m, nd, h1, h2, hk => by
    simp at h1 h2; subst h1; subst h2
    show bindL kindOf ((p, w) :: P.zip vs) m p = _
    unfold bindL
    rw [nI fun v hv => (List.nodup_cons.mp nd).1 (List.of_mem_zip hv).1, if_pos hk]
    simp
  | p :: P, w :: vs, i + 1, m, nd, h1, h2, hk => by
    show bindL kindOf ((p, w) :: P.zip vs) m x = _
    unfold bindL
    exact nJ (i := i) (List.nodup_cons.mp nd).2 (by simpa using h1) (by simpa using h2) hk
theorem nL {kindOf : Str → Option NameKind} {x : Str} {v : Value} : ∀ {P : List Str} {vs : List Value} {i : Nat} {m : Str → Option Value}, P.Nodup → P[i]? = some x → vs[i]? = some v → kindOf x ≠ some .local →
    bindC kindOf (P.zip vs) m x = some v
  | [], _, _, _, _, h, _, _ => by simp at h
  | _ :: _, [], _, _, _, _, h, _ => by simp at h
  | p :: P, w :: vs, 0, m, nd, h1, h2, hk => by
    simp at h1 h2; subst h1; subst h2
    show bindC kindOf ((p, w) :: P.zip vs) m p = _
    unfold bindC
    rw [nK fun v hv => (List.nodup_cons.mp nd).1 (List.of_mem_zip hv).1, if_neg hk]
    simp
  | p :: P, w :: vs, i + 1, m, nd, h1, h2, hk => by
    show bindC kindOf ((p, w) :: P.zip vs) m x = _
    unfold bindC
    exact nL (i := i) (List.nodup_cons.mp nd).2 (by simpa using h1) (by simpa using h2) hk
def start (N : List Str) (vs : List V) : St := vs.map some ++ List.replicate (N.length - vs.length) none
def kn (CX : tK) (P : Program) (w : World) (K : PySem.W.Frag) (mg : Str → Option Value) (base : Heap) (N : List Str) (qual : Str) (scope : Scope) (f : Addr) (cd : Value) (A : Around) (outer : List Env) (s : Shared) (H : Hp) (E : XK) : Cx where
  prog := P
  w := w
  K := K
  mg := mg
  base := base
  A := A.deeper (envOfC qual scope s.heap.objs.size f cd)
  N := N
  s₀ := s
  H₀ := H
  env := envOfC qual scope s.heap.objs.size f cd
  outer := outer
  stack := envOfC qual scope s.heap.objs.size f cd :: outer
  ex := []
  calm := true
  fn := fun _ => true
  pn := []
  xe := fun e s' => wpAny (model P w) (A.deeper (envOfC qual scope s.heap.objs.size f cd)) (leaving (envOfC qual scope s.heap.objs.size f cd) e) (fun _ s'' => CX outer H s E e s'') (fun e' s'' => CX outer H s E e' s'') s'
theorem qw {sc : Scope} {n : Nat} {x : Str} (h : sc.names.lookup x = some .cell) : ∃ c, (cellsFrom n sc.names []).lookup x = some c := by
  have q := PySem.W.cellsFrom_some sc.names n [] (.inl h)
  exact Option.isSome_iff_exists.mp q
theorem uz {CX : tK} {P : Program} {w : World} {K : PySem.W.Frag} {mg : Str → Option Value} {base : Heap} {N ps : List Str} {qual : Str} {scope : Scope} {f : Addr} {cd : Value} {A : Around} {outer : List Env} {s s1 : Shared} {H : Hp} {E : XK} {us : List Value} {vs : List V}
    (S : aN N ps scope) (hd : A.handled = none) (e0 : mG P w K mg base A outer s H) (hl : vs.length = ps.length) (r : aF vs us)
    (x : InCallC s s.heap.objs.size (bindL (envOfC qual scope s.heap.objs.size f cd).kindOf (ps.zip us) fun _ => none) (cellsFrom (s.heap.objs.size + 1) scope.names []) (bindC (envOfC qual scope s.heap.objs.size f cd).kindOf (ps.zip us) fun _ => none) s1) :
    av (kn CX P w K mg base N qual scope f cd A outer s H E) [] (start N vs) H s1 := by
  have hpl : ps.length ≤ N.length := by have := congrArg List.length S.pre; rw [List.length_take] at this; omega
  obtain ⟨h1, tk, rfl, hk⟩ := x.done
  have noA : ∀ b : Addr, b ∉ (kn CX P w K mg base N qual scope f cd A outer s H E).ex := fun b z => absurd (show b ∈ ([] : List Addr) from z) (by simp)
  refine ⟨⟨e0.mod, S.kind, rfl, rfl, Nat.le_refl _, fun y z c h1 h2 => ?_, fun y hy => ?_, fun y c _ h => ?_, fun _ => hd, Around.frames_deeper e0.frames, .inr ⟨rfl, rfl⟩, fun b z => absurd z (noA b), e0.bs, e0.bsz, fun b _ _ => noA b, fun b z => absurd z (noA b), e0.funs, e0.frf⟩,
    rfl, e0.bare, Un.kept hk, ⟨_, x.toInCall.ns, fun i y v h1 h2 h3 => ?_⟩, fun y c h => ⟨_, x.cell y c h⟩, e0.hok.fresh (Nat.le_refl _), fun y c h => ?_, fun p hp => absurd (show p ∈ ([] : List (Addr × Obj)) from hp) (by simp), e0.hok.kept hk, ?_⟩
  · exact name_of_addr x.apart (PySem.mem_of_lookup h1) (PySem.mem_of_lookup h2)
  · have hy : scope.names.lookup y = some .cell ∨ scope.names.lookup y = some .free := hy
    rcases hy with hy | hy
    · exact qw hy
    · exact absurd rfl (S.nofree _ (PySem.mem_of_lookup hy))
  · exact Nat.le_of_lt (x.above y c (PySem.mem_of_lookup h))
  · have hi : i < vs.length := by
      unfold start at h2
      by_cases hi : i < vs.length
      · exact hi
      · rw [List.getElem?_append_right (by simpa using hi)] at h2
        rw [List.getElem?_replicate] at h2
        split at h2 <;> cases h2
    have ha : vs[i]? = some v := by
      unfold start at h2
      rw [List.getElem?_append_left (by simpa using hi), List.getElem?_map] at h2
      cases e : vs[i]? with
      | none => rw [e] at h2; cases h2
      | some a => rw [e] at h2; cases h2; rfl
    obtain ⟨u, hu, rv⟩ := r.get ha
    have hp : ps[i]? = some y := by
      rw [← S.pre, List.getElem?_take_of_lt (by omega)]; exact h1
    have ndP : ps.Nodup := by rw [← S.pre]; exact S.nd.sublist (List.take_sublist _ _)
    refine ⟨u, rv, ?_⟩
    rcases S.par y (List.mem_of_getElem? hp) with k | k
    · exact .inl ⟨k, nJ ndP hp hu k⟩
    · obtain ⟨c, e⟩ := qw (n := s.heap.objs.size + 1) k
      refine .inr ⟨.inl k, c, e, ?_⟩
      have q := x.cell y c e
      rw [nL ndP hp hu (by show scope.names.lookup y ≠ _; rw [k]; decide)] at q
      exact q
  · exact e0.hok.fresh (Nat.le_of_lt (x.above y c (PySem.mem_of_lookup h)))
  · unfold start
    show _ = N.length
    rw [List.length_append, List.length_map, List.length_replicate]
    omega
theorem wb {CX : tK} {P : Program} {w : World} {K : PySem.W.Frag} {mg : Str → Option Value} {base : Heap} {k : Nat} {f : Addr} {name qual : Str} {params : Arguments} {body : List Stmt} {scope : Scope} {dV kV doc pm cdv ct oc : Value} {an od : Option Addr}
    {osl : Array (Option Value)} {N ps : List Str} {sp : Sp} (lk : K.lookup f = some ⟨oc, od, .func (PySem.W.fnOf name qual params body scope dV kV doc pm an cdv ct), osl⟩) (hcd : PySem.W.codeIn K cdv qual = true) (S : aN N ps scope)
    (len : ∀ vs H Q E, sp vs H Q E → vs.length = ps.length)
    (hbody : ∀ (A : Around) (outer : List Env) (s : Shared) (H : Hp) (vs : List V) (Q : VK) (E : XK), bx k (A.deeper (envOfC qual scope s.heap.objs.size f cdv)) → sp vs H Q E →
      ∃ t, m9 (kn CX P w K mg base N qual scope f cdv A outer s H E) body t ∧ t { nx := fun _ H' => Q .non H', rt := Q } (start N vs) H) :
    i9 P w K mg base CX (k + 1) f (PySem.W.fnOf name qual params body scope dV kV doc pm an cdv ct) ps sp := by
  refine ⟨len, fun A outer s H args us vs Q E hr e0 hb r hsp => ?_⟩
  have hl := len _ _ _ _ hsp
  have KX : K.In s.heap := e0.mod.kin.keeps fun b o e => (e0.bs b o e).1
  have lim : s.heap.NoLimit := e0.mod.nolimit.keeps fun b o e => (e0.bs b o e).1
  have hkind : ∀ y ∈ ps.zip us, scope.names.lookup y.1 = some .local ∨ (scope.names.lookup y.1 = some .cell ∧ ((cellsFrom (s.heap.objs.size + 1) scope.names []).lookup y.1).isSome = true) := fun ⟨n, v⟩ hy => by
    rcases S.par n (List.of_mem_zip hy).1 with q | q
    · exact .inl q
    · exact .inr ⟨q, PySem.W.cellsFrom_some _ _ _ (.inl q)⟩
  refine codeAny_call_function hr.depth (KX _ _ lk) rfl S.co S.gen rfl (PySem.W.codeRec_of KX hcd) (hb _ _ _ _ ?_)
  refine wpAny_newFunctionEnv_cells S.kind hkind fun env he s1 x => ?_
  subst he
  refine ⟨lim.keeps x.toInCall.keep, codeAny_func ?_⟩
  obtain ⟨t, ht, hq⟩ := hbody A outer s H vs Q E (hr.deeper _) hsp
  have I : av (kn CX P w K mg base N qual scope f cdv A outer s H E) [] (start N vs) H s1 := uz S hr.hd e0 hl r x
  refine wpAny_mono (ht [] s1 (start N vs) H _ I hq) (fun fl s' hs => ?_) fun e s' hs => hs
  have fin : ∀ {σ' : St} {H' : Hp} {v : V} {u : Value}, av (kn CX P w K mg base N qual scope f cdv A outer s H E) [] σ' H' s' → bg v u → Q v H' → CE outer P w H s Q u s' :=
    fun {σ' H' v u} J rv q => ⟨v, H', J.os, J.bare, J.base, J.hok, rv, q⟩
  cases fl with
  | ret u =>
    obtain ⟨v, σ', H', J, rv, q⟩ := hs
    exact fin J rv q
  | next =>
    obtain ⟨σ', H', J, q⟩ := hs
    exact fin (v := V.non) (u := Value.none) J rfl q
  | brk =>
    obtain ⟨_, _, _, q⟩ := hs
    exact False.elim q
  | cont =>
    obtain ⟨_, _, _, q⟩ := hs
    exact False.elim q
end L2
namespace L2
open PySem PySem.Spec PyProof.Rows
section
variable {X : Cx} {x : Str} {p pos : Pos} {e : Expr} {es : List Expr} {t : TA} {id T : String} {r : List V → Hp → VK → Prop}
def E7 (r : List V → Hp → VK → Prop) (t : TA) : TE := fun σ H Q => t σ H fun vs H1 => r vs H1 Q
theorem vI (hc : iX X (.builtin id) r) (hg : Gl X x) (hm : X.mg x = none) (hv : bootBuiltins x = some (.builtin id)) (ha : PA X (e :: es) t) (hn : x ≠ "__name__" := by decide) (hdb : (x == ("__debug__" : Str)) = false := by decide)
    (he : starEach (e :: es) X.env = (false, eval e X.env) :: starEach es X.env := by rfl) (hpl : (backTo pos (starEach es X.env)).any (·.1) = false := by rfl) : PE X (.Call (.Name x p) (e :: es) [] pos) (E7 r t) := by
  intro pins s σ H Q I h
  refine wpAny_Call_Name_kw (mm I hg hm hv ?_ hn hdb)
  exact PyProof.Rows.callWith_builtin1 (cE (ha pos pins s σ H _ I h) fun us s1 ⟨vs, H1, I1, r1, q1⟩ => hc pins s1 σ H1 vs us Q I1 r1 q1) he hpl
theorem uh (hc : iX X (.type T) r) (hg : Gl X x) (hm : X.mg x = none) (hv : bootBuiltins x = some (.type T)) (ha : PA X (e :: es) t) (hn : x ≠ "__name__" := by decide) (hdb : (x == ("__debug__" : Str)) = false := by decide)
    (he : starEach (e :: es) X.env = (false, eval e X.env) :: starEach es X.env := by rfl) (hpl : (backTo pos (starEach es X.env)).any (·.1) = false := by rfl) : PE X (.Call (.Name x p) (e :: es) [] pos) (E7 r t) := by
  intro pins s σ H Q I h
  refine wpAny_Call_Name_kw (mm I hg hm hv ?_ hn hdb)
  exact PyProof.Rows.callWith_type1 (cE (ha pos pins s σ H _ I h) fun us s1 ⟨vs, H1, I1, r1, q1⟩ => hc pins s1 σ H1 vs us Q I1 r1 q1) he hpl
end
end L2
namespace HT
open PySem PyProof.Rows
section
open PySem.SeqAt
open PySem.AutoSeq1 (wpAny_loadPart')
open PySem.MeetsSeq PySem.MeetsSeq2 PySem.MeetsSeq3
end
section
variable {prog : Program} {w : World} {A : Around} {E : Value → Shared → Prop} {s : Shared}
theorem cat_tup {t b : Addr} {vs ws : List Value} {Q : Value → Shared → Prop} (ht : IsTup s.heap t vs.toArray) (hb : IsTup s.heap b ws.toArray) (hv : vs ≠ [])
    (h1 : ws = [] → Q (.ref t) s) (h2 : ws ≠ [] → Q (.ref s.heap.objs.size) { s with heap := s.heap.push { cls := .type "tuple", data := .seq (vs ++ ws).toArray } })
    (hsz : vs.length + ws.length ≤ sizeLine) : wpAny (model prog w) A (binaryOp .Add (.ref t) (.ref b)) Q E s := by
  obtain ⟨⟨cls, dd, data, sl⟩, ho, hc, n, hd⟩ := id ht
  obtain ⟨⟨cls2, dd2, data2, sl2⟩, ho2, hc2, n2, hd2⟩ := id hb
  simp only at hc hd hc2 hd2
  subst hc hd hc2 hd2
  have e : vs.toArray ++ ws.toArray = (vs ++ ws).toArray := by simp
  by_cases hw : ws = []
  · exact concat_meets ⟨_, ho, rfl⟩ ⟨_, ho2, rfl⟩ noFill_tuple_add seq_tuple_add PySem.F.slot_tuple_add PySem.F.entry_tuple_add (PySem.F.args_tuple_add_2 _ _)
      (tuple_addW1 t b vs.toArray ws.toArray n n2 dd dd2 sl sl2 (by simpa using hv) (by simp [hw])) ⟨ho, ho2, h1 hw⟩
  · refine concat_meets ⟨_, ho, rfl⟩ ⟨_, ho2, rfl⟩ noFill_tuple_add seq_tuple_add PySem.F.slot_tuple_add PySem.F.entry_tuple_add (PySem.F.args_tuple_add_2 _ _)
      (tuple_addW2 t b vs.toArray ws.toArray n n2 dd dd2 sl sl2 (by simpa using hv) (by simpa using hw) (by rw [List.size_toArray, List.size_toArray]; exact hsz)) ⟨ho, ho2, ?_⟩
    rw [e]
    exact h2 hw
def sIx (n d : Nat) : Option Int → Nat
  | none => d
  | some v => if v < 0 then (v + (n : Int)).toNat else min v.toNat n
theorem Au (n d : Nat) (hd : d ≤ n) (o : Option Int) : sIx n d o ≤ n := by
  cases o with
  | none => exact hd
  | some v =>
    show (if v < 0 then (v + (n : Int)).toNat else min v.toNat n) ≤ n
    by_cases hv : v < 0
    · rw [if_pos hv]; omega
    · rw [if_neg hv]; exact Nat.min_le_right _ _
theorem tG (v : Int) (n d : Nat) : (if v < 0 then max (v + (n : Int)) 0 else min v (n : Int)) = ((sIx n d (some v) : Nat) : Int) := by
  show (if v < 0 then max (v + (n : Int)) 0 else min v (n : Int)) = (((if v < 0 then (v + (n : Int)).toNat else min v.toNat n) : Nat) : Int)
  by_cases hv : v < 0
  · simp only [if_pos hv]; omega
  · simp only [if_neg hv]; omega
theorem rJ (lo hi : Option Int) (n : Nat) : Builtin.Slice.sliceAdjust lo hi 1 (n : Int) = (((sIx n 0 lo : Nat) : Int), ((sIx n n hi : Nat) : Int)) := by
  have h1 : ¬ ((1 : Int) < 0) := by omega
  unfold Builtin.Slice.sliceAdjust
  simp only [h1, if_false]
  refine Prod.ext ?_ ?_
  · cases lo with
    | none => rfl
    | some v => exact tG v n 0
  · cases hi with
    | none => rfl
    | some v => exact tG v n n
theorem qY (i j : Nat) : Builtin.Slice.slicePlaces (i : Int) (j : Int) 1 = j - i := by
  unfold Builtin.Slice.slicePlaces
  have h1 : (1 : Int) > 0 := by omega
  simp only [h1, if_true, Int.ediv_one]
  split <;> omega
theorem lG {v : Value} {o : Option Int} {Q : Option Int → Shared → Prop} (p : IsPart v o) (h : Q o s) : wpAny (model prog w) A (Builtin.Slice.slicePartIndex v) Q E s := by
  cases p with
  | none => exact slicePart_none h
  | int i t => exact slicePart_int h
theorem j5 {sl : Addr} {vl vu : Value} {lo hi : Option Int} {n : Nat} {Q : Int × Int × Nat → Shared → Prop} (hs : s.heap.IsSliceOf sl vl vu .none) (pl : IsPart vl lo) (pu : IsPart vu hi)
    (h : Q (((sIx n 0 lo : Nat) : Int), 1, sIx n n hi - sIx n 0 lo) s) : wpAny (model prog w) A (Builtin.Slice.sliceApplied (.ref sl) (pure (n : Int))) Q E s := by
  obtain ⟨os, hos, hcs, hds⟩ := id hs
  unfold Builtin.Slice.sliceApplied Builtin.Slice.sliceFields
  refine wpAny_bind (wpAny_bind (wpAny_field hos hds (x := vl) rfl (wpAny_bind (wpAny_field hos hds (x := vu) rfl (wpAny_bind (wpAny_field hos hds (x := .none) rfl (wpAny_pure ?_)))))))
  refine wpAny_bind (slicePart_none ?_)
  show wpAny _ _ (if ((1 : Int) == 0) = true then _ else _) _ _ s
  rw [if_neg (by decide)]
  refine wpAny_bind (lG pl (wpAny_bind (lG pu (wpAny_bind (wpAny_pure ?_)))))
  show wpAny _ _ (match Builtin.Slice.sliceAdjust lo hi 1 (n : Int) with | (lo, hi) => pure (lo, (1 : Int), Builtin.Slice.slicePlaces lo hi 1)) _ _ s
  rw [rJ lo hi n]
  show wpAny _ _ (pure (((sIx n 0 lo : Nat) : Int), (1 : Int), Builtin.Slice.slicePlaces ((sIx n 0 lo : Nat) : Int) ((sIx n n hi : Nat) : Int) 1)) _ _ s
  rw [qY]
  exact wpAny_pure h
theorem vA (xs : Array Value) (i k : Nat) : ((List.range k).filterMap fun (m : Nat) => xs[((i : Int) + (m : Int) * 1).toNat]?).toArray = ((xs.toList.drop i).take k).toArray := by
  have e : (fun (m : Nat) => xs[((i : Int) + (m : Int) * 1).toNat]?) = fun m => xs[i + m]? := by
    funext m
    have : ((i : Int) + (m : Int) * 1).toNat = i + m := by omega
    rw [this]
  rw [e]
  have := pick_run xs i k
  rw [List.filterMap_map] at this
  have e2 : ((fun x => xs[x]?) ∘ fun x => i + x) = fun m => xs[i + m]? := rfl
  rw [e2] at this
  rw [this]
theorem getItem_tuple_cut {t sl : Addr} {items : Array Value} {vl vu : Value} {lo hi : Option Int} {Q : Value → Shared → Prop} (ht : IsTup s.heap t items) (hs : s.heap.IsSliceOf sl vl vu .none) (pl : IsPart vl lo) (pu : IsPart vu hi)
    (hw : ¬ (sIx items.size 0 lo = 0 ∧ sIx items.size items.size hi = items.size))
    (h : Q (.ref s.heap.objs.size) { s with heap := s.heap.push { cls := .type "tuple", data := .seq ((items.toList.drop (sIx items.size 0 lo)).take (sIx items.size items.size hi - sIx items.size 0 lo)).toArray } })
    (hsz : items.size ≤ sizeLine) : wpAny (model prog w) A (getItem (.ref t) (.ref sl)) Q E s := by
  have htake : sizeOk (.seq ((items.toList.drop (sIx items.size 0 lo)).take (sIx items.size items.size hi - sIx items.size 0 lo)).toArray) := by
    show ((items.toList.drop (sIx items.size 0 lo)).take (sIx items.size items.size hi - sIx items.size 0 lo)).toArray.size ≤ sizeLine
    rw [List.size_toArray, List.length_take, List.length_drop, Array.length_toList]
    omega
  have hj : sIx items.size items.size hi ≤ items.size := Au _ _ (Nat.le_refl _) hi
  obtain ⟨os, hos, hcs, hds⟩ := id hs
  have hTs : s.TypeIs (.ref sl) "slice" := ⟨os, hos, hcs⟩
  unfold getItem
  try with_reducible refine wpAny_holding ?_
  first | refine wpAny_bind (wpAny_pure ?_) | skip
  refine wpAny_bind (wpAny_sequenceKey ht.typeIs (by decide) ?_)
  refine wpAny_bind (wpAny_callSpecial?_slot (name := Str.ofString "__getitem__") ht.typeIs PyProof.Rows.slot_tuple_getitem
    (wpAny_call_entry PyProof.Rows.slot_tuple_getitem ht.typeIs entry_tuple_getitem ?_ (args_tuple_getitem _ _)))
  show wpAny _ _ (Builtin.Tuple.tupleItemsOf (.ref t) >>= _) _ _ s
  refine wpAny_bind (tupleItemsOf_ ht ?_)
  refine wpAny_bind (wpAny_typeOf hTs ?_)
  rw [if_pos (by decide)]
  refine wpAny_bind (j5 hs pl pu ?_)
  have hno : ¬ ((((sIx items.size 0 lo : Nat) : Int) == 0 && (1 : Int) == 1 && (sIx items.size items.size hi - sIx items.size 0 lo) == items.size) = true) := by
    intro q
    rw [Bool.and_eq_true, Bool.and_eq_true] at q
    have q1 : ((sIx items.size 0 lo : Nat) : Int) = 0 := eq_of_beq q.1.1
    have q2 : sIx items.size items.size hi - sIx items.size 0 lo = items.size := eq_of_beq q.2
    exact hw ⟨by omega, by omega⟩
  show wpAny _ _ (if (((sIx items.size 0 lo : Nat) : Int) == 0 && (1 : Int) == 1 && (sIx items.size items.size hi - sIx items.size 0 lo) == items.size) = true then _ else _) _ _ s
  rw [if_neg hno, vA]
  first
    | exact wpAny_bind (m := Builtin.Tuple.tupleExact _) (wpAny_newObj_type (wpAny_pure ⟨_, rfl, wpAny_pure h⟩) htake)
    | exact wpAny_bind (m := Builtin.Tuple.tupleExact _) (wpAny_newObj_type (wpAny_bind (wpAny_pure (wpAny_pure ⟨_, rfl, wpAny_pure h⟩))) htake)
    | exact wpAny_bind (wpAny_bind (m := Builtin.Tuple.tupleExact _) (wpAny_newObj_type (wpAny_pure (wpAny_pure ⟨_, rfl, wpAny_pure h⟩)) htake))
    | exact wpAny_bind (wpAny_bind (m := Builtin.Tuple.tupleExact _) (wpAny_newObj_type (wpAny_pure ⟨_, rfl, wpAny_pure h⟩) htake))
end
end HT
namespace L2
open PySem PySem.Spec PyProof.Rows
abbrev TO := St → Hp → (Option Int → Hp → Prop) → Prop
def PO (X : Cx) (e : Option Expr) (t : TO) : Prop :=
  ∀ (pins : List (Addr × Obj)) (s : Shared) (σ : St) (H : Hp) (Q : Option Int → Hp → Prop), av X pins σ H s → t σ H Q →
    wpAny (model X.prog X.w) X.A (evalPart e X.env) (fun u s' => ∃ o H', av X pins σ H' s' ∧ IsPart u o ∧ Q o H') X.xe s
def Cu (t : TE) : TO := fun σ H Q => t σ H fun x H1 => ∃ i, x = .int i ∧ Q (some i) H1
section
variable {X : Cx} {e : Expr} {te : TE} {lo hi : Option Expr} {tl th : TO} {pos p2 : Pos}
theorem xY (h : PE X e te) : PO X (some e) (Cu te) := by
  intro pins s σ H Q I hw
  rw [evalPart_some]
  refine cE (h pins s σ H _ I hw) fun u s1 ⟨x, H1, I1, r1, q1⟩ => ?_
  obtain ⟨i, rfl, q⟩ := q1
  obtain ⟨t, rfl⟩ := r1
  exact ⟨some i, H1, I1, .int i t, q⟩
def zY (X : Cx) (r : V → Option Int → Option Int → Hp → VK → Prop) : Prop :=
  ∀ (pins : List (Addr × Obj)) (s : Shared) (σ : St) (H : Hp) (x : V) (v vl vu : Value) (lo hi : Option Int) (sl : Addr) (Q : VK), av X pins σ H s → bg x v → s.heap.IsSliceOf sl vl vu .none → IsPart vl lo → IsPart vu hi → r x lo hi H Q →
    ∃ T id, typeLookup (.type T) "__getitem__" = pure (some (.builtin id)) ∧ s.TypeIs v T ∧ wpAny (model X.prog X.w) X.A (getItem v (.ref sl)) (EP X pins σ Q) X.xe s
theorem zY.or {r r' : V → Option Int → Option Int → Hp → VK → Prop} (h : zY X r) (h' : zY X r') : zY X (fun x lo hi H Q => r x lo hi H Q ∨ r' x lo hi H Q) := by
  intro pins s σ H x v vl vu lo hi sl Q I rx hs pl pu q
  rcases q with q | q
  · exact h pins s σ H x v vl vu lo hi sl Q I rx hs pl pu q
  · exact h' pins s σ H x v vl vu lo hi sl Q I rx hs pl pu q
def F0 (r : V → Option Int → Option Int → Hp → VK → Prop) (te : TE) (tl th : TO) : TE := fun σ H Q => te σ H fun x H1 => tl σ H1 fun l H2 => th σ H2 fun u H3 => r x l u H3 Q
theorem vE {r : V → Option Int → Option Int → Hp → VK → Prop} (hr : zY X r) (he : PE X e te) (hl : PO X lo tl) (hu : PO X hi th) : PE X (.Subscript e (.Slice lo hi none p2) pos) (F0 r te tl th) := by
  intro pins s σ H Q I h
  refine Subscript_ (cE (he pins s σ H _ I h) fun v s1 ⟨x, H1, I1, r1, q1⟩ => ?_)
  refine wpAny_Slice (cE (hl pins s1 σ H1 _ I1 q1) fun vl s2 ⟨l, H2, I2, pl, q2⟩ => cE (hu pins s2 σ H2 _ I2 q2) fun vu s3 ⟨u, H3, I3, pu, q3⟩ => ?_)
  rw [evalPart_none]
  refine wpAny_pure ?_
  have I4 : av X pins σ H3 { s3 with heap := s3.heap.push { cls := .type "slice", data := .fields #[vl, vu, .none] } } := I3.kept (t' := s3.toks) fun b ob q => Heap.get?_push_of_some _ q
  obtain ⟨T, id, hT, ht, hg⟩ := hr pins { s3 with heap := s3.heap.push { cls := .type "slice", data := .fields #[vl, vu, .none] } } σ H3 x v vl vu l u s3.heap.objs.size Q I4 r1 (Heap.IsSliceOf.new ..) pl pu q3
  show wpAny (model X.prog X.w) X.A (subscriptTail e (.Slice lo hi none p2) v (.ref s3.heap.objs.size)) (EP X pins σ Q) X.xe { s3 with heap := s3.heap.push { cls := .type "slice", data := .fields #[vl, vu, .none] } }
  exact tail_any (ops := [.ref s3.heap.objs.size, v]) ht hT hg (by with_unfolding_all rfl)
def qr (xs : List V) (lo hi : Option Int) : List V := (xs.drop (HT.sIx xs.length 0 lo)).take (HT.sIx xs.length xs.length hi - HT.sIx xs.length 0 lo)
theorem kL (xs : List V) (lo hi : Option Int) : (qr xs lo hi).length ≤ xs.length := by
  unfold qr
  rw [List.length_take, List.length_drop]
  omega
def CJ (K : PySem.W.Frag) : V → Option Int → Option Int → Hp → VK → Prop := fun x lo hi H Q => ∃ a xs, x = .ref a ∧ iw K H a xs ∧
  ¬ (HT.sIx xs.length 0 lo = 0 ∧ HT.sIx xs.length xs.length hi = xs.length) ∧ ∀ p, H p = none → Q (.ref p) (upd H p (.tup (qr xs lo hi)))
theorem An : zY X (CJ X.K) := by
  intro pins s σ H x v vl vu lo hi sl Q I rx hs pl pu h
  obtain ⟨a, xs, rfl, hx, hw, q⟩ := h
  cases rx
  obtain ⟨its, r, ht, hz⟩ := I.tuple hx
  have hlen : its.toArray.size = xs.length := by rw [List.size_toArray]; exact r.length.symm
  refine ⟨"tuple", _, PyProof.Rows.slot_tuple_getitem.lookup, ht.typeIs, ?_⟩
  refine HT.getItem_tuple_cut ht hs pl pu (by rw [hlen]; exact hw) ?_ (by rw [hlen]; exact hz)
  rw [hlen]
  refine ⟨.ref s.heap.objs.size, _, I.laid (t' := s.toks) (o := .tup (qr xs lo hi)) (fun b ob q => Heap.get?_push_of_some _ q) (Nat.le_refl _) ?_, rfl, q _ (I.hok.fresh (Nat.le_refl _))⟩
  exact ⟨Nat.le_trans (kL xs lo hi) hz, _, (r.drop (HT.sIx xs.length 0 lo)).take (HT.sIx xs.length xs.length hi - HT.sIx xs.length 0 lo), IsTup.new _ _⟩
def zh (K : PySem.W.Frag) : R2 := fun x y H Q => ∃ a b xs ys, x = .ref a ∧ y = .ref b ∧ iw K H a xs ∧ iw K H b ys ∧ xs ≠ [] ∧ xs.length + ys.length ≤ sizeLine ∧
  (ys = [] → Q (.ref a) H) ∧ (ys ≠ [] → ∀ p, H p = none → Q (.ref p) (upd H p (.tup (xs ++ ys))))
theorem aF.nil_iff {xs : List V} {us : List Value} (r : aF xs us) : us = [] ↔ xs = [] := by
  cases r with
  | nil => simp
  | cons _ _ => simp
theorem ym : iu X (binaryOp .Add) (zh X.K) := by
  intro pins s σ H x y v u Q I rx ry h
  obtain ⟨a, b, xs, ys, rfl, rfl, ha, hb, hx, hz, q1, q2⟩ := h
  cases rx
  cases ry
  obtain ⟨its, r1, p1, _⟩ := I.tuple ha
  obtain ⟨its2, r2, p2, _⟩ := I.tuple hb
  refine HT.cat_tup p1 p2 (fun z => hx (r1.nil_iff.mp z)) (fun z => ⟨.ref a, H, I, rfl, q1 (r2.nil_iff.mp z)⟩) (fun z => ?_) (by rw [← r1.length, ← r2.length]; exact hz)
  refine ⟨.ref s.heap.objs.size, _, I.laid (t' := s.toks) (o := .tup (xs ++ ys)) (fun b ob q => Heap.get?_push_of_some _ q) (Nat.le_refl _) ?_, rfl, q2 (fun w => z (r2.nil_iff.mpr w)) _ (I.hok.fresh (Nat.le_refl _))⟩
  exact ⟨by rw [List.length_append]; exact hz, _, r1.append r2, IsTup.new _ _⟩
end
end L2
namespace L2
open PySem PySem.Spec PyProof.Rows
def B8 (n : Nat) (i : Int) : Option Nat := if 0 ≤ i then (if i < n then some i.toNat else none) else if -(n : Int) ≤ i then some (i + n).toNat else none
def BW {α : Type} (xs : List α) (i : Int) : Option α := (B8 xs.length i).bind fun j => xs[j]?
theorem sV {n : Nat} {i : Int} {j : Nat} (h : B8 n i = some j) : seqIndex? i n = some j ∧ j < n ∧ -(n : Int) ≤ i ∧ i < n := by
  unfold B8 at h
  by_cases h0 : 0 ≤ i
  · rw [if_pos h0] at h
    by_cases h1 : i < n
    · rw [if_pos h1] at h
      have e : i.toNat = j := Option.some.inj h
      exact ⟨by rw [seqIndex_of h0 h1, e], by omega, by omega, h1⟩
    · rw [if_neg h1] at h; cases h
  · rw [if_neg h0] at h
    by_cases h1 : -(n : Int) ≤ i
    · rw [if_pos h1] at h
      have e : (i + n).toNat = j := Option.some.inj h
      exact ⟨by rw [seqIndex_neg (by omega) h1, e], by omega, h1, by omega⟩
    · rw [if_neg h1] at h; cases h
theorem oV {α : Type} {xs : List α} {i : Int} {v : α} (h : BW xs i = some v) : ∃ j, seqIndex? i xs.length = some j ∧ xs[j]? = some v ∧ j < xs.length ∧ -(xs.length : Int) ≤ i ∧ i < xs.length := by
  unfold BW at h
  cases e : B8 xs.length i with
  | none => rw [e] at h; cases h
  | some j =>
    rw [e] at h
    obtain ⟨h1, h2, h3, h4⟩ := sV e
    exact ⟨j, h1, h, h2, h3, h4⟩
def oY (b : Expr) : Prop := ∀ o i, subscripted b false o i = operate [o, i] (getItem o i)
def xq (X : Cx) (r : R2) : Prop :=
  ∀ (value slice : Expr) (pins : List (Addr × Obj)) (s : Shared) (σ : St) (H : Hp) (x y : V) (v u : Value) (Q : VK), av X pins σ H s → bg x v → bg y u → r x y H Q →
    subscripted slice false v u = operate [v, u] (getItem v u) → wpAny (model X.prog X.w) X.A (subscriptTail value slice v u) (EP X pins σ Q) X.xe s
def Fq (X : Cx) (id : String) (r : V → List V → Hp → VK → Prop) : Prop :=
  ∀ (pins : List (Addr × Obj)) (s : Shared) (σ : St) (H : Hp) (x : V) (xs : List V) (v : Value) (us : List Value) (Q : VK), av X pins σ H s → bg x v → aF xs us → r x xs H Q →
    wpAny (model X.prog X.w) X.A (call (.builtin id) (v :: us)) (EP X pins σ Q) X.xe s
section
variable {X : Cx} {a b : Expr} {ta tb : TE} {pos : Pos}
theorem xq.or {r r' : R2} (h : xq X r) (h' : xq X r') : xq X (fun x y H Q => r x y H Q ∨ r' x y H Q) := by
  intro value slice pins s σ H x y v u Q I rx ry q hs
  rcases q with q | q
  · exact h value slice pins s σ H x y v u Q I rx ry q hs
  · exact h' value slice pins s σ H x y v u Q I rx ry q hs
theorem Dc {r : R2} (hr : xq X r) (ha : PE X a ta) (hb : PE X b tb) (hs : oY b) : PE X (.Subscript a b pos) (Cv r ta tb) := by
  intro pins s σ H Q I h
  exact Subscript_ (BU ha hb I h fun v u s2 x y H2 I2 rx ry q => hr a b pins s2 σ H2 x y v u Q I2 rx ry q (hs _ _))
def CP (K : PySem.W.Frag) : R2 := fun x y H Q => ∃ p xs i v, x = .ref p ∧ y = .int i ∧ ji K H p xs ∧ BW xs i = some v ∧ Q v H
def CN (K : PySem.W.Frag) : R2 := fun x y H Q => ∃ p xs i v, x = .ref p ∧ y = .int i ∧ iw K H p xs ∧ BW xs i = some v ∧ Q v H
def CO : R2 := fun x y H Q => ∃ z i c, x = .str z ∧ y = .int i ∧ z.length ≤ sizeLine ∧ BW z.cps.toList i = some c ∧ Q (.str ⟨#[c]⟩) H
theorem yx : xq X (CP X.K) := by
  intro value slice pins s σ H x y v u Q I rx ry h hs
  obtain ⟨p, xs, i, z, rfl, rfl, hq, he, q⟩ := h
  cases rx
  obtain ⟨t, rfl⟩ := ry
  obtain ⟨its, r, pl, hz⟩ := I.list hq
  obtain ⟨j, h1, h2, h3, h4, h5⟩ := oV he
  obtain ⟨w, ew, rw'⟩ := r.get h2
  have hl := r.length
  have hn := kh
  have fin : EP X pins σ Q w s := ⟨z, H, I, rw', q⟩
  by_cases h0 : 0 ≤ i
  · have hj : i.toNat = j := by
      rw [seqIndex_of h0 h5] at h1
      exact Option.some.inj h1
    exact item_listR pl.isList h0 (by omega) (by rw [hj]; simpa using ew) fin hs
  · have hj : (i + (its.toArray.size : Int)).toNat = j := by
      rw [seqIndex_neg (by omega) h4] at h1
      rw [List.size_toArray, ← hl]
      exact Option.some.inj h1
    exact subscriptTail_builtinR (x := w) pl.isList.typeIs slot_list_getitem.lookup
      (wpAny_getItem_list_neg (Q := fun r s' => r = w ∧ EP X pins σ Q r s') pl.isList (by omega) (by rw [List.size_toArray] <;> omega) (by omega) (by rw [hj]; simpa using ew) ⟨rfl, fin⟩) hs
theorem Bz : xq X (CN X.K) := by
  intro value slice pins s σ H x y v u Q I rx ry h hs
  obtain ⟨p, xs, i, z, rfl, rfl, hq, he, q⟩ := h
  cases rx
  obtain ⟨t, rfl⟩ := ry
  obtain ⟨its, r, pl, hz⟩ := I.tuple hq
  obtain ⟨j, h1, h2, h3, h4, h5⟩ := oV he
  obtain ⟨w, ew, rw'⟩ := r.get h2
  have hl := r.length
  have hn := kh
  have fin : EP X pins σ Q w s := ⟨z, H, I, rw', q⟩
  exact subscriptTail_builtinR (x := w) pl.typeIs slot_tuple_getitem.lookup
    (getItem_tuple (j := j) (Q := fun r s' => r = w ∧ EP X pins σ Q r s') pl (by omega) (by omega) (by rw [List.size_toArray, ← hl]; exact h1) (by simpa using ew) ⟨rfl, fin⟩) hs
theorem BA : xq X CO := by
  intro value slice pins s σ H x y v u Q I rx ry h hs
  obtain ⟨z, i, c, rfl, rfl, hz, he, q⟩ := h
  obtain ⟨t, rfl⟩ := rx
  obtain ⟨t', rfl⟩ := ry
  obtain ⟨j, h1, h2, h3, h4, h5⟩ := oV he
  have hl : z.cps.toList.length = z.length := by simp [Str.length]
  rw [hl] at h1 h4 h5
  have hn := kh
  exact tail_any (typeIs_str s z t) slot_str_getitem.lookup (getItem_str (c := c) (by
    have e1 : decide (i < -(2 ^ 63 : Int)) = false := decide_eq_false (by omega)
    have e2 : decide (i ≥ 2 ^ 63) = false := decide_eq_false (by omega)
    rw [e1, e2, Bool.or_false]) (by rw [h1]; simpa using h2) ⟨.str ⟨#[c]⟩, H, I.tok _, ⟨_, rfl⟩, q⟩) hs
def Fz (K : PySem.W.Frag) : R2 := fun x y H Q => CP K x y H Q ∨ CN K x y H Q ∨ CO x y H Q
theorem BB : xq X (Fz X.K) := yx.or (Bz.or BA)
theorem rg (its : List Value) (n j : Nat) (u : Value) : Obj.mapSeq (·.setIfInBounds j u) { cls := .type "list", data := .seq its.toArray n } = { cls := .type "list", data := .seq (its.set j u).toArray n } := by
  simp [Obj.mapSeq]
theorem av.lst {pins : List (Addr × Obj)} {σ : St} {H : Hp} {s : Shared} {p : Addr} {xs : List V} (I : av X pins σ H s) (h : H p = some (.lst xs)) :
    ∃ (its : List Value) (n : Nat), aF xs its ∧ s.heap.get? p = some { cls := .type "list", data := .seq its.toArray n } ∧ xs.length ≤ sizeLine := by
  obtain ⟨z, its, n, r, e⟩ := I.hok p _ h
  exact ⟨its, n, r, e, z⟩
theorem av.lstUpd {pins : List (Addr × Obj)} {σ : St} {H : Hp} {s : Shared} {p : Addr} {xs ys : List V} {its its' : List Value} {n n' : Nat} {f : Obj → Obj} (I : av X pins σ H s) (h : H p = some (.lst xs))
    (ho : s.heap.get? p = some { cls := .type "list", data := .seq its.toArray n }) (hf : f { cls := .type "list", data := .seq its.toArray n } = { cls := .type "list", data := .seq its'.toArray n' }) (r : aF ys its') (hz : ys.length ≤ sizeLine) (t : Nat) :
    av X pins σ (upd H p (.lst ys)) { s with heap := s.heap.update p f, toks := t } := by
  have e : (s.heap.update p f).get? p = some { cls := .type "list", data := .seq its'.toArray n' } := by
    rw [Heap.get?_update_self f ho (by rw [hf] <;> rfl), hf]
  refine I.write (x := p) (e := p) (by rw [h]; trivial) (.inl rfl) (fun b u hb q => (Heap.get?_update_other _ _ (Ne.symm hb)).trans q) ⟨_, e⟩ ?_
  exact ⟨hz, its', n', r, e⟩
def CL : V → V → V → Hp → (Hp → Prop) → Prop := fun o i v H Q => ∃ p xs k j, o = .ref p ∧ i = .int k ∧ H p = some (.lst xs) ∧ B8 xs.length k = some j ∧ Q (upd H p (.lst (xs.set j v)))
theorem u1 : Ek X CL := by
  intro pins s σ H o i v ov iv u Q I ro ri rv h
  obtain ⟨p, xs, k, j, rfl, rfl, hp, hj, q⟩ := h
  cases ro
  obtain ⟨t, rfl⟩ := ri
  obtain ⟨its, n, r, ho, hz⟩ := I.lst hp
  obtain ⟨h1, h2, h3, h4⟩ := sV hj
  have hl := r.length
  have hn := kh
  have I' : av X pins σ (upd H p (.lst (xs.set j v))) { s with heap := s.heap.update p (Obj.mapSeq (·.setIfInBounds j u)) } :=
    I.lstUpd hp ho (rg its n j u) (r.set rv j) (by rw [List.length_set]; exact hz) s.toks
  by_cases h0 : 0 ≤ k
  · have hk : k.toNat = j := by
      rw [seqIndex_of h0 h4] at h1
      exact Option.some.inj h1
    exact PySem.W.ki_setAt ho h0 (by omega) (by rw [List.size_toArray, ← hl]; exact h4) (by rw [hk]; exact ⟨_, I', q⟩)
  · have hk : (k + (its.toArray.size : Int)).toNat = j := by
      rw [seqIndex_neg (by omega) h3] at h1
      rw [List.size_toArray, ← hl]
      exact Option.some.inj h1
    exact PySem.W.ki_setBack ho (by omega) (by rw [List.size_toArray, ← hl]; exact h3) (by omega) (by rw [hk]; exact ⟨_, I', q⟩)
theorem nU (lo hi : Option Int) (n : Nat) : (sliceBounds lo hi none n).1 = ((HT.sIx n 0 lo : Nat) : Int) ∧ (sliceBounds lo hi none n).2.1 = ((HT.sIx n n hi : Nat) : Int) ∧ (sliceBounds lo hi none n).2.2 = 1 := by
  refine ⟨?_, ?_, rfl⟩
  · cases lo with
    | none => simp [sliceBounds, HT.sIx]
    | some i =>
      simp only [sliceBounds, HT.sIx, Option.getD_none, show (1 : Int) > 0 by decide, if_true]
      by_cases h : i < 0
      · simp only [h, if_true] <;> omega
      · simp only [h, if_false] <;> omega
  · cases hi with
    | none => simp [sliceBounds, HT.sIx]
    | some i =>
      simp only [sliceBounds, HT.sIx, Option.getD_none, show (1 : Int) > 0 by decide, if_true]
      by_cases h : i < 0
      · simp only [h, if_true] <;> omega
      · simp only [h, if_false] <;> omega
theorem mL (its : List Value) (lo hi : Option Int) : slicePick its.toArray lo hi none = ((its.drop (HT.sIx its.length 0 lo)).take (HT.sIx its.length its.length hi - HT.sIx its.length 0 lo)).toArray := by
  obtain ⟨h1, h2, h3⟩ := nU lo hi its.toArray.size
  unfold slicePick
  rw [h1, h2, h3]
  simp only [sliceRange_one, pick_run, List.size_toArray] <;> rfl
def CK (K : PySem.W.Frag) : V → Option Int → Option Int → Hp → VK → Prop := fun x lo hi H Q => ∃ a xs, x = .ref a ∧ ji K H a xs ∧ ∀ p, H p = none → Q (.ref p) (upd H p (.lst (qr xs lo hi)))
theorem xE : zY X (CK X.K) := by
  intro pins s σ H x v vl vu lo hi sl Q I rx hs pl pu h
  obtain ⟨a, xs, rfl, hx, q⟩ := h
  cases rx
  obtain ⟨its, r, ht, hz⟩ := I.list hx
  have hlen := r.length
  refine ⟨"list", _, slot_list_getitem.lookup, ht.isList.typeIs, ?_⟩
  refine wpAny_getItem_list_slice ht.isList hs pl pu .none (by simp) ?_ (by rw [List.size_toArray] <;> omega)
  rw [mL, ← hlen]
  refine ⟨.ref s.heap.objs.size, _, I.laid (t' := s.toks) (o := .lst (qr xs lo hi)) (fun b ob q => Heap.get?_push_of_some _ q) (Nat.le_refl _) ?_, rfl, q _ (I.hok.fresh (Nat.le_refl _))⟩
  exact ⟨Nat.le_trans (kL xs lo hi) hz, _, 0, (r.drop (HT.sIx xs.length 0 lo)).take (HT.sIx xs.length xs.length hi - HT.sIx xs.length 0 lo), Heap.get?_push_size _ rfl⟩
theorem oU : iX X (.type "list") (fun xs H Q => ∃ p ys, xs = [.ref p] ∧ (ji X.K H p ys ∨ iw X.K H p ys) ∧ ∀ l, H l = none → Q (.ref l) (upd H l (.lst ys))) := by
  intro pins s σ H xs us Q I r h
  obtain ⟨p, ys, rfl, hq, q⟩ := h
  obtain ⟨u, rfl, rx⟩ := rS r
  cases rx
  have fin : ∀ (its : List Value), aF ys its → ys.length ≤ sizeLine → ∀ (h' : Heap) (c' : Nat), (∀ b o', s.heap.get? b = some o' → h'.get? b = some o') →
      h'.get? s.heap.objs.size = some { cls := .type "list", dict := none, data := .seq its.toArray c', slots := #[] } → EP X pins σ Q (.ref s.heap.objs.size) { s with heap := h' } := fun its r' hz h' c' kp e =>
    ⟨.ref s.heap.objs.size, _, I.laid (t' := s.toks) kp (Nat.le_refl _) (show cv X.prog X.w _ h' _ (.lst ys) from ⟨hz, its, c', r', e⟩), rfl, q _ (I.hok.fresh (Nat.le_refl _))⟩
  rcases hq with hq | hq
  · obtain ⟨its, r', pl, hz⟩ := I.list hq
    have hlen := r'.length
    obtain ⟨o, ho, hc, n, hd⟩ := pl.isList
    exact call_list_seq p (.inl rfl) ho hc hd (fun h' c' kp e => fin its r' hz h' c' kp e) (by simp only [List.size_toArray] <;> omega)
  · obtain ⟨its, r', pl, hz⟩ := I.tuple hq
    have hlen := r'.length
    obtain ⟨o, ho, hc, n, hd⟩ := pl
    exact call_list_seq p (.inr rfl) ho hc hd (fun h' c' kp e => fin its r' hz h' c' kp e) (by simp only [List.size_toArray] <;> omega)
theorem m5 : iX X (.type "tuple") (fun xs H Q => ∃ p ys, xs = [.ref p] ∧ ((ji X.K H p ys ∧ ∀ l, H l = none → Q (.ref l) (upd H l (.tup ys))) ∨ (iw X.K H p ys ∧ Q (.ref p) H))) := by
  intro pins s σ H xs us Q I r h
  obtain ⟨p, ys, rfl, h⟩ := h
  obtain ⟨u, rfl, rx⟩ := rS r
  cases rx
  rcases h with ⟨hq, q⟩ | ⟨hq, q⟩
  · obtain ⟨its, r', pl, hz⟩ := I.list hq
    have hlen := r'.length
    refine call_tuple_list pl.isList (fun h' kp => ?_) (by simp only [List.size_toArray] <;> omega)
    have I1 : av X pins σ H { s with heap := h' } := I.kept (t' := s.toks) kp
    have I2 : av X pins σ (upd H h'.objs.size (.tup ys)) { s with heap := h'.push { cls := .type "tuple", data := .seq its.toArray } } :=
      I1.laid (t' := s.toks) (fun b o e => Heap.get?_push_of_some _ e) (Nat.le_refl _) (show cv X.prog X.w _ _ _ (.tup ys) from ⟨hz, its, r', IsTup.new _ _⟩)
    exact ⟨.ref h'.objs.size, _, I2, rfl, q _ (I1.hok.fresh (Nat.le_refl _))⟩
  · obtain ⟨its, r', pl, hz⟩ := I.tuple hq
    exact call_tuple_same pl ⟨.ref p, H, I, rfl, q⟩
def EM (K : PySem.W.Frag) (T : String) (x : V) (H : Hp) : Prop := match x with
  | .str _ => T = "str"
  | .int _ => T = "int"
  | .ref p => (T = "list" ∧ ∃ xs, ji K H p xs) ∨ (T = "tuple" ∧ ∃ o, K.lookup p = some o ∧ o.cls = .type "tuple" ∧ o.dict = none) ∨
      (T = "dict" ∧ ((∃ kvs, H p = some (.dK kvs)) ∨ ∃ kvs, H p = some (.dT kvs))) ∨ (T = "set" ∧ ∃ S n, H p = some (.set S n))
  | _ => False
theorem Ae {pins : List (Addr × Obj)} {σ : St} {H : Hp} {s : Shared} {T : String} {x : V} {v : Value} (I : av X pins σ H s) (r : bg x v) (ty : EM X.K T x H) :
    s.TypeIs v T ∧ ∀ a, v = .ref a → ∃ ob, s.heap.get? a = some ob ∧ ob.dict = none := by
  cases x with
  | str z =>
    obtain ⟨t, rfl⟩ := r
    cases (show T = "str" from ty)
    exact ⟨typeIs_str s z t, fun _ e => nomatch e⟩
  | int i =>
    obtain ⟨t, rfl⟩ := r
    cases (show T = "int" from ty)
    exact ⟨typeIs_int s i t, fun _ e => nomatch e⟩
  | ref p =>
    cases r
    rcases ty with ⟨rfl, xs, hq⟩ | ⟨rfl, o, hk, hc, hd⟩ | ⟨rfl, hk⟩ | ⟨rfl, S, n, hk⟩
    · obtain ⟨its, _, pl, _⟩ := I.list hq
      refine ⟨pl.isList.typeIs, fun a e => ?_⟩
      cases e
      obtain ⟨o, n, e, c, hd, _⟩ := pl
      exact ⟨o, e, hd⟩
    · refine ⟨⟨o, I.kIn p o hk, hc⟩, fun a e => ?_⟩
      cases e
      exact ⟨o, I.kIn _ o hk, hd⟩
    · have z : ∃ o, s.heap.get? p = some o ∧ o.ExactDict := by
        rcases hk with ⟨kvs, hk⟩ | ⟨kvs, hk⟩
        · obtain ⟨_, _, _, _, o, _, _, e, ex, _⟩ := I.hok p _ hk
          exact ⟨o, e, ex⟩
        · obtain ⟨_, _, _, _, o, _, _, e, ex, _⟩ := I.hok p _ hk
          exact ⟨o, e, ex⟩
      obtain ⟨o, e, ex⟩ := z
      refine ⟨⟨o, e, ex.1⟩, fun a e2 => ?_⟩
      cases e2
      exact ⟨o, e, ex.2.1⟩
    · obtain ⟨o, _, _, _, e, ex, _⟩ := I.hok p _ hk
      refine ⟨⟨o, e, ex.1⟩, fun a e2 => ?_⟩
      cases e2
      exact ⟨o, e, ex.2.1⟩
  | _ => exact False.elim ty
def F3 (K : PySem.W.Frag) (T : String) (r : V → List V → Hp → VK → Prop) (to : TE) (t : TA) : TE := fun σ H Q => to σ H fun x H1 => EM K T x H1 ∧ t σ H1 fun xs H2 => r x xs H2 Q
variable {o e : Expr} {es : List Expr} {to : TE} {t : TA} {name : Str} {apos cpos : Pos} {T id : String} {r : V → List V → Hp → VK → Prop}
theorem Dd (pa : PlainAttrs T) (slot : Slot T name id) (hty : typeOf (.builtin id) = pure (.type "method_descriptor")) (hm : Fq X id r) (ho : PE X o to) (ha : PA X (e :: es) t)
    (hbase : attributeBase o name X.env (eval o X.env) = eval o X.env := by rfl)
    (hfew : ((backTo cpos (starEach (e :: es) X.env)).all (fun x => !x.1) && (backToKw cpos (keywordEach [] X.env)).all (fun x => x.1.isSome)
      && decide ((e :: es).length + ([] : List Keyword).length + (if ([] : List Keyword).isEmpty then 0 else 1) < 30)) = true := by rfl)
    (hline : (apos.endLine == cpos.line) = true := by rfl) (hs : starEach (e :: es) X.env = (false, eval e X.env) :: starEach es X.env := by rfl) (hplain : (backTo cpos (starEach es X.env)).any (·.1) = false := by rfl) :
    PE X (.Call (.Attribute o name apos) (e :: es) [] cpos) (F3 X.K T r to t) := by
  intro pins s σ H Q I h
  refine wpAny_Call_method_late hbase hfew hline rfl (cE (ho pins s σ H _ I h) fun v s1 ⟨x, H1, I1, r1, ty, q1⟩ => ?_)
  obtain ⟨h1, h2⟩ := Ae I1 r1 ty
  refine ⟨T, id, pa, slot, hty, h1, h2, ?_⟩
  have hA := ha cpos pins s1 σ H1 _ I1 q1
  rw [hs] at hA ⊢
  refine Calls.callWith_builtin (by show (false || (backTo cpos (starEach es X.env)).any (·.1)) = false; rw [hplain] <;> rfl) (Calls.evalArgs_plain ?_)
  exact cE hA fun us s2 ⟨vs, H2, I2, r2, q2⟩ => hm pins s2 σ H2 x vs v us Q I2 r1 r2 q2
/- xs.append(e), list.index on a module's tuple .. are Fq facts of 06m -/
end
end L2
namespace L2
open PySem PySem.Spec PyProof.Rows
def Gn (X : Cx) (id : String) (r : V → List V → Hp → VK → Prop) : Prop :=
  ∀ (pins : List (Addr × Obj)) (s : Shared) (σ : St) (H : Hp) (x : V) (xs : List V) (v : Value) (us : List Value) (Q : VK), av X pins σ H s → bg x v → aF xs us → r x xs H Q →
    wpAny (model X.prog X.w) X.A (call (.builtin id) (v :: us)) (EP X pins σ Q) X.xe s
theorem aF.one : ∀ {x : V} {us : List Value}, aF [x] us → ∃ u, us = [u] ∧ bg x u
  | _, _, .cons r .nil => ⟨_, rfl, r⟩
theorem aF.zero : ∀ {us : List Value}, aF [] us → us = []
  | _, .nil => rfl
theorem aF.rep {xs : List V} {us : List Value} (h : aF xs us) : ∀ k : Nat, aF (List.replicate k xs).flatten (List.replicate k us).flatten
  | 0 => .nil
  | k + 1 => by
    rw [List.replicate_succ, List.replicate_succ, List.flatten_cons, List.flatten_cons]
    exact aF.append h (aF.rep h k)
theorem nE (its : List Value) : ∀ (k : Nat) (acc : List Value),
    List.foldl (fun x1 x2 => x1 ++ x2) acc.toArray (List.replicate k its.toArray) = (acc ++ (List.replicate k its).flatten).toArray
  | 0, acc => by simp
  | k + 1, acc => by
    have e : acc.toArray ++ its.toArray = (acc ++ its).toArray := by simp
    have e2 : (acc ++ its) ++ (List.replicate k its).flatten = acc ++ (List.replicate (k + 1) its).flatten := by
      rw [List.replicate_succ, List.flatten_cons, List.append_assoc]
    rw [← e2, ← nE its k (acc ++ its), ← e, List.replicate_succ, List.foldl_cons]
section
variable {X : Cx} {pins : List (Addr × Obj)} {σ : St} {H : Hp} {s : Shared} {l b : Addr} {xs ys zs : List V}
theorem av.lset {its its' : List Value} {n : Nat} {f : Array Value → Array Value} {t' : Nat} (I : av X pins σ H s) (hH : H l = some (.lst xs))
    (e : s.heap.get? l = some { cls := .type "list", data := .seq its.toArray n }) (hf : f its.toArray = its'.toArray) (hv : aF ys its') (hz : ys.length ≤ sizeLine) :
    av X pins σ (upd H l (.lst ys)) { s with heap := s.heap.update l (Obj.mapSeq f), toks := t' } := by
  have q := PySem.IsL.update e f
  rw [hf] at q
  refine I.write (x := l) (e := l) (by rw [hH]; exact trivial) (.inl rfl) (fun b' u hb hu => (Heap.get?_update_other s.heap (Obj.mapSeq f) (Ne.symm hb)).trans hu) ⟨_, q⟩ ?_
  exact ⟨hz, its', _, hv, q⟩
theorem av.lnew {its : List Value} {t' : Nat} (I : av X pins σ H s) (hv : aF ys its) (hz : ys.length ≤ sizeLine) :
    av X pins σ (upd H s.heap.objs.size (.lst ys)) { s with heap := s.heap.push { cls := .type "list", data := .seq its.toArray }, toks := t' } :=
  I.laid (fun _ _ q => Heap.get?_push_of_some _ q) (Nat.le_refl _) ⟨hz, its, 0, hv, Heap.get?_push_size _ rfl⟩
theorem av.fresh (I : av X pins σ H s) : H s.heap.objs.size = none := I.hok.fresh (Nat.le_refl _)
theorem av.lstM (I : av X pins σ H s) (hH : H l = some (.lst xs)) : xs.length ≤ sizeLine ∧ ∃ (its : List Value) (n : Nat), aF xs its ∧ xs.length = its.length ∧ s.heap.get? l = some { cls := .type "list", data := .seq its.toArray n } := by
  obtain ⟨z, its, n, r, e⟩ := I.hok l _ hH
  exact ⟨z, its, n, r, r.length, e⟩
theorem mh {n : Nat} (h : n ≤ sizeLine) : Builtin.List.listTooLong n = false := by
  unfold Builtin.List.listTooLong
  exact decide_eq_false (by omega)
end
section
variable {X : Cx}
def sr : V → List V → Hp → VK → Prop := fun x vs H Q => ∃ l xs y, x = .ref l ∧ vs = [y] ∧ H l = some (.lst xs) ∧ xs.length < sizeLine ∧ Q .non (upd H l (.lst (xs ++ [y])))
theorem nB : Gn X "list.append" sr := by
  intro pins s σ H x vs v us Q I rx rv h
  obtain ⟨l, xs, y, rfl, rfl, hH, hz, q⟩ := h
  cases rx
  obtain ⟨u, rfl, ru⟩ := rv.one
  obtain ⟨z, its, n, r, hl, e⟩ := I.lstM hH
  refine call_meets F.slot_list_append ⟨_, e, rfl⟩ F.entry_list_append (F.args_list_append_2 _ _) (PySem.list_append l its.toArray n u (by rw [List.size_toArray]; omega)) ⟨e, ?_⟩
  refine ⟨.non, _, I.lset (its' := its ++ [u]) hH e (by simp) (r.append (.cons ru .nil)) ?_, rfl, q⟩
  rw [List.length_append, List.length_singleton]
  omega
def CQ : R2 := fun x y H Q => ∃ l b xs zs, x = .ref l ∧ y = .ref b ∧ H l = some (.lst xs) ∧ H b = some (.lst zs) ∧ xs.length + zs.length ≤ sizeLine ∧ ∀ p, H p = none → Q (.ref p) (upd H p (.lst (xs ++ zs)))
theorem Bc : iu X (binaryOp .Add) CQ := by
  intro pins s σ H x y v u Q I rx ry h
  obtain ⟨l, b, xs, zs, rfl, rfl, hH, hB, hz, q⟩ := h
  cases rx
  cases ry
  obtain ⟨z, its, n, r, hl, e⟩ := I.lstM hH
  obtain ⟨z2, its2, n2, r2, hl2, e2⟩ := I.lstM hB
  refine PySem.P.add_list e e2 ?_ (by rw [List.size_toArray, List.size_toArray]; omega)
  have ea : its.toArray ++ its2.toArray = (its ++ its2).toArray := by simp
  rw [ea]
  exact ⟨.ref _, _, I.lnew (t' := s.toks) (r.append r2) (by rw [List.length_append]; omega), rfl, q _ I.fresh⟩
def CM : R2 := fun x y H Q => ∃ l k xs, x = .ref l ∧ y = .int k ∧ H l = some (.lst xs) ∧ -(2 ^ 63) ≤ k ∧ k < 2 ^ 63 ∧ xs.length * k.toNat ≤ sizeLine ∧
  ∀ p, H p = none → Q (.ref p) (upd H p (.lst (List.replicate k.toNat xs).flatten))
theorem yu {α : Type} (xs : List α) (k : Nat) : (List.replicate k xs).flatten.length = k * xs.length := by
  induction k with
  | zero => simp
  | succ k ih => rw [List.replicate_succ, List.flatten_cons, List.length_append, ih, Nat.succ_mul, Nat.add_comm]
theorem A5 : iu X (binaryOp .Mult) CM := by
  intro pins s σ H x y v u Q I rx ry h
  obtain ⟨l, k, xs, rfl, rfl, hH, h1, h2, hz, q⟩ := h
  cases rx
  obtain ⟨t, rfl⟩ := ry
  obtain ⟨z, its, n, r, hl, e⟩ := I.lstM hH
  have hlen : its.toArray.size * k.toNat ≤ sizeLine := by rw [List.size_toArray, ← hl]; exact hz
  have hcap : ¬ its.toArray.size * k.toNat > (2 ^ 63 - 1) / 8 := by
    have : (sizeLine : Nat) ≤ (2 ^ 63 - 1) / 8 := by decide
    omega
  have hfit : ¬ (!Builtin.List.listFitsIndex k) = true := by
    rw [fitsIndex_both h1 h2]
    exact Bool.false_ne_true
  have hlong : ¬ Builtin.List.listTooLong (its.toArray.size * k.toNat) = true := by
    rw [mh hlen]
    exact Bool.false_ne_true
  have hnew : List.foldl (fun x1 x2 => x1 ++ x2) #[] (List.replicate (if its.toArray.isEmpty = true then 0 else k.toNat) its.toArray) = (List.replicate k.toNat its).flatten.toArray := by
    have f0 : ∀ m : Nat, List.foldl (fun x1 x2 => x1 ++ x2) #[] (List.replicate m its.toArray) = (List.replicate m its).flatten.toArray := fun m => by
      have := nE its m []
      rw [List.nil_append] at this
      exact this
    rw [f0]
    cases its with
    | nil => simp
    | cons a r' => rw [if_neg (by simp)]
  refine wpAny_binaryOp_repeat_ref (T := "list") (U := "int") (by decide) ⟨_, e, rfl⟩ (fun s' => typeIs_int s' k t) noFill_list_mul F.fills_int_mul F.slot_int_rmul repeat_list F.slot_int_index.lookup
    (call_meets F.slot_int_rmul (typeIs_int s k t) F.entry_int_rmul (F.args_int_rmul_2 _ _) (int___rmul___int_list k t l its.toArray n)
      ⟨e, rfl, ⟨_, e, rfl⟩, call_meets F.slot_list_mul ⟨_, e, rfl⟩ F.entry_list_mul (F.args_list_mul_2 _ _) (AutoListH.list___mul___list_int_3 l its.toArray n k t hfit hcap hlong) ⟨e, ?_⟩⟩)
  rw [hnew]
  exact ⟨.ref _, _, I.lnew (t' := s.toks) (r.rep k.toNat) (by rw [yu, Nat.mul_comm]; exact hz), rfl, q _ I.fresh⟩
end
section
variable {prog : Program} {w : World} {A : Around} {E : Value → Shared → Prop} {s : Shared}
theorem tY (its its2 : List Value) (a c : Nat) : its.toArray.extract 0 a ++ its2.toArray ++ its.toArray.extract c its.toArray.size = (its.take a ++ its2 ++ its.drop c).toArray := by
  apply Array.toList_inj.mp
  first
    | (simp
       exact List.take_of_length_le (by simp))
    | simp [List.take_of_length_le]
    | simp
theorem rH {a c n : Nat} (hac : a ≤ c) (hc : c ≤ n) : sliceBounds (some (a : Int)) (some (c : Int)) none n = ((a : Int), (c : Int), 1) := by
  simp only [sliceBounds, Option.getD_none]
  have h1 : ¬ ((a : Int) < 0) := by omega
  have h2 : ¬ ((c : Int) < 0) := by omega
  simp only [h1, h2, if_false, show (1 : Int) > 0 by decide, if_true]
  congr 1
  · omega
  · congr 1; omega
set_option maxRecDepth 100000 in
theorem mM {l b sl : Addr} {items new : Array Value} {n n2 : Nat} {vl vu : Value} {a c : Nat} {Q : Unit → Shared → Prop}
    (e : s.heap.get? l = some { cls := .type "list", data := .seq items n }) (e2 : s.heap.get? b = some { cls := .type "list", data := .seq new n2 }) (hne : l ≠ b)
    (hs : s.heap.IsSliceOf sl vl vu .none) (pl : IsPart vl (some (a : Int))) (pu : IsPart vu (some (c : Int))) (hac : a ≤ c) (hc : c ≤ items.size)
    (hsz : items.size + new.size ≤ sizeLine) (h : Q () { s with heap := s.heap.update l (Obj.mapSeq fun xs => xs.extract 0 a ++ new ++ xs.extract c xs.size) }) :
    wpAny (model prog w) A (setItem (.ref l) (.ref sl) (.ref b)) Q E s := by
  have hl : s.heap.IsList l items := PySem.IsL.isList e
  have hb : s.heap.IsList b new := PySem.IsL.isList e2
  obtain ⟨os, hos, hcs, hds⟩ := id hs
  have hTs : s.TypeIs (.ref sl) "slice" := ⟨os, hos, hcs⟩
  have hstep : ¬ ((rawPart none == rawInt 0) = true) := Bool.false_ne_true
  have hsame : Builtin.List.listSameRef (.ref l) (.ref b) = false := by
    unfold Builtin.List.listSameRef
    exact beq_eq_false_iff_ne.mpr hne
  have hmax : (max (a : Int) (c : Int)).toNat = c := by omega
  have hz' : ((fun xs : Array Value => xs.extract 0 a ++ new ++ xs.extract c xs.size) items).size ≤ sizeLine + 1 := by
    simp only [Array.size_append, Array.size_extract]
    omega
  unfold setItem
  try with_reducible refine wpAny_holding ?_
  first | refine wpAny_bind (wpAny_pure ?_) | skip
  refine wpAny_bind (wpAny_sequenceKey hl.typeIs (by decide) ?_)
  refine wpAny_bind (wpAny_callSpecial?_slot (name := Str.ofString "__setitem__") hl.typeIs slot_list_setitem
    (wpAny_call_entry slot_list_setitem hl.typeIs entry_list_setitem ?_ (args_list_setitem _ _ _)))
  show wpAny _ _ (Builtin.List.listSubscript? (.ref sl) >>= _) _ _ s
  refine wpAny_bind ?_
  unfold Builtin.List.listSubscript?
  refine wpAny_bind (wpAny_specialOf hTs slice_no_index ?_)
  simp only [Option.isNone_none, if_true]
  refine wpAny_pure ?_
  show wpAny _ _ (typeOf (.ref sl) >>= _) _ _ s
  refine wpAny_bind (wpAny_typeOf hTs ?_)
  first
    | rw [if_neg (by decide)]
    | refine PySem.W.KFB.if_not (by decide) ?_
  rw [listSliceParts_eq]
  refine wpAny_bind (wpAny_bind (wpAny_field hos hds (x := .none) rfl (wpAny_bind (wpAny_listPart .none ?_))))
  rw [if_neg hstep]
  refine wpAny_bind (wpAny_field hos hds (x := vl) rfl (wpAny_bind (wpAny_listPart pl ?_)))
  refine wpAny_bind (wpAny_field hos hds (x := vu) rfl (wpAny_bind (wpAny_listPart pu (wpAny_pure ?_))))
  first
    | simp only [hsame, Bool.false_eq_true, if_false]
    | refine PySem.W.KFB.if_not hsame ?_
    | (dsimp only
       rw [if_neg (by rw [hsame]; exact Bool.false_ne_true)])
  refine wpAny_bind (m := Builtin.List.listAllItems (.ref b) "must assign iterable to extended slice") ?_
  unfold Builtin.List.listAllItems
  refine wpAny_bind (wpAny_typeOf hb.typeIs ?_)
  first
    | refine PySem.W.KFB.if_so (by decide) ?_
    | rw [if_pos (by decide)]
    | simp only [beq_self_eq_true, Bool.true_or, if_true]
  unfold Builtin.List.listItems
  refine wpAny_bind (wpAny_seqItems e2 rfl (wpAny_pure ?_))
  refine wpAny_bind (wpAny_bind (wpAny_seqItems e rfl (wpAny_pure ?_)))
  refine wpAny_bind (wpAny_of_eq ((sliceIndices_raw (some (a : Int)) (some (c : Int)) none items.size (by simp)).trans (congrArg (pure : Int × Int × Int → Sem (Int × Int × Int)) (rH hac hc))) ?_)
  show wpAny _ _ (if ((1 : Int) == 1) = true then _ else _) _ _ s
  rw [if_pos (by decide)]
  refine wpAny_bind (wpAny_rule ?_)
  first
    | simp only [mh hsz, Bool.false_eq_true, if_false]
    | refine PySem.W.KFB.if_not (mh hsz) ?_
  first | refine wpAny_bind (wpAny_pure ?_) | skip
  show wpAny _ _ (updateSeq l (fun xs => xs.extract 0 ((a : Int)).toNat ++ new ++ xs.extract (max (a : Int) (c : Int)).toNat xs.size) >>= _) _ _ s
  rw [hmax, Int.toNat_natCast]
  refine wpAny_bind (wpAny_updateSeq (hz := Nat.le_trans (Nat.le_add_right _ _) hsz) (_hz' := hz') e rfl ?_)
  refine wpAny_bind (wpAny_letGo ?_)
  first
    | exact wpAny_bind (wpAny_pure (wpAny_pure ⟨.none, rfl, wpAny_pure h⟩))
    | exact wpAny_pure ⟨.none, rfl, wpAny_pure h⟩
end
section
variable {X : Cx}
theorem tZ {pins : List (Addr × Obj)} {s : Shared} {σ : St} {H : Hp} {l b sl : Addr} {xs ys : List V} {a c : Int} {vl vu : Value} {Q : Unit → Shared → Prop} (I : av X pins σ H s)
    (hH : H l = some (.lst xs)) (hB : H b = some (.lst ys)) (hne : l ≠ b) (hs : s.heap.IsSliceOf sl vl vu .none) (ra : bg (.int a) vl) (rc : bg (.int c) vu) (h0 : 0 ≤ a) (hac : a ≤ c) (hc : c ≤ xs.length)
    (hz : xs.length + ys.length ≤ sizeLine) (h : ∀ s', av X pins σ (upd H l (.lst (xs.take a.toNat ++ ys ++ xs.drop c.toNat))) s' → Q () s') :
    wpAny (model X.prog X.w) X.A (setItem (.ref l) (.ref sl) (.ref b)) Q X.xe s := by
  obtain ⟨ta, rfl⟩ := ra
  obtain ⟨tc, rfl⟩ := rc
  obtain ⟨z, its, n, r, hl, e⟩ := I.lstM hH
  obtain ⟨z2, its2, n2, r2, hl2, e2⟩ := I.lstM hB
  obtain ⟨a', rfl⟩ := Int.eq_ofNat_of_zero_le h0
  obtain ⟨c', rfl⟩ := Int.eq_ofNat_of_zero_le (Int.le_trans h0 hac)
  simp only [Int.toNat_natCast] at h
  refine mM (a := a') (c := c') e e2 hne hs (.int _ _) (.int _ _) (by omega) (by rw [List.size_toArray]; omega) (by rw [List.size_toArray, List.size_toArray]; omega) (h _ ?_)
  refine I.lset (its' := its.take a' ++ its2 ++ its.drop c') (t' := s.toks) hH e ?_ (aF.append (aF.append (r.take _) r2) (r.drop _)) ?_
  · exact tY its its2 a' c'
  · rw [List.length_append, List.length_append, List.length_take, List.length_drop]
    omega
end
end L2
namespace Att
open PySem PySem.W PySem.Calls PyProof.Rows
theorem kW {P : Params} {h : Heap} : ∀ (ns : List Int) (vs : List Value), WellAll P h vs (ns.map WData.int) → IntsAre vs ns := by
  intro ns
  induction ns with
  | nil =>
    intro vs w
    rw [List.map_nil] at w
    cases w
    exact .nil
  | cons n ns ih =>
    intro vs w
    rw [List.map_cons] at w
    cases w with
    | cons a b =>
      cases a
      exact .cons _ _ (ih _ b)
theorem t5 {l : OpenLaw} {n : Nat} (hn : l.most = some n) {P : Params} {h : Heap} {args : List WData} {vals : List Value}
    (hpre : l.row.toRowW.claim.pre args = true) (hwl : WellAll P h vals args) :
    ∃ a vs ns, vals = [Value.ref a] ∧ args = [WData.list (ns.map WData.int)] ∧ h.get? a = some { cls := .type "list", data := .seq vs.toArray } ∧ IntsAre vs ns ∧ ns.length ≤ n := by
  have hsh : WShape.hasAll [] args [.list .int] = true := (pre_splitW hpre).1
  have hc : l.pre.holds [] { args := args } = true := (pre_splitW hpre).2
  obtain ⟨d, r, rfl, h1, h2⟩ := hasAllW_cons hsh
  obtain rfl := hasAllW_nil h2
  obtain ⟨xs, rfl, h3⟩ := hasW_list h1
  obtain ⟨ns, rfl⟩ := items_int h3
  have hlen : ns.length ≤ n := by
    unfold OpenLaw.pre at hc
    have h4 : (WTm.not (.lt (.lit (.int (n : Int))) (.len (.arg 0)))).holds [] { args := [.list (ns.map .int)] } = true := by
      have h4 := (holds_andW hc).1
      rw [hn] at h4
      exact h4
    have h5 := condW_of h4 (w_not (w_lt w_lit (w_len_list (w_arg rfl))))
    rw [List.length_map] at h5
    refine Nat.le_of_not_lt fun q => ?_
    have q' : (n : Int) < ((ns.length : Nat) : Int) := by omega
    first
      | (rw [decide_eq_true q'] at h5; exact absurd h5 (by decide))
      | (simp at h5; omega)
  cases hwl with
  | cons w1 w2 =>
    cases w2
    cases w1 with
    | list ho hall => exact ⟨_, _, ns, rfl, rfl, ho, kW ns _ hall, hlen⟩
theorem ue (l : OpenLaw) (args : List WData) : l.row.toRowW.claim.post args (.bool true) args = true :=
  postW_of (r := l.row.toRowW) (X := (true == true))
    (show WShape.has [] (.bool true) .bool = true by first | rfl | decide | simp [WShape.has, WShape.arms, WShape.armsAll])
    (show (WTm.eq .res (.lit (.bool true))).value [] { args := args, res := some (.bool true), after := args } = some (.bool (true == true)) from w_eq_bool (w_res rfl) w_lit) rfl
theorem attach_call {l : OpenLaw} {n : Nat} {q : Program} {loose : List Str} {XP : (Str → Option Value) → Heap → Prop} {YP : World → Heap → Prop} {d : DefRec}
    (hn : l.most = some n) (hdf : d.params.defaults = [])
    (call : ∀ (w : World) (s₀ s₁ : Shared) (mg mb : Str → Option Value) (fa : Addr) (o : Obj) (pm cd doc : Value) (a : Addr) (vs : List Value) (ns : List Int),
      Ground q loose [] XP w s₀ mg mb s₁.heap → YP w s₁.heap →
      s₁.heap.get? fa = some o → o.data = .func (docDef d.name d.params d.body d.scope pm cd doc) → s₁.heap.CodeRec cd d.name → mg d.name = some (.ref fa) →
      s₁.heap.get? a = some { cls := .type "list", data := .seq vs.toArray } → IntsAre vs ns → ns.length ≤ n → s₁.gens = #[] →
      codeAny (model l.prog w) callerA (.call (.ref fa) ⟨[.ref a], []⟩) (fun r s' => r = .ok (.ret (.bool true)) ∧ OldK s₁.heap s'.heap ∧ s'.os = s₁.os ∧ AllBare s'.gens) s₁) :
    WalkO q loose XP YP l.row.toRowW d [] (fun f vs => PySem.call f vs) := by
  intro w s₀ s₁ mg mb G Y fa o pm cd doc dV kV ho hd hcd hD hmg hg args vals as hpre hlay hrd hwl hlo
  obtain rfl : dV = .none := Dflts.none hD hdf
  obtain rfl : kV = .none := Dflts.noKw hD
  obtain ⟨a, vs, ns, rfl, rfl, hobj, hints, hlen⟩ := t5 hn hpre hwl
  refine enter_call (codeAny_mono (call w s₀ s₁ mg mb fa o pm cd doc a vs ns G Y ho (fd_plain hd) hcd hmg hobj hints hlen hg) fun r s' hq => ?_)
  obtain ⟨rfl, h2, h3, h4⟩ := hq
  exact ⟨.inl ⟨.bool true, .bool true, [], rfl, fun _ => rfl, .bool true, ue l _, fun _ => ⟨List.Pairwise.nil, fun _ hm => (nomatch hm)⟩⟩, h2, h3, h4⟩
section
variable {prog : Program} {w : World} {A : Around} {E : Value → Shared → Prop} {s : Shared} {K : Frag}
def Fe (h : Heap) (L d : Addr) : List (Addr × Obj) := (List.range h.objs.size).filterMap fun a => if a = L ∨ a = d then none else (h.get? a).map fun o => (a, o)
end
end Att
namespace L2
open PySem PySem.Spec PyProof.Rows
theorem nh : ∀ {vs : List Value} {ns : List Int}, IntsAre vs ns → aF (ns.map V.int) vs
  | _, _, .nil => .nil
  | _, _, .cons n t h => .cons ⟨t, rfl⟩ (nh h)
def B1 (H : Hp) : Prop := ∀ b, H b = none ∨ ∃ o xs, H b = some (.frz o (.lst xs))
theorem vY {P : Program} {w : World} {K : PySem.W.Frag} {mg mb : Str → Option Value} {CX : tK} {k : Nat} {fa a : Addr} {fd : FuncData} {x : Str} {sp : Sp} {s₁ : Shared} {vs : List Value} {ns : List Int}
    (KX : K.In s₁.heap) (hns : s₁.heap.Ns mainGlobals mg) (hb : s₁.heap.Ns builtinsNs mb) (hbb : ∀ x : Str, x ≠ "__name__" → mb x = bootBuiltins x) (hlim : s₁.heap.NoLimit) (hg : s₁.gens = #[])
    (ha : s₁.heap.get? a = some { cls := .type "list", data := .seq vs.toArray }) (hi : IntsAre vs ns) (hl : ns.length ≤ sizeLine) (hr : bx k callerA)
    (F : ∀ base : Heap, K.In base → base.Ns mainGlobals mg → i9 P w K mg base CX k fa fd [x] sp) (hbind : ∀ (s : Shared) (u : Value), BindsTo s fd ⟨[u], []⟩ [(x, u)])
    (hsp : ∀ H : Hp, B1 H → ji K H a (ns.map V.int) → sp [.ref a] H (fun v _ => v = .bl true) fun _ _ _ => False)
    (hCX : ∀ H e s', CX [] H s₁ (fun _ _ _ => False) e s' → False) :
    codeAny (model P w) callerA (.call (.ref fa) ⟨[.ref a], []⟩) (fun r s' => r = .ok (.ret (.bool true)) ∧ OldK s₁.heap s'.heap ∧ s'.os = s₁.os ∧ AllBare s'.gens) s₁ := by
  have rv := nh hi
  have lenV := hi.length
  -- from an abstract heap in which nothing but the script may be tracked
  have core : ∀ H : Hp, B1 H → ji K H a (ns.map V.int) → i7 P w H s₁.heap → (∀ b, H b ≠ none → b = a) → (H a ≠ none → K.lookup a = none) →
      codeAny (model P w) callerA (.call (.ref fa) ⟨[.ref a], []⟩) (fun r s' => r = .ok (.ret (.bool true)) ∧ OldK s₁.heap s'.heap ∧ s'.os = s₁.os ∧ AllBare s'.gens) s₁ := by
    intro H hO hS hok hA hK
    have base_of : ∀ {b : Addr} {o : Obj}, s₁.heap.get? b = some o → H b = none → (oN s₁.heap H).get? b = some o := fun e n => v3 e n
    have noA : ∀ {b : Addr} {o : Obj} {es : Array DictEntry} {ep : Nat}, s₁.heap.get? b = some o → o.data = .dict es ep → H b = none := fun {b o es ep} e d => by
      cases q : H b with
      | none => rfl
      | some u =>
        have e' : b = a := hA b (by rw [q]; simp)
        subst e'
        rw [ha] at e; cases e
        have d' : Data.seq vs.toArray _ = Data.dict es ep := d
        cases d'
    have nsK : ∀ {b : Addr} {m : Str → Option Value}, s₁.heap.Ns b m → (oN s₁.heap H).Ns b m := fun {b m} ⟨o, es, ep, e, d, r⟩ => ⟨o, es, ep, base_of e (noA e d), d, r⟩
    have hKb : K.In (oN s₁.heap H) := fun b o e => base_of (KX b o e) (by
      cases q : H b with
      | none => rfl
      | some u =>
        have e' : b = a := hA b (by rw [q]; simp)
        subst e'
        rw [hK (by rw [q]; simp)] at e; cases e)
    have hM : Mod K mg (oN s₁.heap H) := ⟨hKb, nsK hns, ⟨mb, nsK hb, hbb⟩, let ⟨mc, h1, h2⟩ := hlim; ⟨mc, nsK h1, h2⟩⟩
    have e0 : mG P w K mg (oN s₁.heap H) callerA [] s₁ H := ⟨rfl, hM, fun b o e => yo e, Nat.le_of_eq (uB _ _), trivial, fun b hb => absurd (show b ∈ ([] : List Addr) from hb) (by simp), hok, .of_eq hg⟩
    refine codeAny_mono ((F _ hKb (nsK hns)).run callerA [] s₁ H ⟨[.ref a], []⟩ [.ref a] [.ref a] _ _ hr e0 (hbind s₁ (.ref a)) (.cons rfl .nil) (hsp H hO hS)) fun r s' h => ?_
    cases r with
    | error e => exact (hCX H e s' h).elim
    | ok fl =>
      cases fl with
      | next => exact False.elim h
      | brk => exact False.elim h
      | cont => exact False.elim h
      | ret u =>
        obtain ⟨v, H', os, bare, un, hok', r', q⟩ := h
        have q' : v = .bl true := q
        subst q'
        obtain rfl : u = Value.bool true := r'
        refine ⟨rfl, OldK.of_keep fun b o e => ?_, os, bare⟩
        cases q : H b with
        | none => exact un.keep b o e q (by intro z; exact absurd (show b ∈ ([] : List Addr) from z) (by simp)) (by simp)
        | some u =>
          rcases hO b with z | ⟨ob, xs, z⟩
          · rw [q] at z; cases z
          · have z2 := un.frzs b ob _ z
            obtain ⟨e1, _⟩ := hok b _ z
            obtain ⟨e2, _⟩ := hok' b _ z2
            rw [e] at e1; cases e1
            exact e2
  cases hk : K.lookup a with
  | some o =>
    -- the script is one of the module's own objects
    have e := KX a o hk
    rw [ha] at e
    cases e
    refine core (fun _ => none) (fun _ => .inl rfl) (.inr ⟨_, vs.toArray, _, hk, rfl, rfl, rfl, by rw [List.size_toArray, lenV]; exact hl, by simpa using rv⟩) (fun b u z => by have z' : (none : Option HO) = some u := z; cases z') (fun b z => absurd rfl z) fun z => absurd rfl z
  | none =>
    refine core (fun b => if b = a then some (.frz { cls := .type "list", data := .seq vs.toArray } (.lst (ns.map V.int))) else none) (fun b => ?_) (.inl (.inr ⟨{ cls := .type "list", data := .seq vs.toArray }, if_pos rfl⟩)) (fun b u z => ?_) (fun b z => ?_) fun _ => hk
    · by_cases hb : b = a
      · exact .inr ⟨_, _, if_pos hb⟩
      · exact .inl (if_neg hb)
    · by_cases hb : b = a
      · have z' := (if_pos hb).symm.trans z
        cases z'
        subst hb
        exact ⟨ha, by rw [List.length_map]; exact hl, vs, _, rv, ha⟩
      · have z' := (if_neg hb).symm.trans z
        cases z'
    · by_cases hb : b = a
      · exact hb
      · exact absurd (if_neg hb) z
end L2
namespace L2
open PySem PySem.Spec PyProof.Rows
abbrev FV {K : PySem.W.Frag} {h : Heap} (_ : K.In h) : PySem.W.Frag := K
theorem rR {l : PySem.W.OpenLaw} {n k : Nat} {q : Program} {loose : List Str} {XP : (Str → Option Value) → Heap → Prop} {YP : World → Heap → Prop} {d : DefRec} {K : Params → PySem.W.Frag} {CX : World → tK} {sp : World → Sp} {x : Str}
    (hn : l.most = some n) (hn2 : n ≤ sizeLine) (hdf : d.params.defaults = []) (hr : bx k callerA)
    (hY : ∀ (w : World) (h : Heap), YP w h → (K w.params).In h)
    (F : ∀ (w : World) (mg : Str → Option Value) (fa : Addr) (h : Heap), (K w.params).In h → h.Ns mainGlobals mg → mg d.name = some (.ref fa) →
      ∃ fd : FuncData, (∀ (s : Shared) (u : Value), BindsTo s fd ⟨[u], []⟩ [(x, u)]) ∧
        ∀ base : Heap, (K w.params).In base → base.Ns mainGlobals mg → i9 l.prog w (K w.params) mg base (CX w) k fa fd [x] (sp w))
    (hsp : ∀ (w : World) (H : Hp) (a : Addr) (ns : List Int), ns.length ≤ n → B1 H → ji (K w.params) H a (ns.map V.int) → sp w [.ref a] H (fun v _ => v = .bl true) fun _ _ _ => False)
    (hCX : ∀ (w : World) (H : Hp) (s : Shared) (e : Value) (s' : Shared), CX w [] H s (fun _ _ _ => False) e s' → False) :
    PySem.W.WalkO q loose XP YP l.row.toRowW d [] (fun f vs => PySem.call f vs) := by
  refine Att.attach_call hn hdf fun w s₀ s₁ mg mb fa o pm cd doc a vs ns G Y ho hd hcd hmg hobj hints hlen hg => ?_
  have KX := hY w _ Y
  obtain ⟨fd, hb, hF⟩ := F w mg fa _ KX G.T.g hmg
  exact vY KX G.T.g G.T.b G.T.builtins G.T.nolimit hg hobj hints (Nat.le_trans hlen hn2) hr hF hb (fun H hO hS => hsp w H a ns hlen hO hS) fun H e s' => hCX w H s₁ e s'
end L2
/- THE LAST THEOREM (shape; LID, My.* are yours):
   My.Adr: a structure of the addresses that your layer names (classes, functions); My.Txt K t: a structure (Prop) of the equations over K;
   My.txt_mk : {K} {implicit addresses ..} (e1 : nsIn K mainGlobals "law" = some (some (.ref f))) (e2 : K.lookup f = some ⟨oc, od, .func (fnOf "law" "law" params body scope dV kV doc pm an cdv ct), sl⟩) (e3 : codeIn K cdv "law" = true) .. : ∃ t, My.Txt K t
set_option maxRecDepth 100000 in
set_option maxHeartbeats 0 in
theorem PySem.Challenge.cw_LID_holds : PySem.Challenge.rw_LID.Holds := by
  w_on; o_law; k_head; (case hw => w_witness2)
  k_fill
  refine L2.rR (l := PySem.Challenge.rw_LID) (n := 63) (k := 40) (x := "script") (CX := fun w => ..) (sp := fun _ => My.sp_law) rfl (by decide) rfl ⟨rfl, by decide, by decide⟩ (fun w h Y => PySem.W.kIn_of Y) ?F ?S ?C
  case F =>
    intro w mg fa h KX G hmg
    have T : ∃ t, My.Txt (L2.FV KX) t := by
      dsimp only [L2.FV]                          -- K must stand as «<heap const> w.params» for k_is
      refine' My.txt_mk ?e1 ?e2 ?e3 ..
      (case e1 => PySem.W.k_is)                    -- in the order: a name -> its address -> its object -> its parts
      (case e2 => PySem.W.k_is)
      ..
    obtain ⟨t, T⟩ := T
    have e0 := hmg.symm.trans (PySem.W.mg_of KX G T.law)
    cases e0                                       -- fa is the law's own address
    exact ⟨_, fun s u => .of_eq rfl, fun base kb nb => My.law_fn T kb nb⟩     -- if «.of_eq rfl» comes too early: refine' ⟨_, ?b, fun base kb nb => My.law_fn T kb nb⟩; exact fun s u => .of_eq rfl
  case S => exact fun w H a ns hl hO hS => ..
  case C => exact ..
(the tactic k_is has no namespace: write k_is) -/
namespace L2
open PySem PySem.Spec PyProof.Rows
def fZ (s : Stmt) (j : Nat) : Stmt := match s with
  | .ClassDef _ _ _ body _ _ _ _ _ _ _ => body.getD j (.Pass ⟨0, 0, 0, 0⟩)
  | _ => .Pass ⟨0, 0, 0, 0⟩
def cg (s : Stmt) : Arguments := match s with
  | .FunctionDef _ a _ _ _ _ _ _ _ _ => a
  | _ => { posonlyargs := [], args := [], vararg := none, kwonlyargs := [], kw_defaults := [], kwarg := none, defaults := [] }
def bj (s : Stmt) : List Stmt := match s with
  | .FunctionDef _ _ b _ _ _ _ _ _ _ => b
  | _ => []
def ah (s : Stmt) : Scope := match s with
  | .FunctionDef _ _ _ _ _ _ sc _ _ _ => sc
  | _ => { kind := .function, names := [], isGenerator := false, isCoroutine := false }
abbrev tL : tK := fun _ _ _ _ _ _ => False
abbrev E0 : XK := fun _ _ _ => False
theorem sR {X : Cx} : jw tL X E0 := fun _ _ _ _ _ _ _ h => h.elim
structure B2 (K : PySem.W.Frag) (x qual : Str) (st : Stmt) (f : Addr) (fd : FuncData) : Prop where
  ex : ∃ (oc : Value) (od : Option Addr) (kV doc pm : Value) (an : Option Addr) (cdv ct : Value) (osl : Array (Option Value)),
    fd = PySem.W.fnOf x qual (cg st) (bj st) (ah st) .none kV doc pm an cdv ct ∧ K.lookup f = some ⟨oc, od, .func fd, osl⟩ ∧ PySem.W.codeIn K cdv qual = true
  kp : PySem.W.keepIn K (.ref f) = true
section
variable {P : Program} {w : World} {K : PySem.W.Frag} {mg : Str → Option Value} {base : Heap}
theorem B2.ok {x qual : Str} {st : Stmt} {f : Addr} {fd : FuncData} {N ps : List Str} {k : Nat} {sp : Sp} (F : B2 K x qual st f fd) (S : aN N ps (ah st)) (len : ∀ vs H Q E, sp vs H Q E → vs.length = ps.length)
    (hbody : ∀ (cdv : Value) (A : Around) (outer : List Env) (s : Shared) (H : Hp) (vs : List V) (Q : VK) (E : XK), bx k (A.deeper (envOfC qual (ah st) s.heap.objs.size f cdv)) → sp vs H Q E →
      ∃ t, m9 (kn tL P w K mg base N qual (ah st) f cdv A outer s H E).nox (bj st) t ∧ t { nx := fun _ H' => Q .non H', rt := Q } (start N vs) H) : i9 P w K mg base tL (k + 1) f fd ps sp := by
  obtain ⟨oc, od, kV, doc, pm, an, cdv, ct, osl, rfl, lk, hcd⟩ := F.ex
  refine wb lk hcd S len fun A outer s H vs Q E hr hsp => ?_
  obtain ⟨t, h, q⟩ := hbody cdv A outer s H vs Q E hr hsp
  exact ⟨t, h.nox, q⟩
theorem B2.binds {x qual : Str} {st : Stmt} {f : Addr} {fd : FuncData} {ps : List Str} (F : B2 K x qual st f fd)
    (h : ∀ (kV doc pm : Value) (an : Option Addr) (cdv ct : Value) (us : List Value), us.length = ps.length → bindArgs (PySem.W.fnOf x qual (cg st) (bj st) (ah st) .none kV doc pm an cdv ct) ⟨us, []⟩ = pure (ps.zip us)) : ed K fd ps [] := by
  obtain ⟨oc, od, kV, doc, pm, an, cdv, ct, osl, rfl, lk, hcd⟩ := F.ex
  exact .all (h kV doc pm an cdv ct)
theorem BG {x qual : Str} {st : Stmt} {f : Addr} {oc : Value} {od an : Option Addr} {osl : Array (Option Value)} {kV doc pm cdv ct : Value} (l : K.lookup f = some ⟨oc, od, .func (PySem.W.fnOf x qual (cg st) (bj st) (ah st) .none kV doc pm an cdv ct), osl⟩)
    (c : PySem.W.codeIn K cdv qual = true) (k : PySem.W.keepIn K (.ref f) = true) : B2 K x qual st f (PySem.W.fnOf x qual (cg st) (bj st) (ah st) .none kV doc pm an cdv ct) := ⟨⟨oc, od, kV, doc, pm, an, cdv, ct, osl, rfl, l, c⟩, k⟩
end
section
variable {X : Cx}
theorem pv (i : Nat) {x : Str} {pos : Pos} (hN : X.N[i]? = some x := by rfl) (hv : Eg X.env.scope x := by first | exact Or.inl rfl | exact Or.inr (Or.inl rfl) | exact Or.inr (Or.inr rfl)) (hd : (x == ("__debug__" : Str)) = false := by decide)
    (hcd : (x == ("__classdict__" : Str)) = false := by decide) : PE X (.Name x pos) (Cs i) := vD hN hv hd hcd
end
def Eh (H H' : Hp) : Prop := ∀ b o, H b = some o → H' b = some o
theorem Eh.free {H H' : Hp} (e : Eh H H') {l : Addr} (h : H' l = Option.none) : H l = Option.none := by
  cases q : H l with
  | none => rfl
  | some o =>
    rw [e l o q] at h
    cases h
end L2
set_option maxHeartbeats 4000000
namespace L2
open PySem PySem.Spec PyProof.Rows
section
variable {X : Cx} {pins : List (Addr × Obj)} {σ : St} {H : Hp} {s : Shared}
end
section
variable {X : Cx} {pos : Pos}
end
end L2
namespace L2
open PySem PySem.Spec PyProof.Rows
section
variable {X : Cx}
def nH : V → Value
  | .ref a => .ref a
  | .ty n => .type n
  | _ => .none
def B9 : V → Bool
  | .ref _ => true
  | .ty _ => true
  | _ => false
theorem bg.cls {c : V} {u : Value} (r : bg c u) (h : B9 c = true) : u = nH c := by
  cases c with
  | ref a => exact r
  | ty n => exact r
  | _ => cases h
end
structure aV (K : PySem.W.Frag) (mg : Str → Option Value) (x : Str) (st : Stmt) : Prop where
  ex : ∃ f fd, B2 K x x st f fd ∧ mg x = some (.ref f)
structure j2 (P : Program) (w : World) (K : PySem.W.Frag) (mg : Str → Option Value) (base : Heap) (k : Nat) (x : Str) (ps : List Str) (sp : Sp) : Prop where
  ex : ∃ f fd, i9 P w K mg base tL k f fd ps sp ∧ mg x = some (.ref f) ∧ PySem.W.keepIn K (.ref f) = true ∧ ed K fd ps []
section
variable {P : Program} {w : World} {K : PySem.W.Frag} {mg : Str → Option Value} {base : Heap}
theorem b5 {h : Heap} {x : Str} {st : Stmt} {f : Addr} {oc : Value} {od an : Option Addr} {osl : Array (Option Value)} {kV doc pm cdv ct : Value} (X : K.In h) (G : h.Ns mainGlobals mg)
    (a : PySem.W.nsIn K mainGlobals x = some (some (.ref f))) (l : K.lookup f = some ⟨oc, od, .func (PySem.W.fnOf x x (cg st) (bj st) (ah st) .none kV doc pm an cdv ct), osl⟩)
    (c : PySem.W.codeIn K cdv x = true) (k : PySem.W.keepIn K (.ref f) = true) : aV K mg x st := ⟨f, _, BG l c k, PySem.W.mg_of X G a⟩
theorem aV.mk_def {x : Str} {st : Stmt} {N ps : List Str} {k : Nat} {sp : Sp} (F : aV K mg x st) (S : aN N ps (ah st))
    (hb : ∀ (kV doc pm : Value) (an : Option Addr) (cdv ct : Value) (us : List Value), us.length = ps.length → bindArgs (PySem.W.fnOf x x (cg st) (bj st) (ah st) .none kV doc pm an cdv ct) ⟨us, []⟩ = pure (ps.zip us))
    (len : ∀ vs H Q E, sp vs H Q E → vs.length = ps.length)
    (hbody : ∀ (f : Addr) (cdv : Value) (A : Around) (outer : List Env) (s : Shared) (H : Hp) (vs : List V) (Q : VK) (E : XK), bx k (A.deeper (envOfC x (ah st) s.heap.objs.size f cdv)) → sp vs H Q E →
      ∃ t, m9 (kn tL P w K mg base N x (ah st) f cdv A outer s H E).nox (bj st) t ∧ t { nx := fun _ H' => Q .non H', rt := Q } (start N vs) H) : j2 P w K mg base (k + 1) x ps sp := by
  obtain ⟨f, fd, F, m⟩ := F.ex
  exact ⟨f, fd, F.ok S len (hbody f), m, F.kp, F.binds hb⟩
end
theorem AS {X : Cx} {k : Nat} {x : Str} {ps : List Str} {sp : Sp} {p pos : Pos} {e : Expr} {es : List Expr} {t : TA} (D : j2 X.prog X.w X.K X.mg X.base k x ps sp) (hr : bx k X.A) (hg : Gl X x) (ha : PA X (e :: es) t) (hdb : (x == ("__debug__" : Str)) = false := by decide)
    (he : starEach (e :: es) X.env = (false, eval e X.env) :: starEach es X.env := by rfl) (hpl : (backTo pos (starEach es X.env)).any (·.1) = false := by rfl) : PE X (.Call (.Name x p) (e :: es) [] pos) (uV sp [] E0 t) := by
  obtain ⟨f, fd, F, m, kp, b⟩ := D.ex
  exact ye F hr hg m kp b .nil sR ha hdb he hpl
end L2
namespace L2
open PySem PySem.Spec PyProof.Rows
theorem xu {H : Hp} {p q : Addr} {o : HO} (h1 : (H q).isSome = true) (h2 : H p = none) : upd H p o q = H q := aH (by intro z; rw [z, h2] at h1; cases h1)
abbrev oZ (H H' : Hp) : Prop := ∀ b, (H b).isSome = true → H' b = H b
theorem oZ.upd {H : Hp} {p : Addr} (o : HO) (h : H p = none) : oZ H (upd H p o) := fun _ hb => xu hb h
theorem oZ.trans {H H1 H2 : Hp} (a : oZ H H1) (b : oZ H1 H2) : oZ H H2 := fun c hc => by
  have e := a c hc
  rw [b c (by rw [e]; exact hc), e]
section
variable {X : Cx} {a b : Expr} {ta tb : TE} {pos : Pos}
end
structure tJ (K : PySem.W.Frag) (C : Addr) : Prop where
  cl : nN K C
  ha : PySem.W.findIn K (.ref C) "__class__" = some (some (.builtin "object.__class__"))
  hn : PySem.W.specialIn K (.builtin "object.__class__") "__get__" = some (some (.builtin "getset_descriptor.__get__"))
  htk : PySem.W.takesIn K (.builtin "object.__class__") = some true
  hm : PySem.W.mroIn K C (.type "object") = some true
def zf : List V → Hp → VK → Prop := fun xs H Q => match xs with
  | [.int i, .int j] => Q (.int (if j < i then j else i)) H
  | _ => False
theorem rF {X : Cx} (hc : X.calm = true) : iX X (.builtin "min") zf := by
  intro pins s σ H xs us Q I r h
  match xs, h with
  | [.int i, .int j], h => exact uH hc pins s σ H _ us Q I r ⟨i, j, rfl, h⟩
def EI (K : PySem.W.Frag) (H : Hp) (x : V) (ns : List Int) : Prop := ∃ a, x = .ref a ∧ ji K H a (ns.map V.int)
theorem EI.ext {K : PySem.W.Frag} {H H' : Hp} {x : V} {ns : List Int} (h : EI K H x ns) (e : oZ H H') : EI K H' x ns := by
  obtain ⟨a, rfl, h⟩ := h
  refine ⟨a, rfl, ?_⟩
  rcases h with (h | ⟨o, h⟩) | h
  · exact .inl (.inl (by rw [e a (by rw [h]; rfl), h]))
  · exact .inl (.inr ⟨o, by rw [e a (by rw [h]; rfl), h]⟩)
  · exact .inr h
section
variable {X : Cx}
end
def sp_law (K : PySem.W.Frag) : Sp := fun vs H Q _ => match vs with
  | [x] => ∃ ns, EI K H x ns ∧ ns.length ≤ 63 ∧ ∀ H', Q (.bl true) H'
  | _ => False
structure Is {α : Type} (a b : α) : Prop where
  eq : a = b
theorem lN {A : Around} {k : Nat} (h : bx k A) : A.units + 64 < cLine := h.units
end L2
namespace L2
open PySem PySem.Spec PyProof.Rows PySem.W
def qi : List Value := [.type "ValueError", .type "Exception", .type "BaseException", .type "object"]
def kj (K : Frag) (C : Addr) : Bool := match K.lookup C with
  | some ⟨.type "type", _, .cls cd, sl⟩ => (match cd.mro, sl.toList with
    | .ref C' :: bm, [_, _, _, _, some (.builtin n), _] => C' == C && n == "ValueError.__new__" && !cd.hasDel && cd.hasDict && tailIn K qi bm && nsOkIn K cd.ns
    | _, _ => false)
  | _ => false
theorem lr {K : Frag} {h : Heap} {C : Addr} (X : K.In h) (q : kj K C = true) : ∃ bm N nm qn bs sn sub ab col dd k0 k1 k2 k3 k5,
    h.get? C = some (excClassObj nm qn C N bs bm true sn sub ab col dd k0 k1 k2 k3 k5 "ValueError.__new__") ∧ OwnTail h qi bm ∧ clsIn K C = some { name := nm, bases := bs, mro := .ref C :: bm, ns := N, qualname := qn, hasDict := true, slotNames := sn, subclasses := sub, abstract := ab, collection := col, hasDel := false } := by
  unfold kj at q
  split at q
  · rename_i dd cd sl ho
    split at q
    · rename_i C' bm k0 k1 k2 k3 n k5 hm hs
      simp only [Bool.and_eq_true, beq_iff_eq, Bool.not_eq_true'] at q
      obtain ⟨⟨⟨⟨⟨rfl, rfl⟩, hdel⟩, hhd⟩, ht⟩, hok⟩ := q
      obtain ⟨nm, bs, mro, ns, qn, hd, sn, sub, ab, col, del⟩ := cd
      dsimp only at hm hdel hok hhd
      subst hm hdel hhd
      have hsl : sl = #[k0, k1, k2, k3, some (.builtin "ValueError.__new__"), k5] := by
        obtain ⟨l⟩ := sl
        simp only at hs
        rw [hs]
      subst hsl
      exact ⟨bm, ns, nm, qn, bs, sn, sub, ab, col, dd, k0, k1, k2, k3, k5, X _ _ ho, tail_of_in X ht, by unfold clsIn; rw [ho]⟩
    · cases q
  · cases q
abbrev EO (vs : List Value) : Obj := { cls := .type "tuple", data := .seq vs.toArray }
abbrev Fh (C t : Addr) : Obj := { cls := .ref C, data := .fields #[.ref t, .none, .none, .none, .bool false, .none] }
section
variable {prog : Program} {w : World} {A : Around} {R : Result → Shared → Prop} {h : Heap} {g : Array GenState} {d : Drawn} {t : Nat} {os : OsState} {K : Frag} {C : Addr}
end
structure Ex (K : Frag) (C : Addr) : Prop where
  cl : kj K C = true
  sa : findIn K (.ref C) "__setattr__" = some (some (.builtin "object.__setattr__"))
  ga : findIn K (.ref C) "__getattribute__" = some (some (.builtin "BaseException.__getattribute__"))
  gt : findIn K (.ref C) "__getattr__" = some none
section
variable {prog : Program} {w : World} {A : Around} {R : Result → Shared → Prop} {K : Frag} {C x : Addr} {s : Shared}
theorem yF {h : Heap} {M : Model} (X : K.In h) (q : kj K C = true) {b : Value} {T : String} (e : b = .type T) (hb : qi.contains (.type T) = true) : Looks M h (isSubtype (.ref C) b) true := by
  obtain ⟨bm, N, nm, qn, bs, sn, sub, ab, col, dd, k0, k1, k2, k3, k5, hC, T', hcl⟩ := lr X q
  subst e
  refine looks_mroIn X ?_
  unfold mroIn
  rw [hcl, Option.bind_some]
  show (if (Value.ref C :: bm).isEmpty = true then none else some ((Value.ref C :: bm).contains (.type T))) = some true
  rw [if_neg (by simp), List.contains_cons, T'.hasType hb, Bool.or_true]
end
section
variable {X : Cx} {pins : List (Addr × Obj)} {σ : St} {H : Hp} {s : Shared} {a C : Addr} {dx : Option Addr} {fs : List (Str × V)} {f : Str} {v : V} {A : Around} {E : Value → Shared → Prop}
theorem yH (I : av X pins σ H s) (e : H a = some (.exc C dx fs)) : ∃ o vs, s.heap.get? a = some o ∧ o.cls = .ref C ∧ o.dict = dx ∧ o.data = .fields vs ∧ fs.length ≤ 1000 ∧ (∀ d, dx = some d → H d = some (.own a) ∧ d ≠ a) ∧
    ∃ mA, FR s.heap dx mA ∧ (∀ f, j1 (fs.lookup f) (mA f)) ∧ PySem.Within mA (fs.map (·.1)) :=
  (show cv X.prog X.w H s.heap a (.exc C dx fs) from I.hok a _ e)
theorem qh (I : av X pins σ H s) (e : H a = some (.exc C dx fs)) : ∃ ox od, InstAt s.heap a ox C od ∧ ox.dict = dx ∧ (∃ vs, ox.data = .fields vs) ∧ (∀ name, j1 (fs.lookup name) ((match od with | some o => lookIn name o | none => some none).getD none)) ∧ (∀ name, (match od with | some o => lookIn name o | none => some none).isSome = true) ∧ s.heap.get? a = some ox := by
  obtain ⟨o, vs, ho, hc, hd, hv, hl, hw, mA, hm, r, wi⟩ := yH I e
  cases dx with
  | none =>
    refine ⟨o, none, ⟨ho, hc, by unfold notCls; rw [hv], by rw [hd]; exact True.intro⟩, hd, ⟨vs, hv⟩, fun name => ?_, fun _ => rfl, ho⟩
    have := r name
    rw [hm name] at this
    exact this
  | some d =>
    obtain ⟨od, hod, hlk⟩ := nC hm
    refine ⟨o, some od, ⟨ho, hc, by unfold notCls; rw [hv], by rw [hd]; exact hod⟩, hd, ⟨vs, hv⟩, fun name => ?_, fun name => ?_, ho⟩
    · show j1 (fs.lookup name) ((lookIn name od).getD none)
      rw [hlk name]; exact r name
    · show (lookIn name od).isSome = true
      rw [hlk name]; rfl
end
structure nM (K : Frag) (C : Addr) : Prop extends Ex K C where
  ha : findIn K (.ref C) "__class__" = some (some (.builtin "object.__class__"))
  hn : specialIn K (.builtin "object.__class__") "__get__" = some (some (.builtin "getset_descriptor.__get__"))
  htk : takesIn K (.builtin "object.__class__") = some true
theorem uD {K : Frag} {C a : Addr} {ox : Obj} {od : Option Obj} {prog : Program} {w : World} {A : Around} {E : Value → Shared → Prop} {Q : Option Value → Shared → Prop} {s : Shared} (c : nM K C) (KX : K.In s.heap) (J : InstAt s.heap a ox C od) (h : Q (some (.ref C)) { s with toks := s.toks + 1 }) :
    wpAny (model prog w) A (getAttr? (.ref a) "__class__") Q E s := by
  have Lt : Looks (model prog w) s.heap (typeOf (.ref a)) (.ref C) := J.type
  have Lf := looks_findIn (M := model prog w) KX c.ha
  have Lga := looks_findIn (M := model prog w) KX c.ga
  have Lgt := looks_findIn (M := model prog w) KX c.gt
  have Lg := looks_specialIn (M := model prog w) KX c.hn
  have Ltk := looks_takesIn (M := model prog w) KX c.htk
  have hm : mroIn K C (.type "object") = some true := by
    obtain ⟨bm, N, nm, qn, bs, sn, sub, ab, col, dd, k0, k1, k2, k3, k5, hC, T', hcl⟩ := lr KX c.cl
    unfold mroIn
    rw [hcl, Option.bind_some]
    show (if (Value.ref C :: bm).isEmpty = true then none else some ((Value.ref C :: bm).contains (.type "object"))) = some true
    rw [if_neg (by simp), List.contains_cons, T'.hasType (show qi.contains (.type "object") = true by decide), Bool.or_true]
  obtain ⟨hp, g, d, tk, os⟩ := s
  dsimp only at *
  have FB := PySem.F.attrBase_ValueError
  have f3 := FB.ga.bind (.ref a)
  have hx2 : (Value.builtin "BaseException.__getattribute__" == Value.builtin "object.__getattribute__") = false := by decide +kernel
  have hx1 : (onTheHeap (Value.ref C) && Value.builtin "BaseException.__getattribute__" == Value.builtin "object.__getattribute__") = false := by rw [hx2]; rfl
  unfold getAttr? getAttrBy?
  repeat (any_goals (first | assumption | with_reducible refine Lt.at ?_ | with_reducible refine Lga.at ?_ | with_reducible refine Lgt.at ?_ | wp_step))
  have sub : Looks (model prog w) hp (isInstance (.ref a) (.type "BaseException")) true := Lt.andThen (yF KX c.cl rfl (by decide))
  refine codeAny_call_builtin FB.ga.plain PySem.F.entry_bexc_ga (@check_slot (model prog w) _ _ ⟨hp, g, d, tk + 1, os⟩ "BaseException.__getattribute__" "BaseException" "__getattribute__" (.ref a) [.str "__class__" tk] [] _ (by decide +kernel) (by decide +kernel) sub (PySem.F.args_bexc_ga _ _) ?_)
  show wpAny _ _ (Builtin.«object.__getattribute__» ⟨[.ref a, .str "__class__" tk], []⟩) _ _ _
  unfold Builtin.«object.__getattribute__» Builtin.ObjectAttr.find
  repeat (any_goals (first | assumption | with_reducible refine Lt.at ?_ | with_reducible refine Lf.at ?_ | with_reducible refine Lg.at ?_ | with_reducible refine Ltk.at ?_ | wp_step))
  refine class_get (s := ⟨hp, g, d, tk + 1, os⟩) KX J hm ?_
  repeat (any_goals (first | assumption | wp_step))
section
variable {X : Cx} {pins : List (Addr × Obj)} {σ : St} {H : Hp} {s : Shared} {a C : Addr} {dx : Option Addr} {fs : List (Str × V)} {f : Str} {v : V} {A : Around} {E : Value → Shared → Prop}
theorem i7.laidN {P : Program} {w : World} {H : Hp} {h h' : Heap} {a : Addr} {o : HO} (x : i7 P w H h) (k : ∀ b u, h.get? b = some u → h'.get? b = some u) (hn : H a = none) (new : cv P w (upd H a o) h' a o) : i7 P w (upd H a o) h' := fun b u e => by
  by_cases hb : b = a
  · subst hb; rw [aX] at e; cases e; exact new
  · rw [aH hb] at e
    exact (x b u e).stay (fun c v _ q => k c v q) (fun c q => by rw [aH (bE q hn)]; exact q) fun c xs q => by rw [aH (bE q hn)]; exact q
theorem Un.laidN {fs ex : List Addr} {H : Hp} {h h' : Heap} {a : Addr} {o : HO} (k : ∀ b u, h.get? b = some u → h'.get? b = some u) (ha : h.get? a = none) (hn : H a = none) : Un fs ex H (upd H a o) h h' where
  keep := fun b u q _ _ _ => k b u q
  slot := fun b u q _ _ _ => ⟨u.slots, k b u q⟩
  free := fun b u q n _ => by rw [aH (fun z => by rw [z, ha] at q; cases q)]; exact n
  there := fun b u q _ => ⟨u, k b u q⟩
  tups := fun b xs q => by rw [aH (bE q hn)]; exact q
  frzs := fun b u xs q => by rw [aH (bE q hn)]; exact q
  tbls := fun b ps q => ⟨#[], by rw [aH (bE q hn), q]; simp⟩
theorem i7.gone {P : Program} {w : World} {H : Hp} {h : Heap} {a : Addr} (x : i7 P w H h) (ha : h.get? a = none) : H a = none := by
  cases e : H a with
  | none => rfl
  | some o =>
    have k := x a o e
    have : ∃ ob, h.get? a = some ob := by
      cases o with
      | lst xs => obtain ⟨_, _, _, _, z⟩ := k; exact ⟨_, z⟩
      | tup xs => obtain ⟨_, _, _, ob, z, _⟩ := k; exact ⟨_, z⟩
      | dK kvs => obtain ⟨_, _, _, _, ob, _, _, z, _⟩ := k; exact ⟨_, z⟩
      | dT kvs => obtain ⟨_, _, _, _, ob, _, _, z, _⟩ := k; exact ⟨_, z⟩
      | set S n => obtain ⟨ob, _, _, _, z, _⟩ := k; exact ⟨_, z⟩
      | ins C dx fs => obtain ⟨_, _, _, z, _⟩ := k; exact ⟨_, z⟩
      | own y => exact k
      | xd fs => obtain ⟨_, ⟨ob, _, _, z, _⟩, _⟩ := k; exact ⟨_, z⟩
      | rng lo hi => obtain ⟨_, _, _, z⟩ := k; exact ⟨_, z⟩
      | frz ob u => exact ⟨_, k.1⟩
      | tbl ps => exact ⟨_, k⟩
      | met f y => exact ⟨_, k⟩
      | exc C dx fs => obtain ⟨ob, _, z, _⟩ := k; exact ⟨_, z⟩
      | ext φ => exact k.2.1
    obtain ⟨ob, z⟩ := this
    rw [z] at ha
    cases ha
theorem av.excMade {h' : Heap} {e : Addr} {us : List Value} (I : av X pins σ H s) (m : Heap.MadeExcOf s.heap h' e (.ref C) us) : H e = none ∧ av X pins σ (upd H e (.exc C none [])) { s with heap := h' } := by
  have hn := I.hok.gone m.new
  refine ⟨hn, I.un (t' := s.toks) (Un.laidN m.keeps m.new hn) (I.hok.laidN m.keeps hn ?_)⟩
  obtain ⟨t, he, _, _⟩ := m.there
  exact ⟨_, _, he, rfl, rfl, rfl, Nat.zero_le _, ⟨(fun d q => by cases q), fun _ => none, fun _ => rfl, fun _ => True.intro, fun y hy => absurd rfl hy⟩⟩
theorem qj {K : Frag} {h₀ : Heap} {C : Addr} {bmB : List Value} {newId : String} (X : K.In h₀) (q : excIn K C bmB newId = true) : ∃ bm N nm q bs hdct sn sub ab col dd k0 k1 k2 k3 k5 mN, h₀.get? C = some (excClassObj nm q C N bs bm hdct sn sub ab col dd k0 k1 k2 k3 k5 newId) ∧ h₀.Ns N mN ∧ mN "__init__" = none ∧ OwnTail h₀ bmB bm := by
  unfold excIn at q
  split at q
  · rename_i dd cd sl ho
    split at q
    · rename_i C' bm k0 k1 k2 k3 n k5 hm hs
      simp only [Bool.and_eq_true, beq_iff_eq, Bool.not_eq_true'] at q
      obtain ⟨⟨⟨⟨⟨rfl, rfl⟩, hdel⟩, ht⟩, hok⟩, hni⟩ := q
      obtain ⟨nm, bs, mro, ns, qn, hd, sn, sub, ab, col, del⟩ := cd
      dsimp only at hm hdel hok hni
      subst hm hdel
      have hsl : sl = #[k0, k1, k2, k3, some (.builtin n), k5] := by
        obtain ⟨l⟩ := sl
        simp only at hs
        rw [hs]
      subst hsl
      exact ⟨bm, ns, nm, qn, bs, hd, sn, sub, ab, col, dd, k0, k1, k2, k3, k5, _, X _ _ ho, .of_isNs (isNs_of_in X hok), nsMap_none_of_in X hok hni, tail_of_in X ht⟩
    · cases q
  · cases q
structure y0 (K : Frag) (mg : Str → Option Value) (x : Str) (C : Addr) : Prop where
  at_ : mg x = some (.ref C)
  ex : excIn K C qi "ValueError.__new__" = true
  kp : keepIn K (.ref C) = true
structure Gr (K : Frag) (mg : Str → Option Value) (x : Str) (C f : Addr) : Prop where
  at_ : mg x = some (.ref C)
  ex : kj K C = true
  kp : keepIn K (.ref C) = true
  init : findIn K (.ref C) "__init__" = some (some (.ref f))
  fn : isFn K (.ref f) = true
end
end L2
namespace L2
open PySem PySem.Spec PyProof.Rows
abbrev qy (X : Cx) (cs : List Str) : List (Str × Addr) := cs.map fun y => (y, (X.env.cells.lookup y).getD 0)
structure y6 (X : Cx) (scope : Scope) (cs : List Str) : Prop where
  clos : closureFor scope X.env = pure (qy X cs)
  some_ : ∀ y ∈ cs, (X.env.cells.lookup y).isSome = true
  kc : ∀ y ∈ cs, X.env.scope.names.lookup y = some .cell ∧ (relabel scope X.env).names.lookup y = some .cell
  kind : scope.kind = .function
  nocell : ∀ y ∈ scope.names, y.2 ≠ .cell
  names : ∀ y ∈ scope.names, y.2 = .local → scope.names.lookup y.1 = some .local
  has : ∀ y ∈ (relabel scope X.env).names, y.2 = .cell ∨ y.2 = .free → y.1 ∈ cs
theorem wK {X : Cx} {scope : Scope} (cs : List Str) (h1 : closureFor scope X.env = pure (qy X cs)) (h2 : cs.all (fun y => (X.env.cells.lookup y).isSome) = true)
    (h3 : cs.all (fun y => X.env.scope.names.lookup y == some .cell && (relabel scope X.env).names.lookup y == some .cell) = true) (h4 : scope.kind = .function) (h5 : ∀ y ∈ scope.names, y.2 ≠ .cell)
    (h6 : ∀ y ∈ scope.names, y.2 = .local → scope.names.lookup y.1 = some .local) (h7 : (relabel scope X.env).names.all (fun y => (y.2 != .cell && y.2 != .free) || cs.contains y.1) = true) : y6 X scope cs where
  clos := h1
  some_ := fun y hy => List.all_eq_true.mp h2 y hy
  kc := fun y hy => by
    have := List.all_eq_true.mp h3 y hy
    simp only [Bool.and_eq_true, beq_iff_eq] at this
    exact this
  kind := h4
  nocell := h5
  names := h6
  has := fun y hy hk => by
    have := List.all_eq_true.mp h7 y hy
    simp only [Bool.or_eq_true, Bool.and_eq_true, bne_iff_ne, List.contains_iff_mem] at this
    rcases this with ⟨n1, n2⟩ | h
    · rcases hk with k | k
      · exact absurd k n1
      · exact absurd k n2
    · exact h
theorem hX {β : Type} : ∀ {l : List (Str × β)} {y : Str} {k : β}, l.lookup y = some k → (y, k) ∈ l
  | [], _, _, h => by cases h
  | (z, b) :: r, y, k, h => by
    rw [List.lookup_cons] at h
    split at h
    · rename_i e
      cases h
      rw [beq_iff_eq.mp e]
      exact List.mem_cons_self
    · exact List.mem_cons_of_mem _ (hX h)
theorem mD {X : Cx} : ∀ {cs : List Str} {y : Str}, y ∈ cs → (qy X cs).lookup y = some ((X.env.cells.lookup y).getD 0)
  | z :: r, y, h => by
    show List.lookup y ((z, (X.env.cells.lookup z).getD 0) :: qy X r) = _
    rw [List.lookup_cons]
    split
    · rename_i e
      rw [beq_iff_eq.mp e]
    · rename_i e
      rcases List.mem_cons.mp h with q | q
      · subst q
        simp at e
      · exact mD q
section
variable {X : Cx} {scope : Scope} {cs : List Str} {pins : List (Addr × Obj)} {σ : St} {H : Hp} {s : Shared} {fp : List Addr}
theorem y6.sub (c : y6 X scope cs) {y : Str} {a : Addr} (h : (qy X cs).lookup y = some a) : X.env.cells.lookup y = some a ∧ y ∈ cs := by
  have m := hX h
  obtain ⟨z, hz, e⟩ := List.mem_map.mp m
  injection e with e1 e2
  subst e1
  refine ⟨?_, hz⟩
  have := c.some_ z hz
  cases q : X.env.cells.lookup z with
  | none => rw [q] at this; cases this
  | some b => rw [q] at e2; rw [← e2]; rfl
def bu (X : Cx) (scope : Scope) (cs N' : List Str) (s₀ : Shared) (H₀ : Hp) (ex : List Addr) : Cx where
  prog := X.prog
  w := X.w
  K := X.K
  mg := X.mg
  base := X.base
  A := X.A
  N := N'
  s₀ := s₀
  H₀ := H₀
  env := compEnvC scope (qy X cs) s₀.heap.objs.size X.env
  outer := X.stack
  stack := X.stack
  ex := ex
  fn := fun _ => false
  calm := X.calm
  pn := []
  xe := fun _ _ => False
theorem tE (c : y6 X scope cs) (I : av X pins σ H s) (hf : ∀ b ∈ fp, iN X pins H b) (ho : ∀ b ∈ fp, ∃ o, s.heap.get? b = some o) (N' : List Str) : (bu X scope cs N' s H fp).Ok where
  mod := I.ok.mod
  kind := c.kind
  glob := I.ok.glob
  blt := I.ok.blt
  above := Nat.le_refl _
  inj := fun x y a h1 h2 => I.ok.inj x y a (c.sub h1).1 (c.sub h2).1
  has := fun x h => by
    have m : x ∈ cs := by
      rcases h with h | h
      · exact c.has _ (hX h) (.inl rfl)
      · exact c.has _ (hX h) (.inr rfl)
    exact ⟨_, mD m⟩
  cab := fun _ _ h => nomatch h
  hd := I.ok.hd
  frames := I.ok.frames
  stk := .inl rfl
  exf := fun b hb => by
    obtain ⟨o, e⟩ := ho b hb
    exact ⟨Nat.ne_of_lt (Heap.lt_size e), fun x a h => (hf b hb).2.2.2.2.1 x a (c.sub h).1⟩
  bs := fun b o e => I.bs b o e
  bsz := Nat.le_trans I.ok.bsz I.sz
  noex := fun b o e hb => by
    rcases (hf b hb).2.2.2.1 with z | z
    · exact I.ok.noex b o e z
    · exact absurd (Nat.lt_of_lt_of_le (Nat.lt_of_lt_of_le (Heap.lt_size e) I.ok.bsz) z) (Nat.lt_irrefl _)
  exfs := fun b hb hs => by
    rcases List.mem_cons.mp (I.stkSub b hs) with z | z
    · exact (hf b hb).2.1 z
    · exact (hf b hb).2.2.1 z
  funs := I.stack
  frf := I.stkFree
theorem wH {N' : List Str} {σ' : St} {H' : Hp} {s' : Shared} {h' : Heap} {pl : List (Addr × Obj)} (c : y6 X scope cs) (I : av X pins σ H s) (hf : ∀ b ∈ fp, iN X pins H b) (J : av (bu X scope cs N' s H fp) pl σ' H' s') (hs : Heap.SameBut s.heap.objs.size s'.heap h') :
    av X pins σ H' { s' with heap := h' } := by
  have hL : H' s.heap.objs.size = none := J.free
  have u := J.base
  have ne : ∀ b o, s.heap.get? b = some o → b ≠ s.heap.objs.size := fun b o e => Nat.ne_of_lt (Heap.lt_size e)
  have neT : ∀ b o, H' b = some o → b ≠ s.heap.objs.size := fun b o e z => by rw [z, hL] at e; cases e
  refine av.call' (s' := { s' with heap := h' }) (ch := fp) I J.os ?_ ?_ J.bare fun b hb => ⟨(hf b hb).2.2.2.1, (hf b hb).2.1, (hf b hb).2.2.2.2.1, (hf b hb).2.2.2.2.2⟩
  · exact ⟨fun b o q n hb hx => (hs.2 b (ne b o q)).trans (u.keep b o q n hb hx), fun b o q n hb hx => by
      obtain ⟨sl, e⟩ := u.slot b o q n hb hx
      exact ⟨sl, (hs.2 b (ne b o q)).trans e⟩, u.free, fun b o q hx => by
      obtain ⟨o', e⟩ := u.there b o q hx
      exact ⟨o', (hs.2 b (ne b o q)).trans e⟩, u.tups, u.frzs, u.tbls⟩
  · intro a o e
    exact (J.hok a o e).stay (fun b v hb q => (hs.2 b (by
      rcases hb with rfl | hb
      · exact neT _ _ e
      · exact neT _ _ hb)).trans q) (fun _ q => q) fun _ _ q => q
end
section
variable {X : Cx} {pins : List (Addr × Obj)} {σ : St} {H : Hp} {s : Shared}
end
end L2
namespace L2
open PySem PySem.Spec PyProof.Rows PySem.W
def Kn (H : Hp) (L : List (Addr × HO)) : Prop := ∀ p ∈ L, H p.1 = some p.2
theorem Kn.at_ {H : Hp} {L : List (Addr × HO)} (h : Kn H L) (i : Nat) {a : Addr} {o : HO} (e : L[i]? = some (a, o)) : H a = some o := h (a, o) (List.mem_of_getElem? e)
theorem Kn.ext {H H' : Hp} {L : List (Addr × HO)} (h : Kn H L) (e : oZ H H') : Kn H' L := fun p hp => by
  rw [e p.1 (by rw [h p hp]; rfl)]
  exact h p hp
theorem Kn.new {H : Hp} {L : List (Addr × HO)} {a : Addr} {o : HO} (h : Kn H L) (e : H a = none) : Kn (upd H a o) ((a, o) :: L) := fun p hp => by
  rcases List.mem_cons.mp hp with rfl | hp
  · exact aX
  · rw [aH (bE (h p hp) e)]
    exact h p hp
theorem Kn.nil (H : Hp) : Kn H [] := fun _ h => by cases h
section
variable {H H1 : Hp} {L : List (Addr × HO)} {σ : St} {i : Nat} {v : V} {C : Addr} {Q : VK}
end
structure Ft (K : Frag) (C : Addr) (m qual : Str) (st : Stmt) : Prop where
  ex : ∃ f fd, B2 K m qual st f fd ∧ findIn K (.ref C) m = some (some (.ref f)) ∧ isFn K (.ref f) = true
structure dQ (P : Program) (w : World) (K : Frag) (mg : Str → Option Value) (base : Heap) (k : Nat) (C : Addr) (m : Str) (ps : List Str) (sp : Sp) : Prop where
  ex : ∃ f fd, i9 P w K mg base tL k f fd ps sp ∧ findIn K (.ref C) m = some (some (.ref f)) ∧ isFn K (.ref f) = true ∧ keepIn K (.ref f) = true ∧ ed K fd ps []
structure Gq (K : Frag) (mg : Str → Option Value) (x : Str) (C : Addr) : Prop where
  at_ : mg x = some (.ref C)
  ex : kj K C = true
  kp : keepIn K (.ref C) = true
end L2
namespace HL
open PySem (Str)
inductive W where
  | non | bl (b : Bool) | int (i : Int) | str (s : Str) | ref (i : Nat) | ty (n : String) | gl (x : Str)
  deriving DecidableEq, Repr, Inhabited
inductive SO where
  | lst (xs : List W) | rol (xs : List W) | tup (xs : List W) | ins (c : Str) (fs : List (Str × W)) | exc (c : Str) (fs : List (Str × W)) | dct
  deriving DecidableEq, Repr, Inhabited
abbrev Sh := List SO
inductive R (α : Type) where
  | ok (a : α) (h : Sh) | ex (e : Nat) (h : Sh) | er
  deriving Repr
def R.bind {α β : Type} (r : R α) (f : α → Sh → R β) : R β := match r with
  | .ok a h => f a h
  | .ex e h => .ex e h
  | .er => .er
inductive OR where
  | er | val (v : W) | new (o : SO)
def OR.fin (o : OR) (h : Sh) : R W := match o with
  | .er => .er
  | .val v => .ok v h
  | .new o => .ok (.ref h.length) (h ++ [o])
abbrev Sg := List (Option W)
inductive C where
  | nx (s : Sg) (h : Sh) | rt (v : W) (h : Sh) | bk (s : Sg) (h : Sh) | ct (s : Sg) (h : Sh) | ex (e : Nat) (h : Sh) | er
  deriving Repr
abbrev DE := Sg → Sh → R W
abbrev DT := Sg → Sh → R Bool
abbrev DA := Sg → Sh → R (List W)
abbrev DS := Sg → Sh → C
abbrev Fn := List W → Sh → R W
def gT : Nat := 100000
def lstW (h : Sh) (x : W) : Option (List W) := match x with
  | .ref i => (match h[i]? with
    | some (.lst xs) => some xs
    | some (.rol xs) => some xs
    | _ => none)
  | _ => none
def eL (h : Sh) (x : W) : Option (List W) := match x with
  | .ref i => (match h[i]? with
    | some (.tup xs) => some xs
    | _ => none)
  | _ => none
def fg (h : Sh) (x : W) : Option (List W) := (lstW h x).or (eL h x)
inductive D where
  | non | bl (b : Bool) | int (i : Int) | str (s : Str) | lst (xs : List D) | tup (xs : List D)
mutual
def D.eq : D → D → Bool
  | .non, y => (match y with | .non => true | _ => false)
  | .bl a, y => (match y with | .bl b => a == b | .int j => (if a then 1 else 0) == j | _ => false)
  | .int i, y => (match y with | .bl b => i == (if b then 1 else 0) | .int j => i == j | _ => false)
  | .str a, y => (match y with | .str b => a == b | _ => false)
  | .lst xs, y => (match y with | .lst ys => D.eqs xs ys | _ => false)
  | .tup xs, y => (match y with | .tup ys => D.eqs xs ys | _ => false)
def D.eqs : List D → List D → Bool
  | [], ys => ys.isEmpty
  | x :: xs, ys => (match ys with | [] => false | y :: ys => D.eq x y && D.eqs xs ys)
end
def km (f : W → Option D) : List W → Option (List D)
  | [] => some []
  | x :: r => (f x).bind fun d => (km f r).map (d :: ·)
def EC (s : Str) : Bool := decide (s.length ≤ gT) && s.cps.toList.all fun c => decide (c < 1114112)
def jS : Nat → Sh → W → Option D
  | _, _, .non => some .non
  | _, _, .bl b => some (.bl b)
  | _, _, .int i => some (.int i)
  | _, _, .str x => if EC x then some (.str x) else none
  | n + 1, h, .ref i => (match h[i]? with
    | some (.lst xs) => (km (jS n h) xs).map .lst
    | some (.rol xs) => (km (jS n h) xs).map .lst
    | some (.tup xs) => (km (jS n h) xs).map .tup
    | _ => none)
  | _, _, _ => none
def j3 : Nat := 8
abbrev O1 := W → Sh → OR
abbrev O2 := W → W → Sh → OR
def eQ (i j : Int) : Bool := decide (i.natAbs < 2 ^ 64) || decide (j.natAbs < 2 ^ 64)
def bt : O2 := fun x y h => match x, y with
  | .int i, .int j => .val (.int (i + j))
  | .str s, .str t => if s.length + t.length ≤ gT then .val (.str (s ++ t)) else .er
  | .ref i, .ref j => (match h[i]?, h[j]? with
    | some (.lst xs), some (.lst ys) => if xs.length + ys.length ≤ gT then .new (.lst (xs ++ ys)) else .er
    | some (.tup xs), some (.tup ys) => if xs.length + ys.length ≤ gT ∧ xs ≠ [] then (if ys = [] then .val x else .new (.tup (xs ++ ys))) else .er
    | _, _ => .er)
  | _, _ => .er
def kR (c : Int → Int → Bool) (f : Int → Int → Int) : O2 := fun x y _ => match x, y with
  | .int i, .int j => if c i j then .val (.int (f i j)) else .er
  | _, _ => .er
def oI : O2 := kR (fun _ _ => true) fun i j => i - j
def bK : O2 := fun x y h => match x, y with
  | .int i, .int j => if eQ i j then .val (.int (i * j)) else .er
  | .ref i, .int k => (match h[i]? with
    | some (.lst xs) => if k < 2 ^ 20 ∧ -(2 ^ 20) < k ∧ xs.length * k.toNat ≤ gT then .new (.lst (List.replicate k.toNat xs).flatten) else .er
    | _ => .er)
  | _, _ => .er
def fP : O2 := kR (fun _ j => decide (0 < j) && decide (j < 1073741824)) fun i j => i / j
def fj : O2 := kR (fun _ j => decide (0 < j)) fun i j => i % j
def yp : O2 := kR (fun i j => decide (0 ≤ j) && decide (j ≤ 1000000) && decide (i.natAbs < 2 ^ 64)) fun i j => i ^ j.toNat
def kS (p : Int → Int → Bool) : O2 := fun x y _ => match x, y with
  | .int i, .int j => .val (.bl (p i j))
  | _, _ => .er
def FI : O2 := kS fun i j => decide (i < j)
def B6 : O2 := kS fun i j => decide (i ≤ j)
def Dw : O2 := kS fun i j => decide (j < i)
def Ca (x y : W) (h : Sh) : Option Bool := match x, y with
  | .str a, .str b => some (decide (a = b))
  | .int a, .int b => some (decide (a = b))
  | x, y => (match jS j3 h x, jS j3 h y with
    | some a, some b => some (D.eq a b)
    | _, _ => none)
def vP : O2 := fun x y h => match Ca x y h with
  | some b => .val (.bl b)
  | none => .er
def xl : O2 := fun x y h => match Ca x y h with
  | some b => .val (.bl (!b))
  | none => .er
def vO : O2 := fun x y _ => match y with
  | .non => .val (.bl (decide (x = .non)))
  | _ => .er
def hJ : O2 := fun x y _ => match y with
  | .non => .val (.bl (!decide (x = .non)))
  | _ => .er
def kU (n : Nat) (i : Int) : Option Nat := if 0 ≤ i then (if i < n then some i.toNat else none) else if -(n : Int) ≤ i then some (i + n).toNat else none
def BV (xs : List W) (i : Int) : Option W := (kU xs.length i).bind fun j => xs[j]?
def o4 : O2 := fun x y h => match fg h x, y with
  | some xs, .int i => (match BV xs i with
    | some v => .val v
    | none => .er)
  | _, _ => .er
def uk : O1 := fun x _ => match x with
  | .int i => .val (.int (-i))
  | _ => .er
def jy (x : W) (h : Sh) : Option Bool := match x with
  | .non => some false
  | .bl b => some b
  | .int i => some (i != 0)
  | .str s => if s.length ≤ gT then some ((s.length : Int) != 0) else none
  | .ref i => (match h[i]? with
    | some (.lst xs) => some (!xs.isEmpty)
    | some (.rol xs) => some (!xs.isEmpty)
    | some (.tup xs) => some (!xs.isEmpty)
    | _ => none)
  | _ => none
def ae (i : Nat) : DE := fun s h => match s[i]? with
  | some (some v) => .ok v h
  | _ => .er
def dC (v : W) : DE := fun _ h => .ok v h
def aE (f : O2) (a b : DE) : DE := fun s h => (a s h).bind fun x h => (b s h).bind fun y h => (f x y h).fin h
def D9 (f : O1) (a : DE) : DE := fun s h => (a s h).bind fun x h => (f x h).fin h
def aj : DA := fun _ h => .ok [] h
def aa (a : DE) (r : DA) : DA := fun s h => (a s h).bind fun x h => (r s h).bind fun xs h => .ok (x :: xs) h
def dB (f : List W → Sh → OR) (as : DA) : DE := fun s h => (as s h).bind fun xs h => (f xs h).fin h
def ju : List W → Sh → OR := fun xs _ => if xs.length ≤ gT then .new (.lst xs) else .er
def qA : List W → Sh → OR := fun xs _ => if xs.length ≤ gT then .new (.tup xs) else .er
def dT (a : DE) : DT := fun s h => (a s h).bind fun x h => match jy x h with
  | some b => .ok b h
  | none => .er
def dZ (a : DT) : DT := fun s h => (a s h).bind fun b h => .ok (!b) h
def uM (a b : DT) : DT := fun s h => (a s h).bind fun c h => if c = true then .ok true h else b s h
def iK (a b : DE) : DE := fun s h => (a s h).bind fun x h => match x with
  | .bl c => if c = true then b s h else .ok (.bl false) h
  | _ => .er
def oS (a : DE) : DE := fun s h => (a s h).bind fun x h => match x with
  | .bl c => .ok (.bl (!c)) h
  | _ => .er
def h8 (f g : O2) (a b c : DE) : DE := fun s h => (a s h).bind fun x h => (b s h).bind fun y h => ((f x y h).fin h).bind fun z h => match z with
  | .bl k => if k = true then (c s h).bind fun w h => (g y w h).fin h else .ok (.bl false) h
  | _ => .er
def aS (f : Fn) (as : DA) : DE := fun s h => (as s h).bind fun xs h => f xs h
def start (n : Nat) (vs : List W) : Sg := vs.map some ++ List.replicate (n - vs.length) none
def fnOf (p n : Nat) (b : DS) : Fn := fun vs h => if vs.length = p then (match b (start n vs) h with
  | .nx _ h => .ok .non h
  | .rt v h => .ok v h
  | .ex e h => .ex e h
  | _ => .er) else .er
abbrev DO := Sg → Sh → R (Option Int)
def cN (a : DE) : DO := fun s h => (a s h).bind fun x h => match x with
  | .int i => .ok (some i) h
  | _ => .er
def sIx (n d : Nat) : Option Int → Nat
  | none => d
  | some i => if i < 0 then (i + (n : Int)).toNat else min i.toNat n
def qp (xs : List W) (lo hi : Option Int) : List W := (xs.drop (sIx xs.length 0 lo)).take (sIx xs.length xs.length hi - sIx xs.length 0 lo)
def Fd (x : W) (lo hi : Option Int) (h : Sh) : OR := match lstW h x with
  | some xs => .new (.lst (qp xs lo hi))
  | none => (match eL h x with
    | some xs => if sIx xs.length 0 lo = 0 ∧ sIx xs.length xs.length hi = xs.length then .er else .new (.tup (qp xs lo hi))
    | none => .er)
def Cc (a : DE) (lo hi : DO) : DE := fun s h => (a s h).bind fun x h => (lo s h).bind fun l h => (hi s h).bind fun u h => (Fd x l u h).fin h
def ku : DS := fun s h => .nx s h
def aI (a b : DS) : DS := fun s h => match a s h with
  | .nx s h => b s h
  | c => c
def bD (i : Nat) (e : DE) : DS := fun s h => match e s h with
  | .ok v h => .nx (s.set i (some v)) h
  | .ex e h => .ex e h
  | .er => .er
def bS (e : DE) : DS := fun s h => match e s h with
  | .ok v h => .rt v h
  | .ex e h => .ex e h
  | .er => .er
def eN (e : DE) : DS := fun s h => match e s h with
  | .ok _ h => .nx s h
  | .ex e h => .ex e h
  | .er => .er
def fO (c : DT) (a b : DS) : DS := fun s h => match c s h with
  | .ok k h => if k = true then a s h else b s h
  | .ex e h => .ex e h
  | .er => .er
def j8 (o i e : DE) : DS := fun s h => match ((e s h).bind fun v h => (o s h).bind fun x h => (i s h).bind fun y h => (match x, y with
    | .ref p, .int k => (match h[p]? with
      | some (.lst xs) => (match kU xs.length k with
        | some j => R.ok W.non (h.set p (.lst (xs.set j v)))
        | none => .er)
      | _ => .er)
    | _, _ => .er)) with
  | .ok _ h => .nx s h
  | .ex e h => .ex e h
  | .er => .er
inductive It where
  | fix (xs : List W) | lst (i : Nat) (xs : List W) | tup (i : Nat) (xs : List W)
def It.items : It → List W
  | .fix xs => xs
  | .lst _ xs => xs
  | .tup _ xs => xs
def It.stays : It → Sh → Prop
  | .fix _, _ => True
  | .lst i xs, h => lstW h (.ref i) = some xs
  | .tup i xs, h => eL h (.ref i) = some xs
instance (t : It) (h : Sh) : Decidable (t.stays h) := by cases t <;> unfold It.stays <;> infer_instance
abbrev DI := Sg → Sh → R It
def cn (lo : Int) (n : Nat) : List W := (List.range n).map fun (k : Nat) => .int (lo + (k : Int))
def cc (a : DE) : DI := fun s h => (a s h).bind fun x h => match x with
  | .int j => if -(2 ^ 62) ≤ j ∧ j < 2 ^ 62 then .ok (.fix (cn 0 j.toNat)) h else .er
  | _ => .er
abbrev DG := W → Sg → Sh → Option Sg
def d7 (i : Nat) : DG := fun v s _ => some (s.set i (some v))
def j6 : List Nat → List W → Sg → Sg
  | i :: is, v :: vs, s => j6 is vs (s.set i (some v))
  | _, _, s => s
def jR (is : List Nat) : DG := fun v s h => match eL h v with
  | some xs => if xs.length = is.length then some (j6 is xs s) else none
  | none => none
def qe (t : It) (g : DG) (b : DS) : List W → DS
  | [], s, h => .nx s h
  | x :: xs, s, h => match g x s h with
    | none => .er
    | some s1 => match b s1 h with
      | .nx s2 h2 => if t.stays h2 then qe t g b xs s2 h2 else .er
      | .ct s2 h2 => if t.stays h2 then qe t g b xs s2 h2 else .er
      | .bk s2 h2 => .nx s2 h2
      | c => c
def qU (i : DI) (g : DG) (b : DS) : DS := fun s h => match i s h with
  | .ok t h => qe t g b t.items s h
  | .ex e h => .ex e h
  | .er => .er
def jg (t : It) (g : DG) (c : DT) (e : DE) (acc : Nat) : List W → Sg → Sh → R W
  | [], _, h => .ok (.ref acc) h
  | x :: xs, s, h => match g x s h with
    | none => .er
    | some s1 => (c s1 h).bind fun k h1 => if k = true then (e s1 h1).bind fun v h2 => (match h2[acc]? with
        | some (.lst ys) => if ys.length < gT ∧ t.stays h2 ∧ acc < h2.length then jg t g c e acc xs s1 (h2.set acc (.lst (ys ++ [v]))) else .er
        | _ => .er)
      else if t.stays h1 then jg t g c e acc xs s1 h1 else .er
def mE (n : Nat) (js : List Nat) (s : Sg) : Sg := List.replicate n none ++ js.map fun j => (s[j]?).getD none
def iJ (i : DI) (n : Nat) (js : List Nat) (g : DG) (c : DT) (e : DE) : DE := fun s h => (i s h).bind fun t h => jg t g c e h.length t.items (mE n js s) (h ++ [.lst []])
def kr : DT := fun _ h => .ok true h
def fb : List W → Sh → OR := fun xs h => match xs with
  | [.str s] => if s.length ≤ gT then .val (.int s.length) else .er
  | [x] => (match fg h x with
    | some ys => .val (.int ys.length)
    | none => .er)
  | _ => .er
def kM : List W → Sh → OR := fun xs _ => match xs with
  | [.int i, .int j] => .val (.int (if j < i then j else i))
  | _ => .er
def bQ : List W → Sh → OR := fun xs h => match xs with
  | [x] => (match fg h x with
    | some ys => .new (.lst ys)
    | none => .er)
  | _ => .er
def bZ : List W → Sh → OR := fun xs h => match xs with
  | [x] => (match lstW h x with
    | some ys => .new (.tup ys)
    | none => (match eL h x with
      | some _ => .val x
      | none => .er))
  | _ => .er
def qB : List W → Sh → OR := fun xs h => match xs with
  | [x] => (match lstW h x with
    | some ys => if ys.all fun y => (match y with | .bl _ => true | _ => false) then .val (.bl (ys.all fun y => y == .bl true)) else .er
    | none => .er)
  | _ => .er
def kB (x : W) (h : Sh) : Bool := (lstW h x).isSome
def Cd (T : W → Sh → Bool) (f : W → List W → Sh → R W) (o : DE) (as : DA) : DE := fun s h => (o s h).bind fun x h => if T x h = true then (as s h).bind fun xs h => f x xs h else .er
def hV : W → List W → Sh → R W := fun x xs h => match x, xs with
  | .ref i, [y] => (match h[i]? with
    | some (.lst ys) => if ys.length < gT then .ok .non (h.set i (.lst (ys ++ [y]))) else .er
    | _ => .er)
  | _, _ => .er
inductive Ty where
  | bi (n : String) | own (x : Bool) (c : Str)
  deriving DecidableEq
def qJ (h : Sh) (x : W) : Option Ty := match x with
  | .non => some (.bi "NoneType")
  | .bl _ => some (.bi "bool")
  | .int _ => some (.bi "int")
  | .str _ => some (.bi "str")
  | .ref i => (match h[i]? with
    | some (.lst _) => some (.bi "list")
    | some (.rol _) => some (.bi "list")
    | some (.tup _) => some (.bi "tuple")
    | some (.ins c _) => some (.own false c)
    | some (.exc c _) => some (.own true c)
    | some .dct => some (.bi "dict")
    | none => none)
  | _ => none
def qK : List String := ["int", "bool", "str", "list", "tuple", "dict", "ValueError"]
def CG (a b : String) : Bool := a == b || (a == "bool" && b == "int")
abbrev CT := List (Str × List W)
def rl (T : CT) (t : Ty) (c : W) : Option Bool := match t, c with
  | .bi a, .ty b => if qK.contains b then some (CG a b) else none
  | .bi _, .gl x => if (T.lookup x).isSome then some false else none
  | .own k a, c => (match T.lookup a with
    | some l => if l.contains (.ty "ValueError") = k then (match c with
        | .ty b => if qK.contains b then some (l.contains (.ty b)) else none
        | .gl x => if (T.lookup x).isSome then some (l.contains (.gl x)) else none
        | _ => none) else none
    | none => none)
  | _, _ => none
def yy : W → Bool
  | .ty _ => true
  | .gl _ => true
  | _ => false
def uy (T : CT) (t : Ty) : List W → Option Bool
  | [] => some false
  | c :: cs => match rl T t c with
    | some true => some true
    | some false => uy T t cs
    | none => none
def isi (T : CT) (h : Sh) (x c : W) : Option Bool := match qJ h x with
  | none => none
  | some t => (match c with
    | .ref i => (match h[i]? with
      | some (.tup cs) => if cs.all yy && !cs.isEmpty then uy T t cs else none
      | _ => none)
    | c => rl T t c)
def b7 (T : CT) : List W → Sh → OR := fun xs h => match xs with
  | [x, c] => (match isi T h x c with
    | some b => .val (.bl b)
    | none => .er)
  | _ => .er
end HL
namespace HL
open PySem (Str)
def v8 (cs : List Str) (f : Str) (x : W) (h : Sh) : Option W := match x with
  | .ref i => (match h[i]? with
    | some (.ins c fs) => if cs.contains c = true then fs.lookup f else none
    | _ => none)
  | _ => none
def e9 (cs : List Str) (f : Str) (a : DE) : DE := fun s h => (a s h).bind fun x h => match v8 cs f x h with
  | some v => .ok v h
  | none => .er
def lW (f : Str) (v : W) : List (Str × W) → List (Str × W)
  | [] => [(f, v)]
  | (g, x) :: r => if g = f then (g, v) :: r else (g, x) :: lW f v r
def xI (cs : List Str) (f : Str) (x v : W) (h : Sh) : R W := match x with
  | .ref i => (match h[i]? with
    | some (.ins c fs) => if cs.contains c = true ∧ fs.length < 1000 then .ok .non (h.set i (.ins c (lW f v fs))) else .er
    | _ => .er)
  | _ => .er
def gW (cs : List Str) (f : Str) (o e : DE) : DS := fun s h => match ((e s h).bind fun v h => (o s h).bind fun x h => xI cs f x v h) with
  | .ok _ h => .nx s h
  | .ex e h => .ex e h
  | .er => .er
def mw (tb : List (Str × Fn)) (m : Str) (x : W) (h : Sh) : Option Fn := match x with
  | .ref i => (match h[i]? with
    | some (.ins c fs) => if fs.lookup m = none then tb.lookup c else none
    | _ => none)
  | _ => none
def bG (tb : List (Str × Fn)) (m : Str) (o : DE) (as : DA) : DE := fun s h => (o s h).bind fun x h => match mw tb m x h with
  | some f => (as s h).bind fun xs h => f (x :: xs) h
  | none => .er
def rB (c : Str) (f : Fn) (ds : List W) (as : DA) : DE := fun s h => (as s h).bind fun xs h1 => (f (.ref h1.length :: (xs ++ ds)) (h1 ++ [.ins c []])).bind fun v h2 => if v = .non then .ok (.ref h1.length) h2 else .er
end HL
namespace L2
open PySem PySem.Spec PyProof.Rows
open HL (W SO Sh Sg OR)
def rK (K : PySem.W.Frag) (H : Hp) (a : Addr) (xs : List V) : Prop := (∃ o, H a = some (.frz o (.lst xs))) ∨
    ∃ (o : Obj) (its : Array Value) (n : Nat), K.lookup a = some o ∧ o.cls = .type "list" ∧ o.dict = none ∧ o.data = .seq its n ∧ its.size ≤ sizeLine ∧ aF xs its.toList
theorem rK.sq {K : PySem.W.Frag} {H : Hp} {a : Addr} {xs : List V} (h : rK K H a xs) : ji K H a xs := by
  rcases h with h | h
  · exact .inl (.inr h)
  · exact .inr h
section
variable (γ : Str → Addr) (ρ : Nat → Addr)
def ay : W → V
  | .non => .non
  | .bl b => .bl b
  | .int i => .int i
  | .str s => .str s
  | .ref i => .ref (ρ i)
  | .ty n => .ty n
  | .gl x => .ref (γ x)
def gB (s : Sg) : St := s.map (Option.map (ay γ ρ))
def i8 (fs : List (Str × W)) : List (Str × V) := fs.map fun p => (p.1, ay γ ρ p.2)
def rN (K : PySem.W.Frag) (H : Hp) (a : Addr) : SO → Prop
  | .lst xs => H a = some (.lst (xs.map (ay γ ρ)))
  | .rol xs => rK K H a (xs.map (ay γ ρ))
  | .tup xs => iw K H a (xs.map (ay γ ρ))
  | .ins c fs => ∃ dx, H a = some (.ins (γ c) dx (i8 γ ρ fs))
  | .exc c fs => ∃ dx, H a = some (.exc (γ c) dx (i8 γ ρ fs))
  | .dct => H a = some (.dK [])
end
def wf (n : Nat) : W → Prop
  | .ref i => i < n
  | _ => True
def ja (n : Nat) (xs : List W) : Prop := ∀ x ∈ xs, wf n x
def qI (n : Nat) (s : Sg) : Prop := ∀ x, some x ∈ s → wf n x
def xh (n : Nat) : SO → Prop
  | .lst xs => ja n xs
  | .rol xs => ja n xs
  | .tup xs => ja n xs
  | .ins _ fs => ∀ p ∈ fs, wf n p.2
  | .exc _ fs => ∀ p ∈ fs, wf n p.2
  | .dct => True
def kT : SO → Bool
  | .lst _ => true
  | .ins _ _ => true
  | .exc _ _ => true
  | .dct => true
  | _ => false
def Ag (n : Nat) (ρ ρ' : Nat → Addr) : Prop := ∀ i < n, ρ i = ρ' i
theorem wf.mono {n m : Nat} {x : W} (h : wf n x) (l : n ≤ m) : wf m x := by
  cases x with
  | ref i => exact Nat.lt_of_lt_of_le h l
  | _ => trivial
theorem ja.mono {n m : Nat} {xs : List W} (h : ja n xs) (l : n ≤ m) : ja m xs := fun x hx => (h x hx).mono l
theorem qI.mono {n m : Nat} {s : Sg} (h : qI n s) (l : n ≤ m) : qI m s := fun x hx => (h x hx).mono l
theorem xh.mono {n m : Nat} {o : SO} (h : xh n o) (l : n ≤ m) : xh m o := by
  cases o with
  | lst xs => exact ja.mono h l
  | rol xs => exact ja.mono h l
  | tup xs => exact ja.mono h l
  | ins c fs => exact fun p hp => (h p hp).mono l
  | exc c fs => exact fun p hp => (h p hp).mono l
  | dct => trivial
theorem dD {γ : Str → Addr} {ρ ρ' : Nat → Addr} {n : Nat} {x : W} (h : wf n x) (a : Ag n ρ ρ') : ay γ ρ x = ay γ ρ' x := by
  cases x with
  | ref i => exact congrArg V.ref (a i h)
  | _ => rfl
theorem jC {γ : Str → Addr} {ρ ρ' : Nat → Addr} {n : Nat} {xs : List W} (h : ja n xs) (a : Ag n ρ ρ') : xs.map (ay γ ρ) = xs.map (ay γ ρ') :=
  List.map_congr_left fun x hx => dD (h x hx) a
theorem sm {γ : Str → Addr} {ρ ρ' : Nat → Addr} {n : Nat} {fs : List (Str × W)} (h : ∀ p ∈ fs, wf n p.2) (a : Ag n ρ ρ') : i8 γ ρ fs = i8 γ ρ' fs :=
  List.map_congr_left fun p hp => by rw [dD (h p hp) a]
theorem sk {γ : Str → Addr} {ρ ρ' : Nat → Addr} {n : Nat} {s : Sg} (h : qI n s) (a : Ag n ρ ρ') : gB γ ρ s = gB γ ρ' s := by
  refine List.map_congr_left fun x hx => ?_
  cases x with
  | none => rfl
  | some v => exact congrArg some (dD (h v hx) a)
theorem Ag.refl (n : Nat) (ρ : Nat → Addr) : Ag n ρ ρ := fun _ _ => rfl
theorem Ag.trans {n m : Nat} {ρ ρ1 ρ2 : Nat → Addr} (a : Ag n ρ ρ1) (b : Ag m ρ1 ρ2) (l : n ≤ m) : Ag n ρ ρ2 := fun i hi => (a i hi).trans (b i (Nat.lt_of_lt_of_le hi l))
structure cI (h : Sh) (ρ : Nat → Addr) (h' : Sh) (ρ' : Nat → Addr) : Prop where
  le : h.length ≤ h'.length
  ag : Ag h.length ρ ρ'
theorem cI.refl (h : Sh) (ρ : Nat → Addr) : cI h ρ h ρ := ⟨Nat.le_refl _, Ag.refl _ _⟩
theorem cI.trans {h h1 h2 : Sh} {ρ ρ1 ρ2 : Nat → Addr} (a : cI h ρ h1 ρ1) (b : cI h1 ρ1 h2 ρ2) : cI h ρ h2 ρ2 := ⟨Nat.le_trans a.le b.le, a.ag.trans b.ag a.le⟩
structure bP (K : PySem.W.Frag) (γ : Str → Addr) (ρ : Nat → Addr) (h : Sh) (H : Hp) : Prop where
  ob : ∀ (i : Nat) (o : SO), h[i]? = some o → rN γ ρ K H (ρ i) o
  inj : ∀ (i j : Nat) (o u : SO), h[i]? = some o → h[j]? = some u → kT o = true → kT u = true → ρ i = ρ j → i = j
  wf : ∀ (i : Nat) (o : SO), h[i]? = some o → xh h.length o
structure o7 (K : PySem.W.Frag) (γ : Str → Addr) (ρ : Nat → Addr) (s : Sg) (h : Sh) (σ : St) (H : Hp) : Prop where
  hp : bP K γ ρ h H
  ws : qI h.length s
  eq : σ = gB γ ρ s
section
variable {K : PySem.W.Frag} {γ : Str → Addr} {ρ ρ' : Nat → Addr} {s : Sg} {h h' : Sh} {σ : St} {H H' : Hp}
theorem o7.next (S : o7 K γ ρ s h σ H) (n : cI h ρ h' ρ') (S' : bP K γ ρ' h' H') : o7 K γ ρ' s h' σ H' := ⟨S', S.ws.mono n.le, S.eq.trans (sk S.ws n.ag)⟩
theorem rN.ren {a : Addr} {o : SO} (x : rN γ ρ K H a o) {n : Nat} (w : xh n o) (g : Ag n ρ ρ') : rN γ ρ' K H a o := by
  cases o with
  | lst xs => show _ = _; rw [← jC w g]; exact x
  | rol xs => show rK _ _ _ _; rw [← jC w g]; exact x
  | tup xs => show iw _ _ _ _; rw [← jC w g]; exact x
  | ins c fs => obtain ⟨dx, e⟩ := x; exact ⟨dx, by rw [← sm w g]; exact e⟩
  | exc c fs => obtain ⟨dx, e⟩ := x; exact ⟨dx, by rw [← sm w g]; exact e⟩
  | dct => exact x
theorem ji.at {a : Addr} {xs : List V} (h : ji K H a xs) (e : H a ≠ none → H' a = H a) : ji K H' a xs := by
  rcases h with (h | ⟨o, h⟩) | h
  · exact .inl (.inl (by rw [e (by rw [h]; exact nofun), h]))
  · exact .inl (.inr ⟨o, by rw [e (by rw [h]; exact nofun), h]⟩)
  · exact .inr h
theorem iw.at {a : Addr} {xs : List V} (h : iw K H a xs) (e : H a ≠ none → H' a = H a) : iw K H' a xs := by
  rcases h with (h | ⟨o, h⟩) | h
  · exact .inl (.inl (by rw [e (by rw [h]; exact nofun), h]))
  · exact .inl (.inr ⟨o, by rw [e (by rw [h]; exact nofun), h]⟩)
  · exact .inr h
theorem rK.at {a : Addr} {xs : List V} (h : rK K H a xs) (e : H a ≠ none → H' a = H a) : rK K H' a xs := by
  rcases h with ⟨o, h⟩ | h
  · exact .inl ⟨o, by rw [e (by rw [h]; exact nofun), h]⟩
  · exact .inr h
theorem rN.at {a : Addr} {o : SO} (x : rN γ ρ K H a o) (e : H a ≠ none → H' a = H a) : rN γ ρ K H' a o := by
  cases o with
  | lst xs => have x' : H a = _ := x; show H' a = _; rw [e (by rw [x']; exact nofun)]; exact x'
  | rol xs => exact rK.at x e
  | tup xs => exact iw.at x e
  | ins c fs => obtain ⟨dx, q⟩ := x; exact ⟨dx, by rw [e (by rw [q]; exact nofun)]; exact q⟩
  | exc c fs => obtain ⟨dx, q⟩ := x; exact ⟨dx, by rw [e (by rw [q]; exact nofun)]; exact q⟩
  | dct => have x' : H a = _ := x; show H' a = _; rw [e (by rw [x']; exact nofun)]; exact x'
def mH (ρ : Nat → Addr) (n : Nat) (p : Addr) : Nat → Addr := fun i => if i = n then p else ρ i
theorem fI (ρ : Nat → Addr) (n : Nat) (p : Addr) : Ag n ρ (mH ρ n p) := fun i hi => by unfold mH; rw [if_neg (Nat.ne_of_lt hi)]
theorem eg (ρ : Nat → Addr) (n : Nat) (p : Addr) : mH ρ n p n = p := by unfold mH; rw [if_pos rfl]
theorem getElem?_snoc {α : Type} (l : List α) (x : α) (i : Nat) : (l ++ [x])[i]? = if i < l.length then l[i]? else if i = l.length then some x else none := by
  by_cases h1 : i < l.length
  · rw [if_pos h1, List.getElem?_append_left h1]
  · rw [if_neg h1, List.getElem?_append_right (by omega)]
    by_cases h2 : i = l.length
    · rw [if_pos h2, h2, Nat.sub_self]; rfl
    · rw [if_neg h2]
      exact List.getElem?_eq_none_iff.mpr (by simp; omega)
theorem rN.mut {a : Addr} {o : SO} (x : rN γ ρ K H a o) (m : kT o = true) : ∃ u, H a = some u ∧ (∀ xs, u ≠ .tup xs) ∧ ∀ ob t, u ≠ .frz ob t := by
  cases o with
  | lst xs => exact ⟨_, x, (fun _ z => nomatch z), fun _ _ z => nomatch z⟩
  | rol xs => cases m
  | tup xs => cases m
  | ins c fs => obtain ⟨dx, e⟩ := x; exact ⟨_, e, (fun _ z => nomatch z), fun _ _ z => nomatch z⟩
  | exc c fs => obtain ⟨dx, e⟩ := x; exact ⟨_, e, (fun _ z => nomatch z), fun _ _ z => nomatch z⟩
  | dct => exact ⟨_, x, (fun _ z => nomatch z), fun _ _ z => nomatch z⟩
theorem rN.still {a b : Addr} {o : SO} {u v : HO} (x : rN γ ρ K H a o) (m : kT o = false) (e : H b = some u) (n1 : ∀ xs, u ≠ .tup xs) (n2 : ∀ ob t, u ≠ .frz ob t) : rN γ ρ K (upd H b v) a o := by
  cases o with
  | lst xs => cases m
  | ins c fs => cases m
  | exc c fs => cases m
  | dct => cases m
  | rol xs =>
    rcases x with ⟨o, h⟩ | h
    · exact .inl ⟨o, by rw [aH (iH h e (fun z => n2 _ _ z.symm))]; exact h⟩
    · exact .inr h
  | tup xs =>
    rcases x with (h | ⟨o, h⟩) | h
    · exact .inl (.inl (by rw [aH (iH h e (fun z => n1 _ z.symm))]; exact h))
    · exact .inl (.inr ⟨o, by rw [aH (iH h e (fun z => n2 _ _ z.symm))]; exact h⟩)
    · exact .inr h
theorem bP.push {p : Addr} {o : SO} (S : bP K γ ρ h H) (w : xh h.length o) (E : oZ H H') (hp : H p = none) (n : rN γ ρ K H' p o) : bP K γ (mH ρ h.length p) (h ++ [o]) H' where
  ob := fun i u e => by
    rw [getElem?_snoc] at e
    by_cases h1 : i < h.length
    · rw [if_pos h1] at e
      have x := (S.ob i u e).at (H' := H') fun z => E _ (by cases q : H (ρ i) with | none => exact absurd q z | some _ => rfl)
      rw [← fI ρ h.length p i h1]
      exact x.ren (S.wf i u e) (fI _ _ _)
    · rw [if_neg h1] at e
      by_cases h2 : i = h.length
      · rw [if_pos h2] at e
        cases e
        rw [h2, eg]
        exact n.ren w (fI _ _ _)
      · rw [if_neg h2] at e; cases e
  inj := fun i j u v e1 e2 m1 m2 q => by
    rw [getElem?_snoc] at e1 e2
    have tr : ∀ k w, k < h.length → h[k]? = some w → kT w = true → ρ k ≠ p := fun k w _ e m z => by
      obtain ⟨y, hy, _⟩ := (S.ob k w e).mut m
      rw [z, hp] at hy; cases hy
    by_cases h1 : i < h.length
    · rw [if_pos h1] at e1
      by_cases h2 : j < h.length
      · rw [if_pos h2] at e2
        rw [← fI ρ h.length p i h1, ← fI ρ h.length p j h2] at q
        exact S.inj i j u v e1 e2 m1 m2 q
      · rw [if_neg h2] at e2
        by_cases h3 : j = h.length
        · rw [h3, eg, ← fI ρ h.length p i h1] at q
          exact absurd q (tr i u h1 e1 m1)
        · rw [if_neg h3] at e2; cases e2
    · rw [if_neg h1] at e1
      by_cases h3 : i = h.length
      · by_cases h2 : j < h.length
        · rw [if_pos h2] at e2
          rw [h3, eg, ← fI ρ h.length p j h2] at q
          exact absurd q.symm (tr j v h2 e2 m2)
        · rw [if_neg h2] at e2
          by_cases h4 : j = h.length
          · rw [h3, h4]
          · rw [if_neg h4] at e2; cases e2
      · rw [if_neg h3] at e1; cases e1
  wf := fun i u e => by
    rw [getElem?_snoc] at e
    have le : h.length ≤ (h ++ [o]).length := by simp
    by_cases h1 : i < h.length
    · rw [if_pos h1] at e
      exact (S.wf i u e).mono le
    · rw [if_neg h1] at e
      by_cases h2 : i = h.length
      · rw [if_pos h2] at e; cases e; exact w.mono le
      · rw [if_neg h2] at e; cases e
theorem cI.push (h : Sh) (ρ : Nat → Addr) (o : SO) (p : Addr) : cI h ρ (h ++ [o]) (mH ρ h.length p) := ⟨by simp, fI _ _ _⟩
theorem bP.chg {i : Nat} {o u : SO} {v : HO} (S : bP K γ ρ h H) (e : h[i]? = some o) (m : kT o = true) (m' : kT u = true) (w : xh h.length u) (n : rN γ ρ K (upd H (ρ i) v) (ρ i) u) : bP K γ ρ (h.set i u) (upd H (ρ i) v) where
  ob := fun j t q => by
    rw [List.getElem?_set] at q
    have hi : i < h.length := by
      rcases Nat.lt_or_ge i h.length with z | z
      · exact z
      · rw [List.getElem?_eq_none_iff.mpr z] at e; cases e
    by_cases hj : i = j
    · rw [if_pos hj, if_pos hi] at q
      cases q
      rw [← hj]; exact n
    · rw [if_neg hj] at q
      obtain ⟨y, hy, n1, n2⟩ := (S.ob i o e).mut m
      cases c : kT t with
      | true =>
        have ne : ρ j ≠ ρ i := fun z => hj (S.inj i j o t e q m c z.symm)
        exact (S.ob j t q).at fun _ => aH ne
      | false => exact (S.ob j t q).still c hy n1 n2
  inj := fun j k t r e1 e2 m1 m2 q => by
    rw [List.getElem?_set] at e1 e2
    have g : ∀ j t, (if i = j then if i < h.length then some u else none else h[j]?) = some t → kT t = true → ∃ t', h[j]? = some t' ∧ kT t' = true := fun j t e1 m1 => by
      by_cases hj : i = j
      · rw [← hj]; exact ⟨o, e, m⟩
      · rw [if_neg hj] at e1; exact ⟨t, e1, m1⟩
    obtain ⟨t1, f1, g1⟩ := g j t e1 m1
    obtain ⟨t2, f2, g2⟩ := g k r e2 m2
    exact S.inj j k t1 t2 f1 f2 g1 g2 q
  wf := fun j t q => by
    rw [List.getElem?_set] at q
    rw [List.length_set]
    by_cases hj : i = j
    · rw [if_pos hj] at q
      by_cases hi : i < h.length
      · rw [if_pos hi] at q; cases q; exact w
      · rw [if_neg hi] at q; cases q
    · rw [if_neg hj] at q; exact S.wf j t q
theorem cI.chg (h : Sh) (ρ : Nat → Addr) (i : Nat) (u : SO) : cI h ρ (h.set i u) ρ := ⟨by simp, Ag.refl _ _⟩
end
end L2
namespace L2
open PySem PySem.Spec PyProof.Rows
open HL (W SO Sh Sg OR DE DT DA DS Fn)
section
variable (K : PySem.W.Frag) (γ : Str → Addr)
def aT {α β : Type} (g : (Nat → Addr) → α → β) (w : Nat → α → Prop) (ρ : Nat → Addr) (h : Sh) (r : HL.R α) (Q : β → Hp → Prop) : Prop := match r with
  | .ok a h' => ∀ ρ' H', cI h ρ h' ρ' → bP K γ ρ' h' H' → w h'.length a → Q (g ρ' a) H'
  | _ => False
abbrev kO := aT K γ (ay γ) wf
abbrev Es := aT K γ (fun ρ (vs : List W) => vs.map (ay γ ρ)) ja
abbrev Et := aT K γ (fun _ (b : Bool) => b) (fun _ _ => True)
abbrev Er := aT K γ (fun _ (b : Option Int) => b) (fun _ _ => True)
def eE (d : DE) : TE := fun σ H Q => ∃ ρ s h, o7 K γ ρ s h σ H ∧ kO K γ ρ h (d s h) Q
def eA (d : DA) : TA := fun σ H Q => ∃ ρ s h, o7 K γ ρ s h σ H ∧ Es K γ ρ h (d s h) Q
def eT (d : DT) : TT := fun σ H Q => ∃ ρ s h, o7 K γ ρ s h σ H ∧ Et K γ ρ h (d s h) Q
def eO (d : HL.DO) : TO := fun σ H Q => ∃ ρ s h, o7 K γ ρ s h σ H ∧ Er K γ ρ h (d s h) Q
def bU (ρ : Nat → Addr) (h : Sh) (c : HL.C) (D : kZ) : Prop := match c with
  | .nx s' h' => ∀ ρ' H', cI h ρ h' ρ' → bP K γ ρ' h' H' → qI h'.length s' → D.nx (gB γ ρ' s') H'
  | .rt v h' => ∀ ρ' H', cI h ρ h' ρ' → bP K γ ρ' h' H' → wf h'.length v → D.rt (ay γ ρ' v) H'
  | .bk s' h' => ∀ ρ' H', cI h ρ h' ρ' → bP K γ ρ' h' H' → qI h'.length s' → D.bk (gB γ ρ' s') H'
  | .ct s' h' => ∀ ρ' H', cI h ρ h' ρ' → bP K γ ρ' h' H' → qI h'.length s' → D.ct (gB γ ρ' s') H'
  | _ => False
def eS (d : DS) : TS := fun D σ H => ∃ ρ s h, o7 K γ ρ s h σ H ∧ bU K γ ρ h (d s h) D
end
section
variable {K : PySem.W.Frag} {γ : Str → Addr} {ρ ρ' : Nat → Addr} {s : Sg} {h h' : Sh} {σ : St} {H H' : Hp}
theorem aT.later {α β : Type} {g : (Nat → Addr) → α → β} {w : Nat → α → Prop} {r : HL.R α} {Q : β → Hp → Prop} (x : aT K γ g w ρ h r Q) (n : cI h ρ h' ρ') : aT K γ g w ρ' h' r Q := by
  cases r with
  | ok a h2 => exact fun ρ2 H2 n2 => x ρ2 H2 (n.trans n2)
  | ex e h2 => exact x.elim
  | er => exact x.elim
theorem bU.later {c : HL.C} {D : kZ} (x : bU K γ ρ h c D) (n : cI h ρ h' ρ') : bU K γ ρ' h' c D := by
  cases c with
  | nx s2 h2 => exact fun ρ2 H2 n2 => x ρ2 H2 (n.trans n2)
  | rt v h2 => exact fun ρ2 H2 n2 => x ρ2 H2 (n.trans n2)
  | bk s2 h2 => exact fun ρ2 H2 n2 => x ρ2 H2 (n.trans n2)
  | ct s2 h2 => exact fun ρ2 H2 n2 => x ρ2 H2 (n.trans n2)
  | ex e h2 => exact x.elim
  | er => exact x.elim
theorem aT.bind {α α' β β' : Type} {g : (Nat → Addr) → α → β} {w : Nat → α → Prop} {g' : (Nat → Addr) → α' → β'} {w' : Nat → α' → Prop} {r : HL.R α} {f : α → Sh → HL.R α'} {Q : β' → Hp → Prop} (x : aT K γ g' w' ρ h (r.bind f) Q) {R : β → Hp → Prop}
    (k : ∀ a h1 ρ1 H1, r = .ok a h1 → cI h ρ h1 ρ1 → bP K γ ρ1 h1 H1 → w h1.length a → aT K γ g' w' ρ1 h1 (f a h1) Q → R (g ρ1 a) H1) : aT K γ g w ρ h r R := by
  cases r with
  | ok a h1 => exact fun ρ1 H1 n1 S1 wa => k a h1 ρ1 H1 rfl n1 S1 wa (x.later n1)
  | ex e h2 => exact x.elim
  | er => exact x.elim
def EJ (K : PySem.W.Frag) (γ : Str → Addr) (ρ : Nat → Addr) (h : Sh) (H : Hp) (o : OR) (Q : VK) : Prop := match o with
  | .er => False
  | .val v => wf h.length v → Q (ay γ ρ v) H
  | .new (.lst xs) => ja h.length xs → ∀ p, H p = none → Q (.ref p) (upd H p (.lst (xs.map (ay γ ρ))))
  | .new (.tup xs) => ja h.length xs → ∀ p, H p = none → Q (.ref p) (upd H p (.tup (xs.map (ay γ ρ))))
  | .new _ => False
def gO : OR → Bool
  | .new (.lst _) => true
  | .new (.tup _) => true
  | .new _ => false
  | _ => true
theorem kD {o : OR} {Q : VK} (S : bP K γ ρ h H) (b : gO o = true) (x : kO K γ ρ h (o.fin h) Q) : EJ K γ ρ h H o Q := by
  cases o with
  | er => exact x.elim
  | val v => exact fun w => x ρ H (cI.refl _ _) S w
  | new o =>
    cases o with
    | lst xs =>
      intro w p hp
      have q := x (mH ρ h.length p) (upd H p (.lst (xs.map (ay γ ρ)))) (cI.push _ _ _ _) (S.push (o := .lst xs) w (oZ.upd _ hp) hp aX) (by show h.length < (h ++ [_]).length; simp)
      rw [show ay γ (mH ρ h.length p) (.ref h.length) = V.ref p from congrArg V.ref (eg _ _ _)] at q
      exact q
    | tup xs =>
      intro w p hp
      have q := x (mH ρ h.length p) (upd H p (.tup (xs.map (ay γ ρ)))) (cI.push _ _ _ _) (S.push (o := .tup xs) w (oZ.upd _ hp) hp (iw.of aX)) (by show h.length < (h ++ [_]).length; simp)
      rw [show ay γ (mH ρ h.length p) (.ref h.length) = V.ref p from congrArg V.ref (eg _ _ _)] at q
      exact q
    | _ => cases b
theorem jP {x : W} {xs : List W} (S : bP K γ ρ h H) (e : HL.lstW h x = some xs) : ∃ i, x = .ref i ∧ ji K H (ρ i) (xs.map (ay γ ρ)) ∧ ja h.length xs := by
  cases x with
  | ref i =>
    unfold HL.lstW at e
    simp only at e
    cases q : h[i]? with
    | none => rw [q] at e; cases e
    | some o =>
      rw [q] at e
      cases o with
      | lst ys => cases e; exact ⟨i, rfl, ji.of (S.ob i _ q), S.wf i _ q⟩
      | rol ys => cases e; exact ⟨i, rfl, (show rK K H (ρ i) _ from S.ob i _ q).sq, S.wf i _ q⟩
      | _ => cases e
  | _ => cases e
theorem lb {x : W} {xs : List W} (S : bP K γ ρ h H) (e : HL.eL h x = some xs) : ∃ i, x = .ref i ∧ iw K H (ρ i) (xs.map (ay γ ρ)) ∧ ja h.length xs := by
  cases x with
  | ref i =>
    unfold HL.eL at e
    simp only at e
    cases q : h[i]? with
    | none => rw [q] at e; cases e
    | some o =>
      rw [q] at e
      cases o with
      | tup ys => cases e; exact ⟨i, rfl, S.ob i _ q, S.wf i _ q⟩
      | _ => cases e
  | _ => cases e
theorem nV {x : W} {xs : List W} (S : bP K γ ρ h H) (e : HL.fg h x = some xs) : ∃ i, x = .ref i ∧ (ji K H (ρ i) (xs.map (ay γ ρ)) ∨ iw K H (ρ i) (xs.map (ay γ ρ))) ∧ ja h.length xs := by
  unfold HL.fg at e
  cases q : HL.lstW h x with
  | some ys =>
    rw [q] at e
    cases e
    obtain ⟨i, a, b, c⟩ := jP S q
    exact ⟨i, a, .inl b, c⟩
  | none =>
    rw [q] at e
    obtain ⟨i, a, b, c⟩ := lb S (show HL.eL h x = some xs by simpa using e)
    exact ⟨i, a, .inr b, c⟩
theorem z9 {n i : Nat} {xs : List W} {v : W} (w : ja n xs) (e : xs[i]? = some v) : wf n v := w v (List.mem_of_getElem? e)
end
theorem PE.imp {X : Cx} {e : Expr} {t t' : TE} (h : PE X e t) (i : ∀ σ H Q, t' σ H Q → t σ H Q) : PE X e t' := fun pins s σ H Q I hw => h pins s σ H Q I (i _ _ _ hw)
theorem PT.imp {X : Cx} {e : Expr} {t t' : TT} (h : PT X e t) (i : ∀ σ H Q, t' σ H Q → t σ H Q) : PT X e t' := fun pins s σ H Q I hw => h pins s σ H Q I (i _ _ _ hw)
theorem PW.imp {X : Cx} {e : Expr} {t t' : TT} (h : PW X e t) (i : ∀ σ H Q, t' σ H Q → t σ H Q) : PW X e t' := fun w pins s σ H Q I hw => h w pins s σ H Q I (i _ _ _ hw)
theorem PA.imp {X : Cx} {e : List Expr} {t t' : TA} (h : PA X e t) (i : ∀ σ H Q, t' σ H Q → t σ H Q) : PA X e t' := fun pos pins s σ H Q I hw => h pos pins s σ H Q I (i _ _ _ hw)
theorem PO.imp {X : Cx} {e : Option Expr} {t t' : TO} (h : PO X e t) (i : ∀ σ H Q, t' σ H Q → t σ H Q) : PO X e t' := fun pins s σ H Q I hw => h pins s σ H Q I (i _ _ _ hw)
theorem PS.imp {X : Cx} {e : Stmt} {t t' : TS} (h : PS X e t) (i : ∀ D σ H, t' D σ H → t D σ H) : PS X e t' := fun pins s σ H D I hw => h pins s σ H D I (i _ _ _ hw)
theorem m9.imp {X : Cx} {e : List Stmt} {t t' : TS} (h : m9 X e t) (i : ∀ D σ H, t' D σ H → t D σ H) : m9 X e t' := fun pins s σ H D I hw => h pins s σ H D I (i _ _ _ hw)
abbrev QE (γ : Str → Addr) (X : Cx) (e : Expr) (d : DE) : Prop := PE X e (eE X.K γ d)
abbrev QT (γ : Str → Addr) (X : Cx) (e : Expr) (d : DT) : Prop := PT X e (eT X.K γ d)
abbrev QW (γ : Str → Addr) (X : Cx) (e : Expr) (d : DT) : Prop := PW X e (eT X.K γ d)
abbrev QA (γ : Str → Addr) (X : Cx) (e : List Expr) (d : DA) : Prop := PA X e (eA X.K γ d)
abbrev QO (γ : Str → Addr) (X : Cx) (e : Option Expr) (d : HL.DO) : Prop := PO X e (eO X.K γ d)
abbrev QS (γ : Str → Addr) (X : Cx) (e : Stmt) (d : DS) : Prop := PS X e (eS X.K γ d)
abbrev rL (γ : Str → Addr) (X : Cx) (e : List Stmt) (d : DS) : Prop := m9 X e (eS X.K γ d)
section
variable {X : Cx} {γ : Str → Addr} {a b c e : Expr} {da db dc de : DE} {pos : Pos}
theorem CV {i : Nat} {x : Str} (hN : X.N[i]? = some x) (hv : Eg X.env.scope x) (hd : (x == ("__debug__" : Str)) = false := by decide) (hcd : (x == ("__classdict__" : Str)) = false := by decide) : QE γ X (.Name x pos) (HL.ae i) :=
  (vD hN hv hd hcd).imp fun σ H Q ⟨ρ, s, h, S, x⟩ => by
    unfold HL.ae at x
    split at x
    · rename_i v e
      refine ⟨ay γ ρ v, ?_, x ρ H (cI.refl _ _) S.hp (S.ws v (List.mem_of_getElem? e))⟩
      rw [S.eq]
      unfold gB
      rw [List.getElem?_map, e]
      rfl
    · exact x.elim
theorem B4 {v : W} {e : Expr} (w : ∀ n, wf n v) (r : ∀ ρ, PE X e (tC (ay γ ρ v))) : QE γ X e (HL.dC v) := fun pins s σ H Q I ⟨ρ, t, h, S, x⟩ => r ρ pins s σ H Q I (x ρ H (cI.refl _ _) S.hp (w _))
theorem aw {i j pos} : QE γ X (.Constant (.int i) j pos) (HL.dC (.int i)) := B4 (fun _ => trivial) fun _ => AQ
theorem om {i j pos} : QE γ X (.Constant (.bool i) j pos) (HL.dC (.bl i)) := B4 (fun _ => trivial) fun _ => De
theorem ny {j pos} : QE γ X (.Constant .none j pos) (HL.dC .non) := B4 (fun _ => trivial) fun _ => AN
theorem zm {x j pos} : QE γ X (.Constant (.str x) j pos) (HL.dC (.str x)) := B4 (fun _ => trivial) fun _ => AK
theorem qW {x : Str} (hg : Gl X x) (hm : X.mg x = some (.ref (γ x))) (hd : (x == ("__debug__" : Str)) = false := by decide) : QE γ X (.Name x pos) (HL.dC (.gl x)) := B4 (fun _ => trivial) fun _ => yc hg hm rfl hd
theorem mT {x : Str} {n : String} (hg : Gl X x) (hm : X.mg x = none) (hv : bootBuiltins x = some (.type n)) (hn : x ≠ "__name__" := by decide) (hd : (x == ("__debug__" : Str)) = false := by decide) : QE γ X (.Name x pos) (HL.dC (.ty n)) := B4 (fun _ => trivial) fun _ => yf hg hm hv rfl hn hd
def mJ (K : PySem.W.Frag) (γ : Str → Addr) (r : R2) (f : HL.O2) : Prop := ∀ ρ h H x y Q, bP K γ ρ h H → wf h.length x → wf h.length y → EJ K γ ρ h H (f x y h) Q → r (ay γ ρ x) (ay γ ρ y) H Q
def dP (f : HL.O2) : Prop := ∀ x y h, gO (f x y h) = true
theorem ou {r : R2} {f : HL.O2} (hs : mJ X.K γ r f) (nw : dP f) (σ : St) (H : Hp) (Q : VK) (x : eE X.K γ (HL.aE f da db) σ H Q) : Cv r (eE X.K γ da) (eE X.K γ db) σ H Q := by
  obtain ⟨ρ, s, h, S, x⟩ := x
  refine ⟨ρ, s, h, S, aT.bind x fun v h1 ρ1 H1 _ n1 S1 w1 x1 => ?_⟩
  refine ⟨ρ1, s, h1, S.next n1 S1, aT.bind x1 fun u h2 ρ2 H2 _ n2 S2 w2 x2 => ?_⟩
  rw [dD w1 n2.ag]
  exact hs ρ2 h2 H2 v u Q S2 (w1.mono n2.le) w2 (kD S2 (nw _ _ _) x2)
theorem t6 {op : Operator} {r : R2} {f : HL.O2} (ho : iu X (binaryOp op) r) (hs : mJ X.K γ r f) (nw : dP f) (ha : QE γ X a da) (hb : QE γ X b db) : QE γ X (.BinOp a op b pos) (HL.aE f da db) :=
  (C9 ho ha hb).imp (ou hs nw)
theorem CZ {op : CmpOp} {r : R2} {f : HL.O2} (ho : iu X (compareOp op) r) (hs : mJ X.K γ r f) (nw : dP f) (ha : QE γ X a da) (hb : QE γ X b db) (hm : behindInMarks op b = false) : QE γ X (.Compare a [op] [b] pos) (HL.aE f da db) :=
  (yd ho ha hb hm).imp (ou hs nw)
theorem Fb {r : R2} {f : HL.O2} (ho : xq X r) (hs : mJ X.K γ r f) (nw : dP f) (ha : QE γ X a da) (hb : QE γ X b db) (hp : oY b) : QE γ X (.Subscript a b pos) (HL.aE f da db) :=
  (Dc ho ha hb hp).imp (ou hs nw)
def FL (K : PySem.W.Frag) (γ : Str → Addr) (r : V → Hp → VK → Prop) (f : HL.O1) : Prop := ∀ ρ h H x Q, bP K γ ρ h H → wf h.length x → EJ K γ ρ h H (f x h) Q → r (ay γ ρ x) H Q
theorem E9 {op : UnaryOp} {r : V → Hp → VK → Prop} {f : HL.O1} (ho : EH X (unaryOp op) r) (hs : FL X.K γ r f) (nw : ∀ x h, gO (f x h) = true) (ha : QE γ X a da) : QE γ X (.UnaryOp op a pos) (HL.D9 f da) :=
  (C8 ho ha).imp fun σ H Q x => by
    obtain ⟨ρ, s, h, S, x⟩ := x
    refine ⟨ρ, s, h, S, aT.bind x fun v h1 ρ1 H1 _ n1 S1 w1 x1 => ?_⟩
    exact hs ρ1 h1 H1 v Q S1 w1 (kD S1 (nw _ _) x1)
theorem ak : QA γ X [] HL.aj := AV.imp fun σ H Q ⟨ρ, s, h, S, x⟩ => x ρ H (cI.refl _ _) S.hp fun _ z => by cases z
theorem af {es : List Expr} {d : DA} (ha : QE γ X e de) (hr : QA γ X es d) (hs : starEach (e :: es) X.env = (false, eval e X.env) :: starEach es X.env := by rfl) : QA γ X (e :: es) (HL.aa de d) :=
  (yg ha hr hs).imp fun σ H Q x => by
    obtain ⟨ρ, s, h, S, x⟩ := x
    refine ⟨ρ, s, h, S, aT.bind x fun v h1 ρ1 H1 _ n1 S1 w1 x1 => ?_⟩
    refine ⟨ρ1, s, h1, S.next n1 S1, aT.bind x1 fun us h2 ρ2 H2 _ n2 S2 w2 x2 => ?_⟩
    rw [dD w1 n2.ag]
    exact x2 ρ2 H2 (cI.refl _ _) S2 fun y hy => by
      rcases List.mem_cons.mp hy with rfl | hy
      · exact w1.mono n2.le
      · exact w2 y hy
def y2 (K : PySem.W.Frag) (γ : Str → Addr) (r : List V → Hp → VK → Prop) (f : List W → Sh → OR) : Prop := ∀ ρ h H xs Q, bP K γ ρ h H → ja h.length xs → EJ K γ ρ h H (f xs h) Q → r (xs.map (ay γ ρ)) H Q
theorem zK {r : List V → Hp → VK → Prop} {f : List W → Sh → OR} {d : DA} (hs : y2 X.K γ r f) (nw : ∀ x h, gO (f x h) = true) (σ : St) (H : Hp) (Q : VK) (x : eE X.K γ (HL.dB f d) σ H Q) : E7 r (eA X.K γ d) σ H Q := by
  obtain ⟨ρ, s, h, S, x⟩ := x
  refine ⟨ρ, s, h, S, aT.bind x fun v h1 ρ1 H1 _ n1 S1 w1 x1 => ?_⟩
  exact hs ρ1 h1 H1 v Q S1 w1 (kD S1 (nw _ _) x1)
theorem lj {x : Str} {id : String} {p : Pos} {es : List Expr} {d : DA} {r : List V → Hp → VK → Prop} {f : List W → Sh → OR} (hc : iX X (.builtin id) r) (hs : y2 X.K γ r f) (nw : ∀ x h, gO (f x h) = true) (hg : Gl X x) (hm : X.mg x = none) (hv : bootBuiltins x = some (.builtin id)) (ha : QA γ X (e :: es) d)
    (hn : x ≠ "__name__" := by decide) (hdb : (x == ("__debug__" : Str)) = false := by decide) (he : starEach (e :: es) X.env = (false, eval e X.env) :: starEach es X.env := by rfl) (hpl : (backTo pos (starEach es X.env)).any (·.1) = false := by rfl) :
    QE γ X (.Call (.Name x p) (e :: es) [] pos) (HL.dB f d) := (vI hc hg hm hv ha hn hdb he hpl).imp (zK hs nw)
theorem pS {x : Str} {T : String} {p : Pos} {es : List Expr} {d : DA} {r : List V → Hp → VK → Prop} {f : List W → Sh → OR} (hc : iX X (.type T) r) (hs : y2 X.K γ r f) (nw : ∀ x h, gO (f x h) = true) (hg : Gl X x) (hm : X.mg x = none) (hv : bootBuiltins x = some (.type T)) (ha : QA γ X (e :: es) d)
    (hn : x ≠ "__name__" := by decide) (hdb : (x == ("__debug__" : Str)) = false := by decide) (he : starEach (e :: es) X.env = (false, eval e X.env) :: starEach es X.env := by rfl) (hpl : (backTo pos (starEach es X.env)).any (·.1) = false := by rfl) :
    QE γ X (.Call (.Name x p) (e :: es) [] pos) (HL.dB f d) := (uh hc hg hm hv ha hn hdb he hpl).imp (zK hs nw)
theorem cL {n : Nat} (h : n ≤ HL.gT) : n ≤ sizeLine := by
  have : HL.gT = 100000 := rfl
  rw [sizeLine_eq]; omega
theorem pR {es : List Expr} {d : DA} (ha : QA γ X es d) : QE γ X (.List es pos) (HL.dB HL.ju d) :=
  (AO ha).imp fun σ H Q x => by
    obtain ⟨ρ, s, h, S, x⟩ := x
    refine ⟨ρ, s, h, S, aT.bind x fun v h1 ρ1 H1 _ n1 S1 w1 x1 => ?_⟩
    unfold HL.ju at x1
    split at x1
    · rename_i hl
      exact ⟨by rw [List.length_map]; exact cL hl, kD S1 rfl x1 w1⟩
    · exact x1.elim
theorem zl {x1} {es : List Expr} {d : DA} (ha : QA γ X es d) : QE γ X (.Tuple es x1 pos) (HL.dB HL.qA d) :=
  (AJ ha).imp fun σ H Q x => by
    obtain ⟨ρ, s, h, S, x⟩ := x
    refine ⟨ρ, s, h, S, aT.bind x fun v h1 ρ1 H1 _ n1 S1 w1 x1 => ?_⟩
    unfold HL.qA at x1
    split at x1
    · rename_i hl
      exact ⟨by rw [List.length_map]; exact cL hl, kD S1 rfl x1 w1⟩
    · exact x1.elim
def EZ (K : PySem.W.Frag) (ta : TE) : TT := fun σ H Q => ta σ H fun x H' => ∃ k, BZ K x H' k ∧ Q k H'
theorem Aj (σ : St) (H : Hp) (Q : Bool → Hp → Prop) (x : eT X.K γ (HL.dT da) σ H Q) : EZ X.K (eE X.K γ da) σ H Q := by
  obtain ⟨ρ, s, h, S, x⟩ := x
  refine ⟨ρ, s, h, S, aT.bind x fun v h1 ρ1 H1 _ n1 S1 w1 x1 => ?_⟩
  have fin : ∀ b, HL.jy v h1 = some b → Q b H1 := fun b e => by
    simp only [e] at x1
    exact x1 ρ1 H1 (cI.refl _ _) S1 trivial
  cases v with
  | non => exact ⟨_, rfl, fin _ rfl⟩
  | bl b => exact ⟨_, rfl, fin _ rfl⟩
  | int i => exact ⟨_, rfl, fin _ rfl⟩
  | str y =>
    by_cases hl : y.length ≤ HL.gT
    · exact ⟨_, ⟨cL hl, rfl⟩, fin _ (if_pos hl)⟩
    · simp only [HL.jy, if_neg hl] at x1
      exact x1.elim
  | ref i =>
    cases q : h1[i]? with
    | none => simp only [HL.jy, q] at x1; exact x1.elim
    | some o =>
      have ob := S1.ob i o q
      cases o with
      | lst xs => exact ⟨_, .inl ⟨_, ji.of ob, rfl⟩, by have := fin (!xs.isEmpty) (by simp only [HL.jy, q]); simpa using this⟩
      | rol xs => exact ⟨_, .inl ⟨_, (show rK _ _ _ _ from ob).sq, rfl⟩, by have := fin (!xs.isEmpty) (by simp only [HL.jy, q]); simpa using this⟩
      | tup xs => exact ⟨_, .inr (.inl ⟨_, ob, rfl⟩), by have := fin (!xs.isEmpty) (by simp only [HL.jy, q]); simpa using this⟩
      | ins c fs => simp only [HL.jy, q] at x1; exact x1.elim
      | exc c fs => simp only [HL.jy, q] at x1; exact x1.elim
      | dct => simp only [HL.jy, q] at x1; exact x1.elim
  | ty n => exact x1.elim
  | gl n => exact x1.elim
theorem lQ (ha : QE γ X a da) (he : ∀ whole, isTrue a X.env whole = (do let v ← whole; standAt a.pos; holding [v] (truthy v)) := by intro _; rfl) : QT γ X a (HL.dT da) := (vm ha he).imp Aj
theorem xB {t : TE} (ht : ∀ σ H Q, eE X.K γ da σ H Q → t σ H Q) (σ : St) (H : Hp) (Q : Bool → Hp → Prop) (x : eT X.K γ (HL.dT da) σ H Q) (bo : ∀ s h v h', da s h = .ok v h' → ∃ k, v = .bl k) : y9 t σ H Q := by
  obtain ⟨ρ, s, h, S, x⟩ := x
  refine ht σ H _ ⟨ρ, s, h, S, aT.bind x fun v h1 ρ1 H1 e n1 S1 w1 x1 => ?_⟩
  obtain ⟨k, rfl⟩ := bo _ _ _ _ e
  exact ⟨k, rfl, x1 ρ1 H1 (cI.refl _ _) S1 trivial⟩
def Bo (f : HL.O2) : Prop := ∀ x y h, f x y h = .er ∨ ∃ k, f x y h = .val (.bl k)
theorem Bo.op {f : HL.O2} (b : Bo f) : ∀ s h v h', HL.aE f da db s h = .ok v h' → ∃ k, v = .bl k := fun s h v h' e => by
  unfold HL.aE HL.R.bind at e
  cases ea : da s h with
  | ok x h1 =>
    rw [ea] at e
    simp only at e
    cases eb : db s h1 with
    | ok y h2 =>
      rw [eb] at e
      simp only at e
      rcases b x y h2 with z | ⟨k, z⟩
      · rw [z] at e; cases e
      · rw [z] at e; cases e; exact ⟨k, rfl⟩
    | ex => rw [eb] at e; cases e
    | er => rw [eb] at e; cases e
  | ex => rw [ea] at e; cases e
  | er => rw [ea] at e; cases e
theorem oi {op : CmpOp} {r : R2} {f : HL.O2} (ho : iu X (compareOp op) r) (hs : mJ X.K γ r f) (nw : dP f) (bo : Bo f) (ha : QE γ X a da) (hb : QE γ X b db) (hm : behindInMarks op b = false) : QT γ X (.Compare a [op] [b] pos) (HL.dT (HL.aE f da db)) :=
  (xX ho ha hb hm).imp fun σ H Q x => xB (ou hs nw) σ H Q x bo.op
section
variable {dA dB : DT} {dz : List Expr}
theorem not_of (σ : St) (H : Hp) (Q : Bool → Hp → Prop) (x : eT X.K γ (HL.dZ dA) σ H Q) : dZ (eT X.K γ dA) σ H Q := by
  obtain ⟨ρ, s, h, S, x⟩ := x
  exact ⟨ρ, s, h, S, aT.bind x fun k h1 ρ1 H1 _ n1 S1 w1 x1 => x1 ρ1 H1 (cI.refl _ _) S1 trivial⟩
theorem gX (ha : QT γ X a dA) : QT γ X (.UnaryOp .Not a pos) (HL.dZ dA) := (AB ha).imp not_of
theorem Dq (σ : St) (H : Hp) (Q : Bool → Hp → Prop) (x : eT X.K γ (HL.uM dA dB) σ H Q) : uM (eT X.K γ dA) (eT X.K γ dB) σ H Q := by
  obtain ⟨ρ, s, h, S, x⟩ := x
  refine ⟨ρ, s, h, S, aT.bind x fun k h1 ρ1 H1 _ n1 S1 w1 x1 => ?_⟩
  cases k with
  | false => exact ⟨ρ1, s, h1, S.next n1 S1, x1⟩
  | true => exact x1 ρ1 H1 (cI.refl _ _) S1 trivial
theorem vc (ha : QT γ X a dA) : QW γ X (.BoolOp .Or [a] pos) dA := Ay ha
theorem zj (ha : QT γ X a dA) (hb : QW γ X (.BoolOp .Or (b :: dz) pos) dB) : QW γ X (.BoolOp .Or (a :: b :: dz) pos) (HL.uM dA dB) := (C2 ha hb).imp Dq
theorem CU (h : QW γ X a dA) : QT γ X a dA := h _
theorem lS {op} (h : QE γ X a da) : QE γ X (.BoolOp op [a] pos) da := AL h
theorem jF (ha : QE γ X a da) (hb : QE γ X (.BoolOp .And (b :: dz) pos) db) : QE γ X (.BoolOp .And (a :: b :: dz) pos) (HL.iK da db) := (AU ha hb).imp fun σ H Q x => by
  obtain ⟨ρ, s, h, S, x⟩ := x
  refine ⟨ρ, s, h, S, aT.bind x fun v h1 ρ1 H1 _ n1 S1 w1 x1 => ?_⟩
  cases v with
  | bl k =>
    refine ⟨k, rfl, ?_⟩
    cases k with
    | true => exact ⟨ρ1, s, h1, S.next n1 S1, x1⟩
    | false => exact x1 ρ1 H1 (cI.refl _ _) S1 trivial
  | _ => exact x1.elim
theorem sv (ha : QE γ X a da) : QE γ X (.UnaryOp .Not a pos) (HL.oS da) := (AM ha).imp fun σ H Q x => by
  obtain ⟨ρ, s, h, S, x⟩ := x
  refine ⟨ρ, s, h, S, aT.bind x fun v h1 ρ1 H1 _ n1 S1 w1 x1 => ?_⟩
  cases v with
  | bl k => exact ⟨k, rfl, x1 ρ1 H1 (cI.refl _ _) S1 trivial⟩
  | _ => exact x1.elim
end
theorem wI {r r' : R2} {f g : HL.O2} (hs : mJ X.K γ r f) (nw : dP f) (bo : Bo f) (hs' : mJ X.K γ r' g) (nw' : dP g) (σ : St) (H : Hp) (Q : VK) (x : eE X.K γ (HL.h8 f g da db dc) σ H Q) : uU r r' (eE X.K γ da) (eE X.K γ db) (eE X.K γ dc) σ H Q := by
  obtain ⟨ρ, s, h, S, x⟩ := x
  refine ⟨ρ, s, h, S, aT.bind x fun v h1 ρ1 H1 _ n1 S1 w1 x1 => ?_⟩
  refine ⟨ρ1, s, h1, S.next n1 S1, aT.bind x1 fun u h2 ρ2 H2 _ n2 S2 w2 x2 => ?_⟩
  have T2 := (S.next n1 S1).next n2 S2
  rw [dD w1 n2.ag]
  refine hs ρ2 h2 H2 v u _ S2 (w1.mono n2.le) w2 ?_
  rcases bo v u h2 with z | ⟨k, z⟩
  · rw [z] at x2; exact x2.elim
  · rw [z] at x2 ⊢
    intro _
    refine ⟨k, rfl, ?_⟩
    cases k with
    | false => exact x2 ρ2 H2 (cI.refl _ _) S2 trivial
    | true =>
      have x2' : kO X.K γ ρ2 h2 ((dc s h2).bind fun w h => (g u w h).fin h) Q := x2
      refine ⟨ρ2, s, h2, T2, aT.bind x2' fun t h3 ρ3 H3 _ n3 S3 w3 x3 => ?_⟩
      rw [dD w2 n3.ag]
      exact hs' ρ3 h3 H3 u t Q S3 (w2.mono n3.le) w3 (kD S3 (nw' _ _ _) x3)
theorem sy {op op' : CmpOp} {r r' : R2} {f g : HL.O2} (ho : iu X (compareOp op) r) (hs : mJ X.K γ r f) (nw : dP f) (bo : Bo f) (ho' : iu X (compareOp op') r') (hs' : mJ X.K γ r' g) (nw' : dP g) (ha : QE γ X a da) (hb : QE γ X b db) (hc : QE γ X c dc)
    (hm : lastMarks [op, op'] [b, c] = false := by with_unfolding_all rfl) : QE γ X (.Compare a [op, op'] [b, c] pos) (HL.h8 f g da db dc) := (vH ho ho' ha hb hc hm).imp (wI hs nw bo hs' nw')
theorem iZ (ha : QE γ X a da) : QO γ X (some a) (HL.cN da) := (xY ha).imp fun σ H Q x => by
  obtain ⟨ρ, s, h, S, x⟩ := x
  refine ⟨ρ, s, h, S, aT.bind x fun v h1 ρ1 H1 _ n1 S1 w1 x1 => ?_⟩
  cases v with
  | int i => exact ⟨i, rfl, x1 ρ1 H1 (cI.refl _ _) S1 trivial⟩
  | _ => exact x1.elim
theorem og (n d : Nat) (o : Option Int) : HL.sIx n d o = HT.sIx n d o := by
  cases o with
  | none => rfl
  | some i =>
    rfl
theorem wF (γ : Str → Addr) (ρ : Nat → Addr) (xs : List W) (lo hi : Option Int) : (HL.qp xs lo hi).map (ay γ ρ) = qr (xs.map (ay γ ρ)) lo hi := by
  unfold HL.qp qr
  rw [List.map_take, List.map_drop, List.length_map, og, og]
theorem uO {n : Nat} {xs : List W} (w : ja n xs) (lo hi : Option Int) : ja n (HL.qp xs lo hi) := fun x hx => w x (List.mem_of_mem_drop (List.mem_of_mem_take hx))
def E8 (K : PySem.W.Frag) : V → Option Int → Option Int → Hp → VK → Prop := fun x lo hi H Q => CK K x lo hi H Q ∨ CJ K x lo hi H Q
theorem xF : zY X (E8 X.K) := xE.or An
theorem CW {lo hi : Option Expr} {dl dh : HL.DO} {p2 : Pos} (ha : QE γ X a da) (hl : QO γ X lo dl) (hu : QO γ X hi dh) : QE γ X (.Subscript a (.Slice lo hi none p2) pos) (HL.Cc da dl dh) := (vE xF ha hl hu).imp fun σ H Q x => by
  obtain ⟨ρ, s, h, S, x⟩ := x
  refine ⟨ρ, s, h, S, aT.bind x fun v h1 ρ1 H1 _ n1 S1 w1 x1 => ?_⟩
  refine ⟨ρ1, s, h1, S.next n1 S1, aT.bind x1 fun l h2 ρ2 H2 _ n2 S2 w2 x2 => ?_⟩
  refine ⟨ρ2, s, h2, (S.next n1 S1).next n2 S2, aT.bind x2 fun u h3 ρ3 H3 _ n3 S3 w3 x3 => ?_⟩
  rw [dD w1 n2.ag, dD (w1.mono n2.le) n3.ag]
  unfold HL.Fd at x3
  split at x3
  · rename_i xs e
    obtain ⟨i, rfl, q, w⟩ := jP S3 e
    refine .inl ⟨_, _, rfl, q, fun p hp => ?_⟩
    rw [← wF]
    exact kD S3 rfl x3 (uO w _ _) p hp
  · split at x3
    · rename_i xs e
      obtain ⟨i, rfl, q, w⟩ := lb S3 e
      split at x3
      · exact x3.elim
      · rename_i ne
        refine .inr ⟨_, _, rfl, q, ?_, fun p hp => ?_⟩
        · rw [List.length_map, ← og, ← og]; exact ne
        · rw [← wF]
          exact kD S3 rfl x3 (uO w _ _) p hp
    · exact x3.elim
end
end L2
namespace L2
open PySem PySem.Spec PyProof.Rows
open HL (W SO Sh Sg OR DE DT DA DS Fn)
def dY (K : PySem.W.Frag) (γ : Str → Addr) (p : Nat) (f : Fn) : Sp := fun vs H Q _ => vs.length = p ∧ ∃ ρ h us, bP K γ ρ h H ∧ ja h.length us ∧ vs = us.map (ay γ ρ) ∧ kO K γ ρ h (f us h) Q
section
variable {X : Cx} {γ : Str → Addr} {a b c e : Expr} {da db dc de : DE} {pos : Pos}
theorem cj {f : Fn} {p : Nat} {d : DA} (hp : ∀ us h v h', f us h = .ok v h' → us.length = p) (σ : St) (H : Hp) (Q : VK) (x : eE X.K γ (HL.aS f d) σ H Q) : uV (dY X.K γ p f) [] E0 (eA X.K γ d) σ H Q := by
  obtain ⟨ρ, s, h, S, x⟩ := x
  refine ⟨ρ, s, h, S, aT.bind x fun us h1 ρ1 H1 _ n1 S1 w1 x1 => ?_⟩
  rw [List.append_nil]
  refine ⟨?_, ρ1, h1, us, S1, w1, rfl, x1⟩
  rw [List.length_map]
  cases q : f us h1 with
  | ok v h' => exact hp _ _ _ _ q
  | ex => rw [q] at x1; exact x1.elim
  | er => rw [q] at x1; exact x1.elim
theorem qf {p n : Nat} {b : DS} {us : List W} {h : Sh} {v : W} {h' : Sh} (e : HL.fnOf p n b us h = .ok v h') : us.length = p := by
  unfold HL.fnOf at e
  split at e
  · assumption
  · cases e
theorem bX {x : Str} {k p n : Nat} {bd : DS} {ps : List Str} {pp : Pos} {es : List Expr} {d : DA} (D : j2 X.prog X.w X.K X.mg X.base k x ps (dY X.K γ p (HL.fnOf p n bd))) (hr : bx k X.A) (hg : Gl X x) (ha : QA γ X (e :: es) d) (hdb : (x == ("__debug__" : Str)) = false := by decide)
    (he : starEach (e :: es) X.env = (false, eval e X.env) :: starEach es X.env := by rfl) (hpl : (backTo pos (starEach es X.env)).any (·.1) = false := by rfl) : QE γ X (.Call (.Name x pp) (e :: es) [] pos) (HL.aS (HL.fnOf p n bd) d) :=
  (AS D hr hg ha hdb he hpl).imp (cj fun _ _ _ _ => qf)
theorem fh : rL γ X [] HL.ku := sO.imp fun D σ H ⟨ρ, s, h, S, x⟩ => by rw [S.eq]; exact x ρ H (cI.refl _ _) S.hp S.ws
theorem xJ {d1 d2 : DS} (D : kZ) (σ : St) (H : Hp) (x : eS X.K γ (HL.aI d1 d2) D σ H) : Ct (eS X.K γ d1) (eS X.K γ d2) D σ H := by
  obtain ⟨ρ, s, h, S, x⟩ := x
  refine ⟨ρ, s, h, S, ?_⟩
  unfold HL.aI at x
  cases q : d1 s h with
  | nx s1 h1 =>
    rw [q] at x
    exact fun ρ1 H1 n1 S1 w1 => ⟨ρ1, s1, h1, ⟨S1, w1, rfl⟩, bU.later x n1⟩
  | rt v h1 => rw [q] at x; exact x
  | bk s1 h1 => rw [q] at x; exact x
  | ct s1 h1 => rw [q] at x; exact x
  | ex => rw [q] at x; exact x.elim
  | er => rw [q] at x; exact x.elim
theorem aA {st : Stmt} {dz : List Stmt} {d1 d2 : DS} (h1 : QS γ X st d1) (h2 : rL γ X dz d2) : rL γ X (st :: dz) (HL.aI d1 d2) := (p6 h1 h2).imp xJ
theorem aC {st : Stmt} {d1 : DS} (h1 : QS γ X st d1) : rL γ X [st] d1 := sN h1
theorem br (he : QE γ X e de) : QS γ X (.Return (some e) pos) (HL.bS de) := (AF he).imp fun D σ H ⟨ρ, s, h, S, x⟩ => by
  refine ⟨ρ, s, h, S, ?_⟩
  unfold HL.bS at x
  cases q : de s h with
  | ok v h1 => rw [q] at x; exact x
  | ex => rw [q] at x; exact x.elim
  | er => rw [q] at x; exact x.elim
theorem gY (he : QE γ X e de) (hs : swapsWith e none pos.line X.env = pure false := by rfl) : QS γ X (.Expr e pos) (HL.eN de) := (sP he hs).imp fun D σ H ⟨ρ, s, h, S, x⟩ => by
  refine ⟨ρ, s, h, S, ?_⟩
  unfold HL.eN at x
  cases q : de s h with
  | ok v h1 =>
    rw [q] at x
    intro ρ1 H1 n1 S1 w1
    have z := x ρ1 H1 n1 S1 (S.ws.mono n1.le)
    rw [(S.next n1 S1).eq]; exact z
  | ex => rw [q] at x; exact x.elim
  | er => rw [q] at x; exact x.elim
theorem nR {n i : Nat} {s : Sg} {v : W} (w : qI n s) (wv : wf n v) : qI n (s.set i (some v)) := fun y hy => by
  rcases List.mem_or_eq_of_mem_set hy with z | z
  · exact w y z
  · cases z; exact wv
theorem jD {ρ : Nat → Addr} {i : Nat} {s : Sg} {v : W} : gB γ ρ (s.set i (some v)) = (gB γ ρ s).set i (some (ay γ ρ v)) := by
  unfold gB
  rw [List.map_set]
  rfl
theorem Av {i : Nat} {x : Str} {pos' : Pos} (hN : X.N.Nodup) (hi : X.N[i]? = some x) (hx : xa X.env.scope x) (he : QE γ X e de) (hs : swapsWith e (some (.Name x pos')) pos.line X.env = pure false := by rfl) (hf : X.fn x = true ∨ X.env.scope.names.lookup x = some .local := by first | exact .inl rfl | exact .inr rfl | assumption) :
    QS γ X (.Assign [.Name x pos'] e pos) (HL.bD i de) := (AE hN hi hx he hs hf).imp fun D σ H ⟨ρ, s, h, S, x⟩ => by
  refine ⟨ρ, s, h, S, ?_⟩
  unfold HL.bD at x
  cases q : de s h with
  | ok v h1 =>
    rw [q] at x
    intro ρ1 H1 n1 S1 w1
    have z := x ρ1 H1 n1 S1 (nR (S.ws.mono n1.le) w1)
    rw [jD, ← (S.next n1 S1).eq] at z
    exact z
  | ex => rw [q] at x; exact x.elim
  | er => rw [q] at x; exact x.elim
theorem fH {dc : DT} {d1 d2 : DS} {s1 s2 : List Stmt} (hc : QT γ X c dc) (ha : rL γ X s1 d1) (hb : rL γ X s2 d2) : QS γ X (.If c s1 s2 pos) (HL.fO dc d1 d2) := (zq hc ha hb).imp fun D σ H ⟨ρ, s, h, S, x⟩ => by
  refine ⟨ρ, s, h, S, ?_⟩
  unfold HL.fO at x
  cases q : dc s h with
  | ok k h1 =>
    rw [q] at x
    intro ρ1 H1 n1 S1 w1
    cases k with
    | true => exact ⟨ρ1, s, h1, S.next n1 S1, bU.later x n1⟩
    | false => exact ⟨ρ1, s, h1, S.next n1 S1, bU.later x n1⟩
  | ex => rw [q] at x; exact x.elim
  | er => rw [q] at x; exact x.elim
theorem DB (n : Nat) (i : Int) : HL.kU n i = B8 n i := rfl
theorem oj {o i : Expr} {d1 d2 : DE} {p2 : Pos} (he : QE γ X e de) (ho : QE γ X o d1) (hi : QE γ X i d2)
    (ha : ∀ v, assign (.Subscript o i p2) X.env v = (do
      let ov ← holding [v] (eval o X.env)
      let iv ← holding [v, ov] (eval i X.env)
      standAt p2
      holding [v, ov, iv] (setItem ov iv v)
      release [v, ov, iv] []) := by intro _; rfl)
    (hs : swapsWithSole [.Subscript o i p2] e pos.line X.env = pure false := by rfl) (hw : swappedStores [.Subscript o i p2] e X.env = pure none := by rfl)
    (h1 : (assignEach [.Subscript o i p2] X.env).map (·.2) = [assign (.Subscript o i p2) X.env] := by rfl) : QS γ X (.Assign [.Subscript o i p2] e pos) (HL.j8 d1 d2 de) :=
  (vp he (AI ho hi u1 ha) hs hw h1).imp fun D σ H ⟨ρ, s, h, S, x⟩ => by
  unfold HL.j8 at x
  refine ⟨ρ, s, h, S, ?_⟩
  cases q : de s h with
  | ok v h1 =>
    rw [q] at x
    intro ρ1 H1 n1 S1 w1
    have T1 := S.next n1 S1
    refine ⟨ρ1, s, h1, T1, ?_⟩
    simp only [HL.R.bind] at x
    cases q2 : d1 s h1 with
    | ok xo h2 =>
      rw [q2] at x
      intro ρ2 H2 n2 S2 w2
      have T2 := T1.next n2 S2
      refine ⟨ρ2, s, h2, T2, ?_⟩
      simp only at x
      cases q3 : d2 s h2 with
      | ok y h3 =>
        rw [q3] at x
        intro ρ3 H3 n3 S3 w3
        have T3 := T2.next n3 S3
        simp only at x
        cases xo with
        | ref pp =>
          cases y with
          | int k =>
            simp only at x
            cases q4 : h3[pp]? with
            | none => rw [q4] at x; exact x.elim
            | some ob =>
              rw [q4] at x
              cases ob with
              | lst xs =>
                simp only at x
                cases q5 : HL.kU xs.length k with
                | none => rw [q5] at x; exact x.elim
                | some j =>
                  rw [q5] at x
                  have ob := S3.ob pp _ q4
                  have wv := (w1.mono n2.le).mono n3.le
                  refine ⟨ρ2 pp, xs.map (ay γ ρ3), k, j, rfl, rfl, ?_, by rw [List.length_map]; exact q5, ?_⟩
                  · rw [n3.ag pp w2]; exact ob
                  · have S4 : bP X.K γ ρ3 (h3.set pp (.lst (xs.set j v))) (upd H3 (ρ3 pp) (.lst ((xs.set j v).map (ay γ ρ3)))) := S3.chg q4 rfl rfl (by
                      intro y hy
                      rcases List.mem_or_eq_of_mem_set hy with z | z
                      · exact S3.wf pp _ q4 y z
                      · cases z; exact wv) aX
                    have z := x ρ3 _ (((n1.trans n2).trans n3).trans (cI.chg _ _ _ _)) S4 (by rw [List.length_set]; exact T3.ws)
                    rw [← T3.eq] at z
                    rw [n3.ag pp w2, dD w1 (n2.trans n3).ag, ← List.map_set]
                    exact z
              | _ => exact x.elim
          | _ => exact x.elim
        | _ => exact x.elim
      | ex => rw [q3] at x; exact x.elim
      | er => rw [q3] at x; exact x.elim
    | ex => rw [q2] at x; exact x.elim
    | er => rw [q2] at x; exact x.elim
  | ex => rw [q] at x; exact x.elim
  | er => rw [q] at x; exact x.elim
def eG (K : PySem.W.Frag) (γ : Str → Addr) (d : HL.DG) : TG := fun v σ H Q => ∃ ρ s h w, o7 K γ ρ s h σ H ∧ v = ay γ ρ w ∧ wf h.length w ∧ ∃ s', d w s h = some s' ∧ (qI h.length s' → Q (gB γ ρ s') H)
abbrev QG (γ : Str → Addr) (X : Cx) (e : Expr) (d : HL.DG) : Prop := PG X e (eG X.K γ d)
theorem PG.imp {X : Cx} {e : Expr} {t t' : TG} (h : PG X e t) (i : ∀ v σ H Q, t' v σ H Q → t v σ H Q) : PG X e t' := fun pins s σ H v u Q I r hw => h pins s σ H v u Q I r (i _ _ _ _ hw)
theorem xQ {i : Nat} {x : Str} (hN : X.N.Nodup) (hi : X.N[i]? = some x) (hx : xa X.env.scope x) (hf : X.fn x = true ∨ X.env.scope.names.lookup x = some .local := by first | exact .inl rfl | exact .inr rfl | assumption) : QG γ X (.Name x pos) (HL.d7 i) :=
  (sQ hN hi hx hf).imp fun v σ H Q ⟨ρ, s, h, w, S, e, ww, s', e', q⟩ => by
    cases e'
    have z := q (nR S.ws ww)
    rw [jD, ← S.eq, ← e] at z
    exact z
def oP : List Nat → zX
  | [] => DP
  | i :: is => zF (d7 i) (oP is)
theorem nD {γ : Str → Addr} {ρ : Nat → Addr} {H : Hp} {Q : St → Hp → Prop} : ∀ (is : List Nat) (xs : List W) (s : Sg), xs.length = is.length → Q (gB γ ρ (HL.j6 is xs s)) H → oP is (xs.map (ay γ ρ)) (gB γ ρ s) H Q
  | [], [], s, _, q => ⟨rfl, q⟩
  | i :: is, x :: xs, s, e, q => by
    refine ⟨_, _, rfl, ?_⟩
    show oP is _ ((gB γ ρ s).set i (some _)) H Q
    rw [← jD]
    exact nD is xs _ (by simpa using e) q
theorem ng {n : Nat} : ∀ (is : List Nat) (xs : List W) (s : Sg), qI n s → ja n xs → qI n (HL.j6 is xs s)
  | [], [], s, w, _ => w
  | [], _ :: _, s, w, _ => w
  | _ :: _, [], s, w, _ => w
  | i :: is, x :: xs, s, w, wx => ng is xs _ (nR w (wx x List.mem_cons_self)) fun y hy => wx y (List.mem_cons_of_mem _ hy)
theorem Ax {es : List Expr} {k : Nat} {is : List Nat} (hc : X.calm = true) (h : El X es (oP is)) (hn : (assignEach es X.env).length = is.length := by rfl) (hst : (assignEach es X.env).findIdx? (·.1) = none := by rfl) : QG γ X (.Tuple es k pos) (HL.jR is) :=
  (AH (n := is.length) hc h hn hst).imp fun v σ H Q ⟨ρ, s, h, w, S, e, ww, s', e', q⟩ => by
    unfold HL.jR at e'
    split at e'
    · rename_i xs q1
      split at e'
      · rename_i hl
        cases e'
        obtain ⟨i, rfl, sq, wx⟩ := lb S.hp q1
        refine ⟨ρ i, _, e, sq, by rw [List.length_map]; exact hl, ?_⟩
        rw [S.eq]
        exact nD is xs s hl (q (ng is xs s S.ws wx))
      · cases e'
    · cases e'
def FK (K : PySem.W.Frag) (γ : Str → Addr) (J : It) (t : HL.It) (h₀ : Sh) (ρ₀ : Nat → Addr) : Prop := ja h₀.length t.items ∧ ∀ ρ h H, cI h₀ ρ₀ h ρ → bP K γ ρ h H → t.stays h → ∀ i : Nat,
  (t.items.length ≤ i → J.stop i H) ∧ ∀ x, t.items[i]? = some x → J.go i H ∧ ∀ v H', J.yld i H v H' → H' = H ∧ v = ay γ ρ x
def eI (K : PySem.W.Frag) (γ : Str → Addr) (d : HL.DI) : TI := fun σ H R => ∃ ρ s h, o7 K γ ρ s h σ H ∧ (match d s h with
  | .ok t h1 => ∀ ρ1 H1 J, cI h ρ h1 ρ1 → bP K γ ρ1 h1 H1 → t.stays h1 → FK K γ J t h1 ρ1 → R J H1
  | _ => False)
abbrev QI (γ : Str → Addr) (X : Cx) (tg e : Expr) (d : HL.DI) : Prop := PI X tg e (eI X.K γ d)
theorem PI.imp {X : Cx} {tg e : Expr} {t t' : TI} (h : PI X tg e t) (i : ∀ σ H Q, t' σ H Q → t σ H Q) : PI X tg e t' := fun pins s σ H R I hw => h pins s σ H R I (i _ _ _ hw)
theorem tM {K : PySem.W.Frag} (lo : Int) (n : Nat) (h : Sh) (ρ : Nat → Addr) : FK K γ (EL lo n) (.fix (HL.cn lo n)) h ρ := by
  have len : (HL.cn lo n).length = n := by unfold HL.cn; rw [List.length_map, List.length_range]
  refine ⟨fun y hy => ?_, fun ρ2 h2 H2 n2 S2 st k => ⟨fun le => ?_, fun y hy => ?_⟩⟩
  · obtain ⟨k, _, rfl⟩ := List.mem_map.mp hy
    exact trivial
  · have le' : (HL.cn lo n).length ≤ k := le
    rw [len] at le'
    exact le'
  · have hy' : (HL.cn lo n)[k]? = some y := hy
    have hk : k < n := by
      have := (List.getElem?_eq_some_iff.mp hy').1
      rw [len] at this; exact this
    unfold HL.cn at hy'
    rw [List.getElem?_map, List.getElem?_range hk] at hy'
    cases hy'
    exact ⟨hk, fun v H' ⟨e, u⟩ => ⟨e, u⟩⟩
theorem kd {tg : Expr} {p : Pos} (hg : Gl X "range") (hm : X.mg "range" = none) (ha : QE γ X a da) (hs : starEach [a] X.env = [(false, eval a X.env)] := by rfl) : QI γ X tg (.Call (.Name "range" p) [a] [] pos) (HL.cc da) :=
  (uf hg hm (af ha ak hs) hs).imp fun σ H R ⟨ρ, s, h, S, x⟩ => by
  refine ⟨ρ, s, h, S, ?_⟩
  unfold HL.cc at x
  unfold HL.aa HL.aj
  cases q : da s h with
  | ok v h1 =>
    rw [q] at x
    simp only [HL.R.bind] at x
    intro ρ1 H1 n1 S1 w1
    cases v with
    | int j =>
      by_cases hj : -(2 ^ 62) ≤ j ∧ j < 2 ^ 62
      · simp only [if_pos hj] at x
        exact ⟨j, rfl, hj.1, hj.2, x ρ1 H1 _ n1 S1 trivial (tM _ _ _ _)⟩
      · simp only [if_neg hj] at x
    | _ => exact x.elim
  | ex => rw [q] at x; exact x.elim
  | er => rw [q] at x; exact x.elim
theorem BH {di : HL.DI} {g : HL.DG} {bd : DS} (D : kZ) (σ : St) (H : Hp) (x : eS X.K γ (HL.qU di g bd) D σ H) : Am (eI X.K γ di) (eG X.K γ g) (eS X.K γ bd) D σ H := by
  obtain ⟨ρ, s, h, S, x⟩ := x
  unfold HL.qU at x
  refine ⟨ρ, s, h, S, ?_⟩
  cases q : di s h with
  | ex => rw [q] at x; exact x.elim
  | er => rw [q] at x; exact x.elim
  | ok t h1 =>
    rw [q] at x
    simp only at x
    intro ρ1 H1 J n1 S1 st ⟨wi, wl⟩
    have T1 := S.next n1 S1
    let St' : Nat → St → Hp → Prop := fun i σ' H' => i ≤ t.items.length ∧ ∃ ρ2 s2 h2, o7 X.K γ ρ2 s2 h2 σ' H' ∧ cI h1 ρ1 h2 ρ2 ∧ t.stays h2 ∧ bU X.K γ ρ2 h2 (HL.qe t g bd (t.items.drop i) s2 h2) D
    refine ⟨fun i m σ' H' => m = t.items.length - i ∧ St' i σ' H', ⟨_, rfl, Nat.zero_le _, ρ1, s, h1, T1, cI.refl _ _, st, bU.later x n1⟩, ?_⟩
    rintro i m σ' H' ⟨rfl, hi, ρ2, s2, h2, T2, n2, st2, g2⟩
    obtain ⟨w1, w2⟩ := wl ρ2 h2 H' n2 T2.hp st2 i
    cases e : t.items[i]? with
    | none =>
      have hl : t.items.length ≤ i := List.getElem?_eq_none_iff.mp e
      rw [List.drop_eq_nil_of_le hl] at g2
      refine .inl ⟨w1 hl, ?_⟩
      have z := g2 ρ2 H' (cI.refl _ _) T2.hp T2.ws
      rw [T2.eq]; exact z
    | some y =>
      obtain ⟨hlt, ey⟩ := List.getElem?_eq_some_iff.mp e
      obtain ⟨go, yl⟩ := w2 y e
      refine .inr ⟨go, St' (i + 1), fun σ3 H3 z => ⟨_, by omega, rfl, z⟩, fun v H3 hv => ?_⟩
      obtain ⟨rfl, rfl⟩ := yl v H3 hv
      rw [List.drop_eq_getElem_cons hlt, ey] at g2
      unfold HL.qe at g2
      have wy : wf h2.length y := (wi y (List.mem_of_getElem? e)).mono n2.le
      cases q3 : g y s2 h2 with
      | none => rw [q3] at g2; exact g2.elim
      | some s3 =>
        rw [q3] at g2
        simp only at g2
        refine ⟨ρ2, s2, h2, y, T2, rfl, wy, s3, q3, fun w3 => ⟨ρ2, s3, h2, ⟨T2.hp, w3, rfl⟩, ?_⟩⟩
        cases q4 : bd s3 h2 with
        | nx s4 h4 =>
          rw [q4] at g2
          simp only at g2
          split at g2
          · rename_i st4
            exact fun ρ4 H4 n4 S4 w4 => ⟨hlt, ρ4, s4, h4, ⟨S4, w4, rfl⟩, n2.trans n4, st4, bU.later g2 n4⟩
          · exact g2.elim
        | ct s4 h4 =>
          rw [q4] at g2
          simp only at g2
          split at g2
          · rename_i st4
            exact fun ρ4 H4 n4 S4 w4 => ⟨hlt, ρ4, s4, h4, ⟨S4, w4, rfl⟩, n2.trans n4, st4, bU.later g2 n4⟩
          · exact g2.elim
        | bk s4 h4 => rw [q4] at g2; exact g2
        | rt v4 h4 => rw [q4] at g2; exact g2
        | ex => rw [q4] at g2; exact g2.elim
        | er => rw [q4] at g2; exact g2.elim
theorem Aw {tg iter : Expr} {body : List Stmt} {di : HL.DI} {g : HL.DG} {bd : DS} (hp : PassesOwn (model X.prog X.w) X.A X.env X.xe) (hc : X.calm = true) (hi : QI γ X tg iter di) (hg : QG γ X tg g) (hb : rL γ X body bd)
    (hs : ∀ x, foldedSetIterable iter X.env x = pure x := by intro _; rfl) : QS γ X (.For tg iter body [] pos) (HL.qU di g bd) := (vo hp hc hi hg hb hs).imp BH
end
theorem lO {γ : Str → Addr} {ρ : Nat → Addr} (N : List Str) (us : List W) : start N (us.map (ay γ ρ)) = gB γ ρ (HL.start N.length us) := by
  unfold start gB HL.start
  rw [List.map_append, List.map_map, List.map_map, List.map_replicate, List.length_map]
  rfl
theorem pk {n m : Nat} {us : List W} (w : ja n us) : qI n (HL.start m us) := fun x hx => by
  unfold HL.start at hx
  rcases List.mem_append.mp hx with z | z
  · obtain ⟨y, hy, e⟩ := List.mem_map.mp z
    cases e; exact w _ hy
  · cases (List.mem_replicate.mp z).2
theorem oQ {K : PySem.W.Frag} {γ : Str → Addr} {ρ : Nat → Addr} {h : Sh} {H : Hp} {N : List Str} {us : List W} {bd : DS} {Q : VK} {p : Nat} (S : bP K γ ρ h H) (w : ja h.length us) (x : kO K γ ρ h (HL.fnOf p N.length bd us h) Q) :
    eS K γ bd { nx := fun _ H' => Q .non H', rt := Q } (start N (us.map (ay γ ρ))) H := by
  refine ⟨ρ, HL.start N.length us, h, ⟨S, pk w, lO N us⟩, ?_⟩
  unfold HL.fnOf at x
  split at x
  · cases q : bd (HL.start N.length us) h with
    | nx s' h' => rw [q] at x; exact fun ρ1 H1 n1 S1 _ => x ρ1 H1 n1 S1 trivial
    | rt v h' => rw [q] at x; exact fun ρ1 H1 n1 S1 w1 => x ρ1 H1 n1 S1 w1
    | bk => rw [q] at x; exact x.elim
    | ct => rw [q] at x; exact x.elim
    | ex => rw [q] at x; exact x.elim
    | er => rw [q] at x; exact x.elim
  · exact x.elim
section
variable {P : Program} {w : World} {K : PySem.W.Frag} {mg : Str → Option Value} {base : Heap} {γ : Str → Addr}
theorem aV.qdef {x : Str} {st : Stmt} {N ps : List Str} {k p n : Nat} {bd : DS} (F : aV K mg x st) (S : aN N ps (ah st)) (hp : ps.length = p) (hn : N.length = n)
    (hb : ∀ (kV doc pm : Value) (an : Option Addr) (cdv ct : Value) (us : List Value), us.length = ps.length → bindArgs (PySem.W.fnOf x x (cg st) (bj st) (ah st) .none kV doc pm an cdv ct) ⟨us, []⟩ = pure (ps.zip us))
    (hbody : ∀ (f : Addr) (cdv : Value) (A : Around) (outer : List Env) (s : Shared) (H : Hp) (E : XK), bx k (A.deeper (envOfC x (ah st) s.heap.objs.size f cdv)) →
      rL γ (kn tL P w K mg base N x (ah st) f cdv A outer s H E).nox (bj st) bd) : j2 P w K mg base (k + 1) x ps (dY K γ p (HL.fnOf p n bd)) :=
  F.mk_def S hb (fun vs H Q E h => h.1.trans hp.symm) fun f cdv A outer s H vs Q E hr h => ⟨_, hbody f cdv A outer s H E hr, by
    obtain ⟨_, ρ, hh, us, S, wu, e, x⟩ := h
    rw [e]
    subst hn
    exact oQ S wu x⟩
end
end L2
namespace L2
open PySem PySem.Spec PyProof.Rows
open HL (W SO Sh Sg OR DE DT DA DS Fn)
section
variable {X : Cx} {K : PySem.W.Frag} {γ : Str → Addr}
theorem ot {c : Int → Int → Bool} {C : Int → Int → Prop} {f : Int → Int → Int} (hc : ∀ i j, c i j = true → C i j) : mJ K γ (rI C fun i j => .int (f i j)) (HL.kR c f) := by
  intro ρ h H x y Q S wx wy q
  cases x with
  | int i =>
    cases y with
    | int j =>
      unfold HL.kR at q
      simp only at q
      split at q
      · rename_i z; exact ⟨i, j, rfl, rfl, hc i j z, q trivial⟩
      · exact q.elim
    | _ => exact q.elim
  | _ => cases y <;> exact q.elim
theorem oJ {c : Int → Int → Bool} {f : Int → Int → Int} : dP (HL.kR c f) := by
  intro x y h
  unfold HL.kR
  cases x <;> cases y <;> first | rfl | (simp only; split <;> rfl)
theorem lZ {p : Int → Int → Bool} : mJ K γ (xk fun i j => .bl (p i j)) (HL.kS p) := by
  intro ρ h H x y Q S wx wy q
  cases x with
  | int i =>
    cases y with
    | int j => exact ⟨i, j, rfl, rfl, q trivial⟩
    | _ => exact q.elim
  | _ => cases y <;> exact q.elim
theorem iM {p : Int → Int → Bool} : Bo (HL.kS p) := by
  intro x y h
  unfold HL.kS
  cases x <;> cases y <;> first | exact .inl rfl | exact .inr ⟨_, rfl⟩
theorem Bo.nw {f : HL.O2} (b : Bo f) : dP f := fun x y h => by
  rcases b x y h with z | ⟨k, z⟩ <;> rw [z] <;> rfl
def zi (K : PySem.W.Frag) : R2 := fun x y H Q => (xk (fun i j => .int (i + j)) x y H Q) ∨ (∃ i j, x = .str i ∧ y = .str j ∧ i.length + j.length ≤ sizeLine ∧ Q (.str (i ++ j)) H) ∨ CQ x y H Q ∨ zh K x y H Q
theorem yn : iu X (binaryOp .Add) (zi X.K) := Bd.or (q8.or (Bc.or ym))
theorem A3 : mJ K γ (zi K) HL.bt := by
  intro ρ h H x y Q S wx wy q
  cases x with
  | int i =>
    cases y with
    | int j => exact .inl ⟨i, j, rfl, rfl, q trivial⟩
    | _ => exact q.elim
  | str i =>
    cases y with
    | str j =>
      unfold HL.bt at q
      simp only at q
      split at q
      · rename_i z; exact .inr (.inl ⟨i, j, rfl, rfl, cL z, q trivial⟩)
      · exact q.elim
    | _ => exact q.elim
  | ref i =>
    cases y with
    | ref j =>
      unfold HL.bt at q
      simp only at q
      split at q
      · rename_i xs ys e1 e2
        split at q
        · rename_i z
          refine .inr (.inr (.inl ⟨ρ i, ρ j, xs.map (ay γ ρ), ys.map (ay γ ρ), rfl, rfl, S.ob i _ e1, S.ob j _ e2, by rw [List.length_map, List.length_map]; exact cL z, fun p hp => ?_⟩))
          rw [← List.map_append]
          refine q ?_ p hp
          intro y hy
          rcases List.mem_append.mp hy with z | z
          · exact S.wf i _ e1 y z
          · exact S.wf j _ e2 y z
        · exact q.elim
      · rename_i xs ys e1 e2
        split at q
        · rename_i z
          refine .inr (.inr (.inr ⟨ρ i, ρ j, xs.map (ay γ ρ), ys.map (ay γ ρ), rfl, rfl, S.ob i _ e1, S.ob j _ e2, ?_, by rw [List.length_map, List.length_map]; exact cL z.1, fun ey => ?_, fun ey p hp => ?_⟩))
          · intro e; exact z.2 (List.map_eq_nil_iff.mp e)
          · rw [if_pos (List.map_eq_nil_iff.mp ey)] at q
            exact q wx
          · rw [if_neg (fun e => ey (by rw [e]; rfl))] at q
            rw [← List.map_append]
            refine q ?_ p hp
            intro y hy
            rcases List.mem_append.mp hy with z | z
            · exact S.wf i _ e1 y z
            · exact S.wf j _ e2 y z
        · exact q.elim
      · exact q.elim
    | _ => exact q.elim
  | _ => cases y <;> exact q.elim
theorem Bp : dP HL.bt := by
  intro x y h
  unfold HL.bt
  cases x <;> cases y <;> first | rfl | (simp only; repeat' (first | rfl | split))
def ze : R2 := fun x y H Q => rI xg (fun i j => .int (i * j)) x y H Q ∨ CM x y H Q
theorem yj : iu X (binaryOp .Mult) ze := A8.or A5
theorem yt {i j : Int} (h : HL.eQ i j = true) : xg i j := by
  unfold HL.eQ at h
  rcases (Bool.or_eq_true _ _).mp h with z | z
  · have := of_decide_eq_true z
    exact .inl ⟨by omega, by omega⟩
  · have := of_decide_eq_true z
    exact .inr ⟨by omega, by omega⟩
theorem AZ : mJ K γ ze HL.bK := by
  intro ρ h H x y Q S wx wy q
  cases x with
  | int i =>
    cases y with
    | int j =>
      unfold HL.bK at q
      simp only at q
      split at q
      · rename_i z; exact .inl ⟨i, j, rfl, rfl, yt z, q trivial⟩
      · exact q.elim
    | _ => exact q.elim
  | ref i =>
    cases y with
    | int k =>
      unfold HL.bK at q
      simp only at q
      split at q
      · rename_i xs e
        split at q
        · rename_i z
          refine .inr ⟨ρ i, k, xs.map (ay γ ρ), rfl, rfl, S.ob i _ e, by omega, by omega, by rw [List.length_map]; exact cL z.2.2, fun p hp => ?_⟩
          have e2 : (List.replicate k.toNat (xs.map (ay γ ρ))).flatten = ((List.replicate k.toNat xs).flatten).map (ay γ ρ) := by rw [List.map_flatten, List.map_replicate]
          first
            | rw [e2]; exact q (fun y hy => by
                obtain ⟨l, hl, hy⟩ := List.mem_flatten.mp hy
                rw [(List.mem_replicate.mp hl).2] at hy
                exact S.wf i _ e y hy) p hp
            | skip
        · exact q.elim
      · exact q.elim
    | _ => exact q.elim
  | _ => cases y <;> exact q.elim
theorem Bk : dP HL.bK := by
  intro x y h
  unfold HL.bK
  cases x <;> cases y <;> first | rfl | (simp only; repeat' (first | rfl | split))
theorem A1 : mJ K γ (fun x y H Q => y = .non ∧ Q (.bl (decide (x = .non))) H) HL.vO := by
  intro ρ h H x y Q S wx wy q
  unfold HL.vO at q
  cases y with
  | non => exact ⟨rfl, by have := q trivial; cases x <;> exact this⟩
  | _ => exact q.elim
theorem yh : mJ K γ (fun x y H Q => y = .non ∧ Q (.bl (!decide (x = .non))) H) HL.hJ := by
  intro ρ h H x y Q S wx wy q
  unfold HL.hJ at q
  cases y with
  | non => exact ⟨rfl, by have := q trivial; cases x <;> exact this⟩
  | _ => exact q.elim
theorem zM : Bo HL.vO := by
  intro x y h; unfold HL.vO; cases y <;> first | exact .inl rfl | exact .inr ⟨_, rfl⟩
theorem qz : Bo HL.hJ := by
  intro x y h; unfold HL.hJ; cases y <;> first | exact .inl rfl | exact .inr ⟨_, rfl⟩
theorem Dm : mJ K γ (Fz K) HL.o4 := by
  intro ρ h H x y Q S wx wy q
  unfold HL.o4 at q
  split at q
  · rename_i xs i e
    split at q
    · rename_i v ev
      obtain ⟨p, rfl, sq, w⟩ := nV S e
      unfold HL.BV at ev
      cases e2 : HL.kU xs.length i with
      | none => rw [e2] at ev; cases ev
      | some j =>
        rw [e2] at ev
        have ev' : xs[j]? = some v := ev
        have at_ : BW (xs.map (ay γ ρ)) i = some (ay γ ρ v) := by
          unfold BW
          rw [List.length_map, ← DB, e2]
          show (xs.map (ay γ ρ))[j]? = _
          rw [List.getElem?_map, ev']; rfl
        have qq := q (z9 w ev')
        rcases sq with sq | sq
        · exact .inl ⟨_, _, i, _, rfl, rfl, sq, at_, qq⟩
        · exact .inr (.inl ⟨_, _, i, _, rfl, rfl, sq, at_, qq⟩)
    · exact q.elim
  · exact q.elim
theorem Dx : dP HL.o4 := by
  intro x y h; unfold HL.o4; split
  · split <;> rfl
  · rfl
theorem Aa : FL K γ (rU fun i => .int (-i)) HL.uk := by
  intro ρ h H x Q S wx q
  cases x with
  | int i => exact ⟨i, rfl, q trivial⟩
  | _ => exact q.elim
theorem Bj (x : W) (h : Sh) : gO (HL.uk x h) = true := by cases x <;> rfl
theorem BO : y2 K γ (fun xs H Q => ∃ x n, xs = [x] ∧ Ep K x H n ∧ Q (.int n) H) HL.fb := by
  intro ρ h H xs Q S w q
  unfold HL.fb at q
  split at q
  · rename_i y
    split at q
    · rename_i z; exact ⟨_, _, rfl, ⟨cL z, rfl⟩, q trivial⟩
    · exact q.elim
  · rename_i x ne
    split at q
    · rename_i ys e
      obtain ⟨p, rfl, sq, w⟩ := nV S e
      have qq := q trivial
      refine ⟨_, ys.length, rfl, ?_, qq⟩
      rcases sq with sq | sq
      · exact .inl ⟨_, sq, by rw [List.length_map]⟩
      · exact .inr ⟨_, sq, by rw [List.length_map]⟩
    · exact q.elim
  · exact q.elim
theorem Bl (x : List W) (h : Sh) : gO (HL.fb x h) = true := by
  unfold HL.fb; split
  · split <;> rfl
  · split <;> rfl
  · rfl
theorem yN : y2 K γ zf HL.kM := by
  intro ρ h H xs Q S w q
  unfold HL.kM at q
  split at q
  · exact q trivial
  · exact q.elim
theorem yq (x : List W) (h : Sh) : gO (HL.kM x h) = true := by unfold HL.kM; split <;> rfl
theorem yO : y2 K γ (fun xs H Q => ∃ p ys, xs = [.ref p] ∧ (ji K H p ys ∨ iw K H p ys) ∧ ∀ l, H l = none → Q (.ref l) (upd H l (.lst ys))) HL.bQ := by
  intro ρ h H xs Q S w q
  unfold HL.bQ at q
  split at q
  · split at q
    · rename_i ys e
      obtain ⟨p, rfl, sq, w⟩ := nV S e
      exact ⟨_, _, rfl, sq, q w⟩
    · exact q.elim
  · exact q.elim
theorem vQ (x : List W) (h : Sh) : gO (HL.bQ x h) = true := by
  unfold HL.bQ; split
  · split <;> rfl
  · rfl
theorem wG : y2 K γ (fun xs H Q => ∃ p ys, xs = [.ref p] ∧ ((ji K H p ys ∧ ∀ l, H l = none → Q (.ref l) (upd H l (.tup ys))) ∨ (iw K H p ys ∧ Q (.ref p) H))) HL.bZ := by
  intro ρ h H xs Q S w q
  unfold HL.bZ at q
  split at q
  · rename_i x
    split at q
    · rename_i ys e
      obtain ⟨p, rfl, sq, w⟩ := jP S e
      exact ⟨_, _, rfl, .inl ⟨sq, q w⟩⟩
    · split at q
      · rename_i ys e
        obtain ⟨p, rfl, sq, _⟩ := lb S e
        exact ⟨_, _, rfl, .inr ⟨sq, q (w _ (List.mem_singleton.mpr rfl))⟩⟩
      · exact q.elim
  · exact q.elim
theorem um (x : List W) (h : Sh) : gO (HL.bZ x h) = true := by
  unfold HL.bZ; split
  · split
    · rfl
    · split <;> rfl
  · rfl
end
end L2
namespace L2
open PySem PySem.Spec PyProof.Rows
open HL (W SO Sh Sg OR DE DT DA DS Fn)
def s9 : V → PyData → Prop
  | .non, d => d = .none
  | .bl b, d => d = .bool b
  | .int i, d => d = .int i
  | .str x, d => d = .str x
  | _, _ => False
def kq (K : PySem.W.Frag) (H : Hp) : Nat → V → PyData → Prop
  | 0, x, d => s9 x d
  | n + 1, x, d => s9 x d ∨ ∃ a xs ds, x = .ref a ∧ Paired (kq K H n) xs ds ∧ (ji K H a xs ∧ d = .list ds ∨ iw K H a xs ∧ d = .tuple ds)
section
variable {X : Cx} {pins : List (Addr × Obj)} {σ : St} {H : Hp} {s : Shared}
theorem lP {x : V} {v : Value} {d : PyData} (h : s9 x d) (r : bg x v) : ∃ as, Reads s.heap v d as := by
  cases x with
  | non => cases h; cases r; exact ⟨_, .none⟩
  | bl b => cases h; cases r; exact ⟨_, .bool b⟩
  | int i => cases h; obtain ⟨t, rfl⟩ := r; exact ⟨_, .int i t⟩
  | str y => cases h; obtain ⟨t, rfl⟩ := r; exact ⟨_, .str y t⟩
  | _ => cases h
theorem jk {f : V → PyData → Prop} (hf : ∀ x v d, f x d → bg x v → ∃ as, Reads s.heap v d as) : ∀ {xs : List V} {us : List Value} {ds : List PyData}, aF xs us → Paired f xs ds → ∃ as, ReadsAll s.heap us ds as
  | _, _, _, .nil, .nil => ⟨_, .nil⟩
  | _, _, _, .cons r rs, .cons p ps => by
    obtain ⟨as, h1⟩ := hf _ _ _ p r
    obtain ⟨bs, h2⟩ := jk hf rs ps
    exact ⟨_, .cons h1 h2⟩
theorem ka (I : av X pins σ H s) : ∀ (n : Nat) (x : V) (v : Value) (d : PyData), kq X.K H n x d → bg x v → ∃ as, Reads s.heap v d as
  | 0, x, v, d, h, r => lP h r
  | n + 1, x, v, d, h, r => by
    rcases h with h | ⟨a, xs, ds, rfl, p, ⟨sq, rfl⟩ | ⟨sq, rfl⟩⟩
    · exact lP h r
    · cases r
      obtain ⟨its, rv, pl, _⟩ := I.list sq
      obtain ⟨o, m, ho, hc, _, hs⟩ := pl
      obtain ⟨as, ra⟩ := jk (ka I n) rv p
      exact ⟨_, .list ho hc hs ra⟩
    · cases r
      obtain ⟨its, rv, pl, _⟩ := I.tuple sq
      obtain ⟨o, ho, hc, m, hs⟩ := pl
      obtain ⟨as, ra⟩ := jk (ka I n) rv p
      exact ⟨_, .tuple ho hc hs ra⟩
def xN (K : PySem.W.Frag) (neg : Bool) : R2 := fun x y H Q => (xK x y = true ∧ Q (.bl (if neg then !decide (x = y) else decide (x = y))) H) ∨
  ∃ da db, kq K H 8 x da ∧ kq K H 8 y db ∧ SeqAt.shaped da = true ∧ SeqAt.shaped db = true ∧ Q (.bl (if neg then !PyData.eqv da db else PyData.eqv da db)) H
theorem Bb (hu : X.A.units + 64 < cLine) : iu X (compareOp .Eq) (xN X.K false) := by
  intro pins s σ H x y v u Q I rx ry h
  rcases h with ⟨sc, q⟩ | ⟨da, db, h1, h2, s1, s2, q⟩
  · exact Du pins s σ H x y v u Q I rx ry ⟨sc, q⟩
  · obtain ⟨as, r1⟩ := ka I 8 x v da h1 rx
    obtain ⟨bs, r2⟩ := ka I 8 y u db h2 ry
    exact PyProof.Rows.eq_dataH r1 r2 s1 s2 hu ⟨.bl _, H, I, rfl, q⟩
theorem A7 (hu : X.A.units + 64 < cLine) : iu X (compareOp .NotEq) (xN X.K true) := by
  intro pins s σ H x y v u Q I rx ry h
  rcases h with ⟨sc, q⟩ | ⟨da, db, h1, h2, s1, s2, q⟩
  · exact Dr pins s σ H x y v u Q I rx ry ⟨sc, q⟩
  · obtain ⟨as, r1⟩ := ka I 8 x v da h1 rx
    obtain ⟨bs, r2⟩ := ka I 8 y u db h2 ry
    exact PyProof.Rows.ne_dataH r1 r2 s1 s2 hu ⟨.bl _, H, I, rfl, q⟩
end
mutual
def bR : HL.D → PyData
  | .non => .none
  | .bl b => .bool b
  | .int i => .int i
  | .str s => .str s
  | .lst xs => .list (toPys xs)
  | .tup xs => .tuple (toPys xs)
def toPys : List HL.D → List PyData
  | [] => []
  | x :: xs => bR x :: toPys xs
end
mutual
theorem rV : ∀ a b : HL.D, PyData.eqv (bR a) (bR b) = HL.D.eq a b
  | .non, b => by cases b <;> simp only [bR, PyData.eqv, HL.D.eq]
  | .bl _, b => by cases b <;> simp only [bR, PyData.eqv, HL.D.eq]
  | .int _, b => by cases b <;> simp only [bR, PyData.eqv, HL.D.eq]
  | .str _, b => by cases b <;> simp only [bR, PyData.eqv, HL.D.eq]
  | .lst xs, b => by
    cases b with
    | lst ys => simp only [bR, PyData.eqv, HL.D.eq]; exact toPys_eq xs ys
    | _ => simp only [bR, PyData.eqv, HL.D.eq]
  | .tup xs, b => by
    cases b with
    | tup ys => simp only [bR, PyData.eqv, HL.D.eq]; exact toPys_eq xs ys
    | _ => simp only [bR, PyData.eqv, HL.D.eq]
theorem toPys_eq : ∀ xs ys : List HL.D, PyData.eqvAll (toPys xs) (toPys ys) = HL.D.eqs xs ys
  | [], ys => by cases ys <;> simp only [toPys, PyData.eqvAll, HL.D.eqs] <;> rfl
  | x :: xs, ys => by
    cases ys with
    | nil => simp only [toPys, PyData.eqvAll, HL.D.eqs]
    | cons y ys => simp only [toPys, PyData.eqvAll, HL.D.eqs]; rw [rV x y, toPys_eq xs ys]
end
section
variable {K : PySem.W.Frag} {γ : Str → Addr} {ρ : Nat → Addr} {h : Sh} {H : Hp}
theorem tx {n : Nat} {f : W → Option HL.D} (hf : ∀ x d, f x = some d → kq K H n (ay γ ρ x) (bR d) ∧ (bR d).canLay0 = true ∧ (bR d).depth ≤ n) :
    ∀ (xs : List W) (ds : List HL.D), HL.km f xs = some ds → Paired (kq K H n) (xs.map (ay γ ρ)) (toPys ds) ∧ PyData.canLayAll0 (toPys ds) = true ∧ PyData.depthAll (toPys ds) ≤ n
  | [], ds, e => by
    cases e
    exact ⟨.nil, by simp [toPys, PyData.canLayAll0], by simp [toPys, PyData.depthAll]⟩
  | x :: xs, ds, e => by
    unfold HL.km at e
    cases q : f x with
    | none => rw [q] at e; cases e
    | some d =>
      rw [q] at e
      cases q2 : HL.km f xs with
      | none => rw [q2] at e; cases e
      | some ds' =>
        rw [q2] at e
        cases e
        obtain ⟨a, b, c⟩ := hf x d q
        obtain ⟨a', b', c'⟩ := tx hf xs ds' q2
        refine ⟨?_, ?_, ?_⟩
        · simp only [toPys, List.map_cons]; exact .cons a a'
        · simp only [toPys, PyData.canLayAll0, b, b']; rfl
        · simp only [toPys, PyData.depthAll]; omega
theorem u7 {x : Str} (e : HL.EC x = true) : PyData.strOk x = true := by
  unfold HL.EC at e
  unfold PyData.strOk
  obtain ⟨_, e⟩ := (Bool.and_eq_true _ _).mp e
  rw [← Array.all_toList]
  exact e
theorem wB (S : bP K γ ρ h H) : ∀ (n : Nat) (x : W) (d : HL.D), HL.jS n h x = some d → kq K H n (ay γ ρ x) (bR d) ∧ (bR d).canLay0 = true ∧ (bR d).depth ≤ n := by
  have fl : ∀ (n : Nat) (x : V) (d : PyData), s9 x d → kq K H n x d := fun n x d f => by cases n <;> first | exact f | exact .inl f
  intro n
  induction n with
  | zero =>
    intro x d e
    cases x with
    | non => cases e; exact ⟨rfl, by simp [bR, PyData.canLay0], by simp [bR, PyData.depth]⟩
    | bl b => cases e; exact ⟨rfl, by simp [bR, PyData.canLay0], by simp [bR, PyData.depth]⟩
    | int i => cases e; exact ⟨rfl, by simp [bR, PyData.canLay0], by simp [bR, PyData.depth]⟩
    | str y =>
      unfold HL.jS at e
      split at e
      · rename_i ok; cases e; exact ⟨rfl, by simp [bR, PyData.canLay0, u7 ok], by simp [bR, PyData.depth]⟩
      · cases e
    | _ => cases e
  | succ n ih =>
    intro x d e
    cases x with
    | non => cases e; exact ⟨.inl rfl, by simp [bR, PyData.canLay0], by simp [bR, PyData.depth]⟩
    | bl b => cases e; exact ⟨.inl rfl, by simp [bR, PyData.canLay0], by simp [bR, PyData.depth]⟩
    | int i => cases e; exact ⟨.inl rfl, by simp [bR, PyData.canLay0], by simp [bR, PyData.depth]⟩
    | str y =>
      unfold HL.jS at e
      split at e
      · rename_i ok; cases e; exact ⟨.inl rfl, by simp [bR, PyData.canLay0, u7 ok], by simp [bR, PyData.depth]⟩
      · cases e
    | ref i =>
      unfold HL.jS at e
      cases q : h[i]? with
      | none => rw [q] at e; cases e
      | some o =>
        rw [q] at e
        have ob := S.ob i o q
        have go : ∀ xs ds, HL.km (HL.jS n h) xs = some ds → (ji K H (ρ i) (xs.map (ay γ ρ)) ∧ d = .lst ds ∨ iw K H (ρ i) (xs.map (ay γ ρ)) ∧ d = .tup ds) → kq K H (n + 1) (.ref (ρ i)) (bR d) ∧ (bR d).canLay0 = true ∧ (bR d).depth ≤ n + 1 := fun xs ds e2 sq => by
          obtain ⟨a, b, c⟩ := tx ih xs ds e2
          rcases sq with ⟨sq, rfl⟩ | ⟨sq, rfl⟩
          · exact ⟨.inr ⟨_, _, _, rfl, a, .inl ⟨sq, by simp only [bR]⟩⟩, by simp only [bR, PyData.canLay0, b], by simp only [bR, PyData.depth]; omega⟩
          · exact ⟨.inr ⟨_, _, _, rfl, a, .inr ⟨sq, by simp only [bR]⟩⟩, by simp only [bR, PyData.canLay0, b], by simp only [bR, PyData.depth]; omega⟩
        cases o with
        | lst xs =>
          simp only at e
          cases q2 : HL.km (HL.jS n h) xs with
          | none => rw [q2] at e; cases e
          | some ds => rw [q2] at e; cases e; exact go xs ds q2 (.inl ⟨ji.of ob, rfl⟩)
        | rol xs =>
          simp only at e
          cases q2 : HL.km (HL.jS n h) xs with
          | none => rw [q2] at e; cases e
          | some ds => rw [q2] at e; cases e; exact go xs ds q2 (.inl ⟨(show rK _ _ _ _ from ob).sq, rfl⟩)
        | tup xs =>
          simp only at e
          cases q2 : HL.km (HL.jS n h) xs with
          | none => rw [q2] at e; cases e
          | some ds => rw [q2] at e; cases e; exact go xs ds q2 (.inr ⟨ob, rfl⟩)
        | _ => cases e
    | _ => cases e
theorem wo {x y : W} {b : Bool} (S : bP K γ ρ h H) (e : HL.Ca x y h = some b) : (xK (ay γ ρ x) (ay γ ρ y) = true ∧ b = decide (ay γ ρ x = ay γ ρ y)) ∨
    ∃ da db, kq K H 8 (ay γ ρ x) da ∧ kq K H 8 (ay γ ρ y) db ∧ SeqAt.shaped da = true ∧ SeqAt.shaped db = true ∧ b = PyData.eqv da db := by
  have deep : (match HL.jS HL.j3 h x, HL.jS HL.j3 h y with | some a, some b => some (HL.D.eq a b) | _, _ => none) = some b → ∃ da db, kq K H 8 (ay γ ρ x) da ∧ kq K H 8 (ay γ ρ y) db ∧ SeqAt.shaped da = true ∧ SeqAt.shaped db = true ∧ b = PyData.eqv da db := fun e => by
    split at e
    · rename_i a c e1 e2
      cases e
      obtain ⟨d1, l1, p1⟩ := wB S 8 x a e1
      obtain ⟨d2, l2, p2⟩ := wB S 8 y c e2
      refine ⟨_, _, d1, d2, ?_, ?_, (rV a c).symm⟩
      · unfold SeqAt.shaped; rw [l1, Bool.true_and]; exact decide_eq_true (by omega)
      · unfold SeqAt.shaped; rw [l2, Bool.true_and]; exact decide_eq_true (by omega)
    · cases e
  unfold HL.Ca at e
  split at e
  · cases e; exact .inl ⟨rfl, by simp [ay]⟩
  · cases e; exact .inl ⟨rfl, by simp [ay]⟩
  · exact .inr (deep e)
theorem Dp : mJ K γ (xN K false) HL.vP := by
  intro ρ h H x y Q S wx wy q
  unfold HL.vP at q
  split at q
  · rename_i b e
    rcases wo S e with ⟨sc, e2⟩ | ⟨da, db, h1, h2, s1, s2, e2⟩
    · exact .inl ⟨sc, by have := q trivial; rw [e2] at this; exact this⟩
    · exact .inr ⟨da, db, h1, h2, s1, s2, by have := q trivial; rw [e2] at this; exact this⟩
  · exact q.elim
theorem Dk : mJ K γ (xN K true) HL.xl := by
  intro ρ h H x y Q S wx wy q
  unfold HL.xl at q
  split at q
  · rename_i b e
    rcases wo S e with ⟨sc, e2⟩ | ⟨da, db, h1, h2, s1, s2, e2⟩
    · exact .inl ⟨sc, by have := q trivial; rw [e2] at this; exact this⟩
    · exact .inr ⟨da, db, h1, h2, s1, s2, by have := q trivial; rw [e2] at this; exact this⟩
  · exact q.elim
theorem Ec : Bo HL.vP := by
  intro x y h; unfold HL.vP; split
  · exact .inr ⟨_, rfl⟩
  · exact .inl rfl
theorem zL : Bo HL.xl := by
  intro x y h; unfold HL.xl; split
  · exact .inr ⟨_, rfl⟩
  · exact .inl rfl
end
end L2
namespace L2
open PySem PySem.Spec PyProof.Rows
section
variable {X : Cx} {scope : Scope} {cs : List Str} {pins : List (Addr × Obj)} {σ : St} {H : Hp} {s : Shared} {fp : List Addr}
def rE (n : Nat) (js : List Nat) (σ : St) : St := List.replicate n none ++ js.map fun j => (σ[j]?).getD none
theorem qt {ts : List Str} {js : List Nat} {h₁ : Heap} {tk : Nat} {ob : Obj} (c : y6 X scope cs) (I : av X pins σ H s) (hf : ∀ b ∈ fp, iN X pins H b) (ho : ∀ b ∈ fp, ∃ o, s.heap.get? b = some o) (hj : js.map (fun j => X.N[j]?) = cs.map some)
    (hns : h₁.Ns s.heap.objs.size fun _ => none) (hsb : Heap.SameBut s.heap.objs.size (s.heap.push ob) h₁) : av (bu X scope cs (ts ++ cs) s H fp) [] (rE ts.length js σ) H { s with heap := h₁, toks := tk } := by
  have k : ∀ b o, s.heap.get? b = some o → h₁.get? b = some o := fun b o e => (hsb.2 b (Nat.ne_of_lt (Heap.lt_size e))).trans (Heap.get?_push_of_some _ e)
  refine ⟨tE c I hf ho _, rfl, I.bare, Un.kept k, ⟨_, hns, fun i y v e1 e2 vis => ?_⟩, fun y a h => ?_, I.hok.fresh (Nat.le_refl _), fun y a h => I.freeC y a (c.sub h).1, (fun p hp => by cases hp), I.hok.kept k, ?_⟩
  · by_cases hit : i < ts.length
    · have e2' : (List.replicate ts.length (none : Option V) ++ js.map fun j => (σ[j]?).getD none)[i]? = some (some v) := e2
      rw [List.getElem?_append_left (by rw [List.length_replicate]; exact hit), List.getElem?_replicate, if_pos hit] at e2'
      cases e2'
    · have e1' : (ts ++ cs)[i]? = some y := e1
      have e2' : (List.replicate ts.length (none : Option V) ++ js.map fun j => (σ[j]?).getD none)[i]? = some (some v) := e2
      rw [List.getElem?_append_right (by omega)] at e1'
      rw [List.getElem?_append_right (by rw [List.length_replicate]; omega), List.length_replicate] at e2'
      generalize i - ts.length = i at e1' e2'
      rw [List.getElem?_map] at e2'
      have hji := congrArg (fun l => l[i]?) hj
      simp only [List.getElem?_map] at hji
      rw [e1'] at hji
      cases q : js[i]? with
      | none => rw [q] at e2'; cases e2'
      | some j =>
        rw [q] at e2' hji
        have hN : X.N[j]? = some y := Option.some.inj hji
        have hv : (σ[j]?).getD none = some v := Option.some.inj e2'
        have hσ : σ[j]? = some (some v) := by
          cases q2 : σ[j]? with
          | none => rw [q2] at hv; cases hv
          | some z => rw [q2] at hv; rw [← hv]; rfl
        have hm : y ∈ cs := List.mem_of_getElem? e1'
        obtain ⟨m, hn, hl⟩ := I.loc
        obtain ⟨u, r, l⟩ := hl j y v hN hσ (.inr (.inl (c.kc y hm).1))
        refine ⟨u, r, .inr ⟨.inl (c.kc y hm).2, ?_⟩⟩
        rcases l with ⟨lk, _⟩ | ⟨_, a, ha, o, ho', hd⟩
        · have := (c.kc y hm).1
          have lk' : X.env.scope.names.lookup y = some .local := lk
          rw [this] at lk'
          cases lk'
        · refine ⟨a, ?_, o, k _ _ ho', hd⟩
          show (qy X cs).lookup y = some a
          rw [mD hm, ha]
          rfl
  · obtain ⟨v, o, ho', hd⟩ := I.cell y a (c.sub h).1
    exact ⟨v, o, k _ _ ho', hd⟩
  · have := congrArg List.length hj
    rw [List.length_map, List.length_map] at this
    show (rE ts.length js σ).length = (ts ++ cs).length
    unfold rE
    rw [List.length_append, List.length_append, List.length_replicate, List.length_map, this]
def yS (J : It) (g : TG) (tc : TT) (te : TE) (acc : Addr) (σ : St) (H : Hp) (Q : VK) : Prop := ∃ W : Nat → Nat → St → Hp → Prop, (∃ m, W 0 m σ (upd H acc (.lst []))) ∧ ∀ i m σ H, W i m σ H →
  (J.stop i H ∧ Q (.ref acc) H) ∨ (J.go i H ∧ ∃ Nx : St → Hp → Prop, (∀ σ' H', Nx σ' H' → ∃ m', m' < m ∧ W (i + 1) m' σ' H') ∧ ∀ x H', J.yld i H x H' → g x σ H' fun σ2 H2 => tc σ2 H2 fun k H3 => if k = true then te σ2 H3 fun v H4 => ∃ ys, H4 acc = some (.lst ys) ∧ ys.length < sizeLine ∧ Nx σ2 (upd H4 acc (.lst (ys ++ [v]))) else Nx σ2 H3)
def qS (wi : TI) (n : Nat) (js : List Nat) (g : TG) (tc : TT) (te : TE) : TE := fun σ H Q => wi σ H fun J H1 => ∀ acc, H1 acc = none → yS J g tc te acc (rE n js σ) H1 Q
def Ej (X : Cx) (ifs : List Expr) (tc : TT) : Prop := ∀ (pins : List (Addr × Obj)) (s : Shared) (σ : St) (H : Hp) (Q : Bool → Hp → Prop), av X pins σ H s → tc σ H Q →
  wpAny (model X.prog X.w) X.A (forIn ifs true fun c r => if r = true then do let ok ← isTrue c X.env (eval c X.env); pure (ForInStep.yield ok) else pure (ForInStep.yield r)) (TP X pins σ Q) X.xe s
theorem xV : Ej X [] (fun _ H Q => Q true H) := fun pins s σ H Q I h => wpAny_tests_nil ⟨H, I, h⟩
theorem uF {elt iter tg : Expr} {ifs : List Expr} {ts : List Str} {pos : Pos} {wi : TI} {js : List Nat} {g : TG} {tc : TT} {te : TE} (c : y6 X scope cs) (hc : X.calm = true) (hj : js.map (fun j => X.N[j]?) = cs.map some) (hi : PI X tg iter wi)
    (hg : ∀ s₀ H₀ ex, PG (bu X scope cs (ts ++ cs) s₀ H₀ ex) tg g) (he : ∀ s₀ H₀ ex, PE (bu X scope cs (ts ++ cs) s₀ H₀ ex) elt te)
    (ht : ∀ s₀ H₀ ex, Ej (bu X scope cs (ts ++ cs) s₀ H₀ ex) ifs tc)
    (hs : ∀ x, foldedSetIterable iter X.env x = pure x := by intro _; rfl) {use : Option (Value → Sem Unit)} {Qf : Value → Shared → Prop} {pos' : Pos} {Q : VK} (I : av X pins σ H s)
    (fin : ∀ (fp' : List Addr) (s3 : Shared) (H3 : Hp) (acc : Addr) (σ' : St) (H' : Hp) (s4 : Shared), av X pins σ H3 s3 → (∀ b ∈ fp', iN X pins H3 b) → av (bu X scope cs (ts ++ cs) s3 H3 fp') [] σ' H' s4 → Q (.ref acc) H' →
      compPost (model X.prog X.w) X.A X.xe use Qf (.ref acc) s3.heap.objs.size (.ok .next) s4) (h : qS wi ts.length js g tc te σ H Q) :
    wpAny (model X.prog X.w) X.A (comprehension (.ListComp elt [⟨tg, iter, ifs, 0⟩] scope pos) scope X.env pos' (newList []) false (eval iter X.env) use) Qf X.xe s := by
  refine wpAny_comprehension_free (use := use) rfl hs c.clos c.kind c.names (cE (hi pins s σ H _ I h) fun xv s1 h1 => cE h1 fun itv s2 h2 => ?_)
  obtain ⟨it, fp, tn, J, H2, e, I2, T, st2, f2, q⟩ := h2
  subst e
  have hn2 : H2 s2.heap.objs.size = none := I2.hok.fresh (Nat.le_refl _)
  obtain ⟨W, ⟨m0, w0⟩, turn⟩ := q _ hn2
  refine wpAny_newObj_type ?_ (by show 0 ≤ sizeLine; exact Nat.zero_le _)
  have I3 : av X pins σ (upd H2 s2.heap.objs.size (.lst [])) { s2 with heap := s2.heap.push { cls := .type "list", data := .seq ([] : List Value).toArray } } := av.lnew (t' := s2.toks) I2 .nil (Nat.zero_le _)
  have f3 : ∀ b ∈ fp, iN X pins (upd H2 s2.heap.objs.size (.lst [])) b := fun b hb => by
    obtain ⟨o, ho, _⟩ := T.obj _ _ st2 b hb
    exact ⟨by rw [aH (Nat.ne_of_lt (Heap.lt_size ho))]; exact (f2 b hb).1, (f2 b hb).2⟩
  have o3 : ∀ b ∈ fp, ∃ o, (s2.heap.push { cls := .type "list", data := .seq ([] : List Value).toArray }).get? b = some o := fun b hb => by
    obtain ⟨o, ho, _⟩ := T.obj _ _ st2 b hb
    exact ⟨o, Heap.get?_push_of_some _ ho⟩
  have st3 : tn 0 (s2.heap.push { cls := .type "list", data := .seq ([] : List Value).toArray }) := T.keep _ _ _ st2 fun b _ o ho => Heap.get?_push_of_some _ ho
  generalize hs3 : ({ s2 with heap := s2.heap.push { cls := .type "list", data := .seq ([] : List Value).toArray } } : Shared) = s3 at I3
  have hs3h : s3.heap = s2.heap.push { cls := .type "list", data := .seq ([] : List Value).toArray } := by rw [← hs3]
  rw [← hs3h] at o3 st3
  show wpAny _ _ (newFunctionEnv scope X.env.globals (qy X cs) [] X.env.qual none .none (some X.env)) _ _ _
  refine wpAny_newFunctionEnv c.nocell (by intro y hy; cases hy) (fun h₁ hns hsb => ?_) c.kind
  have hns' : h₁.Ns s3.heap.objs.size fun _ => none := hns
  have ok := tE c I3 f3 o3 (ts ++ cs)
  have I4 := qt (ts := ts) (tk := s3.toks) c I3 f3 o3 hj hns' hsb
  have st4 : tn 0 h₁ := T.keep _ _ _ st3 fun b hb o ho => (hsb.2 b (Nat.ne_of_lt (Heap.lt_size ho))).trans (Heap.get?_push_of_some _ ho)
  have stat : ∀ {H' : Hp}, (∀ b ∈ fp, H' b = none) → ∀ b ∈ fp, iN (bu X scope cs (ts ++ cs) s3 (upd H2 s2.heap.objs.size (.lst [])) fp) [] H' b := fun hn b hb => ⟨hn b hb, (ok.exf b hb).1, ok.exfs b hb, .inl hb, (ok.exf b hb).2, fun p hp => by cases hp⟩
  show codeAny _ _ (.compStart (.ListComp elt [⟨tg, iter, ifs, 0⟩] scope pos) 0 (.ref it) (.ref s2.heap.objs.size) (bu X scope cs (ts ++ cs) s3 (upd H2 s2.heap.objs.size (.lst [])) fp).env) (compPost (model X.prog X.w) X.A X.xe use Qf (.ref s2.heap.objs.size) s3.heap.objs.size) { s3 with heap := h₁, toks := s3.toks }
  have loop : codeAny (model X.prog X.w) X.A (.compLoop (.ListComp elt [⟨tg, iter, ifs, 0⟩] scope pos) 0 (.ref it) (.ref s2.heap.objs.size) (bu X scope cs (ts ++ cs) s3 (upd H2 s2.heap.objs.size (.lst [])) fp).env) (compPost (model X.prog X.w) X.A X.xe use Qf (.ref s2.heap.objs.size) s3.heap.objs.size) { s3 with heap := h₁, toks := s3.toks } := by
    refine codeAny_loop rfl (fun n s' => ∃ i σ' H', av (bu X scope cs (ts ++ cs) s3 (upd H2 s2.heap.objs.size (.lst [])) fp) [] σ' H' s' ∧ tn i s'.heap ∧ (∀ b ∈ fp, H' b = none) ∧ W i n σ' H') (fun n s' hI => ?_) m0 ⟨0, _, _, I4, st4, fun b hb => (f3 b hb).1, w0⟩
    obtain ⟨i, σ', H', J', st', fr', w'⟩ := hI
    show wpAny _ _ ((compTurn (.ListComp elt [⟨tg, iter, ifs, 0⟩] scope pos) 0 (.ref it) (.ref s2.heap.objs.size) (bu X scope cs (ts ++ cs) s3 (upd H2 s2.heap.objs.size (.lst [])) fp).env).onRaise (fun xx => do noteFrame xx (bu X scope cs (ts ++ cs) s3 (upd H2 s2.heap.objs.size (.lst [])) fp).env; theTreesLotGoes xx)) _ _ s'
    refine wpAny_noted ?_
    rw [compTurn_list]
    refine wpAny_bind (wpAny_standAt (wpAny_bind ?_))
    rcases turn i n σ' H' w' with ⟨stop, qn⟩ | ⟨go, Nx, hN, step⟩
    · refine cE (T.done (bu X scope cs (ts ++ cs) s3 (upd H2 s2.heap.objs.size (.lst [])) fp) rfl rfl rfl hc i [] s' σ' H' _ J' (stat fr') st' stop) fun r s4 ⟨hr, J4⟩ => ?_
      subst hr
      exact wpAny_pure (fin _ _ _ _ _ _ _ I3 f3 J4 qn)
    · refine cE (T.item (bu X scope cs (ts ++ cs) s3 (upd H2 s2.heap.objs.size (.lst [])) fp) rfl rfl rfl hc i [] s' σ' H' _ J' (stat fr') st' go) fun r s4 ⟨u, hr, h4⟩ => ?_
      subst hr
      refine wpAny_bind (cE h4 fun _ s5 ⟨xv, H5, J5, r5, y5, st5, fr5⟩ => ?_)
      have J5' := J5.pinned (stat fr5) (T.obj _ _ st5)
      refine wpAny_bind (wpAny_mono (hg _ _ _ _ s5 σ' H5 xv u _ J5' r5 (step xv H5 y5)) (fun _ s6 ⟨σ6, H6, J6, q6⟩ => ?_) fun _ _ z => z.elim)
      have fin2 : ∀ {σ8 : St} {H8 : Hp} {s8 : Shared}, av (bu X scope cs (ts ++ cs) s3 (upd H2 s2.heap.objs.size (.lst [])) fp) ([] ++ lX fp s5.heap) σ8 H8 s8 → Nx σ8 H8 → ∃ m', m' < n ∧ ∃ i σ' H', av (bu X scope cs (ts ++ cs) s3 (upd H2 s2.heap.objs.size (.lst [])) fp) [] σ' H' s8 ∧ tn i s8.heap ∧ (∀ b ∈ fp, H' b = none) ∧ W i m' σ' H' := fun {σ8 H8 s8} J8 n8 => by
        obtain ⟨m', hm, w8⟩ := hN σ8 H8 n8
        refine ⟨m', hm, i + 1, σ8, H8, J8.unpinned, T.keep _ _ _ st5 fun b hb o e => (J8.pin (b, o) (List.mem_append_right _ (List.mem_append_right _ (hU hb e)))).1, fun b hb => ?_, w8⟩
        obtain ⟨o, e, d⟩ := T.obj _ _ st5 b hb
        exact (J8.pin (b, o) (List.mem_append_right _ (List.mem_append_right _ (hU hb e)))).2.1
      refine wpAny_bind (wpAny_mono (ht _ _ _ _ s6 σ6 H6 _ J6 q6) (fun kb s6' ⟨H6', J6', q6'⟩ => ?_) fun _ _ z => z.elim)
      cases kb with
      | false =>
        have n6 : Nx σ6 H6' := q6'
        exact wpAny_pure ⟨rfl, fin2 J6' n6⟩
      | true =>
        have q7 : te σ6 H6' _ := q6'
        refine wpAny_bind (wpAny_bind (wpAny_mono (he _ _ _ _ s6' σ6 H6' _ J6' q7) (fun v s7 ⟨vv, H7, J7, r7, ys, e7, l7, n7⟩ => ?_) fun _ _ z => z.elim))
        refine wpAny_bind (wpAny_mono (nB (X := (bu X scope cs (ts ++ cs) s3 (upd H2 s2.heap.objs.size (.lst [])) fp)) _ s7 σ6 H7 (.ref s2.heap.objs.size) [vv] (.ref s2.heap.objs.size) [v] (fun _ H8 => Nx σ6 H8) J7 rfl (.cons r7 .nil) ⟨_, ys, vv, rfl, rfl, e7, l7, n7⟩) (fun _ s8 ⟨_, H8, J8, _, n8⟩ => ?_) fun _ _ z => z.elim)
        exact wpAny_pure (wpAny_pure ⟨rfl, fin2 J8 n8⟩)
  exact codeAny_compStart_list loop (T.self _ 0 _ _ _ st4 loop)
theorem vG {elt iter tg : Expr} {ifs : List Expr} {ts : List Str} {pos : Pos} {wi : TI} {js : List Nat} {g : TG} {tc : TT} {te : TE} (c : y6 X scope cs) (hc : X.calm = true) (hj : js.map (fun j => X.N[j]?) = cs.map some) (hi : PI X tg iter wi)
    (hg : ∀ s₀ H₀ ex, PG (bu X scope cs (ts ++ cs) s₀ H₀ ex) tg g) (he : ∀ s₀ H₀ ex, PE (bu X scope cs (ts ++ cs) s₀ H₀ ex) elt te)
    (ht : ∀ s₀ H₀ ex, Ej (bu X scope cs (ts ++ cs) s₀ H₀ ex) ifs tc)
    (hs : ∀ x, foldedSetIterable iter X.env x = pure x := by intro _; rfl) : PE X (.ListComp elt [⟨tg, iter, ifs, 0⟩] scope pos) (qS wi ts.length js g tc te) := by
  intro pins s σ H Q I h
  rw [eval_ListComp]
  refine uF c hc hj hi hg he ht hs I (fun fp' s3 H3 acc σ' H' s4 I3 f3 J4 qn => ?_) h
  obtain ⟨m, hn, _⟩ := J4.loc
  exact ⟨m, hn, fun h' hs' => ⟨.ref acc, H', wH c I3 f3 J4 hs', rfl, qn⟩⟩
end
end L2
namespace L2
open PySem PySem.Spec PyProof.Rows
open HL (W SO Sh Sg OR DE DT DA DS Fn)
section
variable {X : Cx} {γ : Str → Addr} {a b c e : Expr} {da db dc de : DE} {pos : Pos}
theorem vX {n : Nat} (h : n < HL.gT) : n < sizeLine := by
  have : HL.gT = 100000 := rfl
  rw [sizeLine_eq]; omega
theorem tX {t : HL.It} {h : Sh} {o : SO} (st : t.stays h) : t.stays (h ++ [o]) := by
  have key : ∀ (i : Nat) (u : SO), h[i]? = some u → (h ++ [o])[i]? = some u := fun i u e => by
    rw [List.getElem?_append_left (List.getElem?_eq_some_iff.mp e).1]; exact e
  cases t with
  | fix xs => trivial
  | lst i xs =>
    have st' : HL.lstW h (.ref i) = some xs := st
    show HL.lstW _ (.ref i) = some xs
    unfold HL.lstW at st' ⊢
    simp only at st' ⊢
    cases q : h[i]? with
    | none => rw [q] at st'; cases st'
    | some u => rw [key i u q]; rw [q] at st'; exact st'
  | tup i xs =>
    have st' : HL.eL h (.ref i) = some xs := st
    show HL.eL _ (.ref i) = some xs
    unfold HL.eL at st' ⊢
    simp only at st' ⊢
    cases q : h[i]? with
    | none => rw [q] at st'; cases st'
    | some u => rw [key i u q]; rw [q] at st'; exact st'
theorem tW {t : HL.It} {h : Sh} {k : Nat} {ys zs : List W} (st : t.stays h) (e : h[k]? = some (.lst ys)) (ne : ∀ i xs, t = .lst i xs → i ≠ k) : t.stays (h.set k (.lst zs)) := by
  cases t with
  | fix xs => trivial
  | lst i xs =>
    have st' : HL.lstW h (.ref i) = some xs := st
    show HL.lstW _ (.ref i) = some xs
    unfold HL.lstW at st' ⊢
    simp only at st' ⊢
    rw [List.getElem?_set_ne (fun z => ne i xs rfl z.symm)]
    exact st'
  | tup i xs =>
    have st' : HL.eL h (.ref i) = some xs := st
    show HL.eL _ (.ref i) = some xs
    unfold HL.eL at st' ⊢
    have hne : k ≠ i := fun z => by
      subst z
      simp only [e] at st'
      cases st'
    simp only at st' ⊢
    rw [List.getElem?_set_ne hne]
    exact st'
theorem yT {ρ : Nat → Addr} (n : Nat) (js : List Nat) (s : Sg) : rE n js (gB γ ρ s) = gB γ ρ (HL.mE n js s) := by
  unfold rE gB HL.mE
  rw [List.map_append, List.map_replicate, List.map_map]
  congr 1
  refine List.map_congr_left fun j _ => ?_
  simp only [Function.comp, List.getElem?_map]
  cases s[j]? with
  | none => rfl
  | some z => rfl
theorem uP {m n : Nat} {js : List Nat} {s : Sg} (w : qI m s) : qI m (HL.mE n js s) := fun x hx => by
  unfold HL.mE at hx
  rcases List.mem_append.mp hx with z | z
  · cases (List.mem_replicate.mp z).2
  · obtain ⟨j, _, e⟩ := List.mem_map.mp z
    cases q : s[j]? with
    | none => rw [q] at e; cases e
    | some y =>
      rw [q] at e
      have e' : y = some x := e
      subst e'
      exact w x (List.mem_of_getElem? q)
theorem yQ {di : HL.DI} {g : HL.DG} {dt : DT} {n : Nat} {js : List Nat} (σ : St) (H : Hp) (Q : VK) (x : eE X.K γ (HL.iJ di n js g dt de) σ H Q) : qS (eI X.K γ di) n js (eG X.K γ g) (eT X.K γ dt) (eE X.K γ de) σ H Q := by
  obtain ⟨ρ, s, h, S, x⟩ := x
  unfold HL.iJ at x
  refine ⟨ρ, s, h, S, ?_⟩
  cases q : di s h with
  | ex => rw [q] at x; exact x.elim
  | er => rw [q] at x; exact x.elim
  | ok t h1 =>
    rw [q] at x
    simp only [HL.R.bind] at x
    intro ρ1 H1 J n1 S1 st ⟨wi, wl⟩ acc hacc
    have T1 := S.next n1 S1
    have S2 : bP X.K γ (mH ρ1 h1.length acc) (h1 ++ [.lst []]) (upd H1 acc (.lst [])) := S1.push (o := .lst []) (fun y hy => by cases hy) (oZ.upd _ hacc) hacc aX
    have n2 := cI.push h1 ρ1 (.lst []) acc
    generalize hρ : mH ρ1 h1.length acc = ρ2 at S2 n2
    have at2 : ρ2 h1.length = acc := by rw [← hρ]; exact eg _ _ _
    generalize hh : h1 ++ [.lst []] = h2 at S2 n2 x
    have lt2 : h1.length < h2.length := by rw [← hh]; simp
    have st2 : t.stays h2 := by rw [← hh]; exact tX st
    have x2 := aT.later x (n1.trans n2)
    have T2 : o7 X.K γ ρ2 (HL.mE n js s) h2 (rE n js σ) (upd H1 acc (.lst [])) := ⟨S2, uP ((S.ws.mono n1.le).mono n2.le), by rw [S.eq, yT]; exact sk (uP S.ws) (n1.trans n2).ag⟩
    let St' : Nat → St → Hp → Prop := fun i σ' H' => i ≤ t.items.length ∧ ∃ ρ3 s3 h3, o7 X.K γ ρ3 s3 h3 σ' H' ∧ cI h2 ρ2 h3 ρ3 ∧ t.stays h3 ∧ kO X.K γ ρ3 h3 (HL.jg t g dt de h1.length (t.items.drop i) s3 h3) Q
    refine ⟨fun i m σ' H' => m = t.items.length - i ∧ St' i σ' H', ⟨_, rfl, Nat.zero_le _, ρ2, _, h2, T2, cI.refl _ _, st2, x2⟩, ?_⟩
    rintro i m σ' H' ⟨rfl, hi, ρ3, s3, h3, T3, n3, st3, g3⟩
    obtain ⟨w1, w2⟩ := wl ρ3 h3 H' (n2.trans n3) T3.hp st3 i
    cases e : t.items[i]? with
    | none =>
      have hl : t.items.length ≤ i := List.getElem?_eq_none_iff.mp e
      rw [List.drop_eq_nil_of_le hl] at g3
      refine .inl ⟨w1 hl, ?_⟩
      have z := g3 ρ3 H' (cI.refl _ _) T3.hp (Nat.lt_of_lt_of_le lt2 n3.le)
      rw [show ay γ ρ3 (.ref h1.length) = V.ref acc from congrArg V.ref ((n3.ag _ lt2).symm.trans at2)] at z
      exact z
    | some y =>
      obtain ⟨hlt, ey⟩ := List.getElem?_eq_some_iff.mp e
      obtain ⟨go, yl⟩ := w2 y e
      refine .inr ⟨go, St' (i + 1), fun σ3 H3 z => ⟨_, by omega, rfl, z⟩, fun v H3 hv => ?_⟩
      obtain ⟨rfl, rfl⟩ := yl v H3 hv
      rw [List.drop_eq_getElem_cons hlt, ey] at g3
      unfold HL.jg at g3
      have wy : wf h3.length y := ((wi y (List.mem_of_getElem? e)).mono n2.le).mono n3.le
      cases q3 : g y s3 h3 with
      | none => rw [q3] at g3; exact g3.elim
      | some s4 =>
        rw [q3] at g3
        simp only at g3
        refine ⟨ρ3, s3, h3, y, T3, rfl, wy, s4, q3, fun w4 => ?_⟩
        have T4 : o7 X.K γ ρ3 s4 h3 (gB γ ρ3 s4) H3 := ⟨T3.hp, w4, rfl⟩
        refine ⟨ρ3, s4, h3, T4, aT.bind g3 fun kb h5 ρ5 H5 _ n5 S5 _ g5 => ?_⟩
        have T5 := T4.next n5 S5
        cases kb with
        | false =>
          simp only [Bool.false_eq_true, if_false] at g5 ⊢
          split at g5
          · rename_i st5
            exact ⟨hlt, ρ5, s4, h5, T5, n3.trans n5, st5, g5⟩
          · exact g5.elim
        | true =>
          simp only [if_true] at g5 ⊢
          refine ⟨ρ5, s4, h5, T5, aT.bind g5 fun v h6 ρ6 H6 _ n6 S6 w6 g6 => ?_⟩
          have T6 := T5.next n6 S6
          have at6 : ρ6 h1.length = acc := ((((n3.trans n5).trans n6).ag _ lt2).symm).trans at2
          cases q6 : h6[h1.length]? with
          | none => rw [q6] at g6; exact g6.elim
          | some ob =>
            rw [q6] at g6
            cases ob with
            | lst ys =>
              simp only at g6
              split at g6
              · rename_i cond
                have ob6 : H6 (ρ6 h1.length) = some (.lst (ys.map (ay γ ρ6))) := S6.ob _ _ q6
                rw [at6] at ob6
                refine ⟨_, ob6, by rw [List.length_map]; exact vX cond.1, ?_⟩
                have S7 := S6.chg (u := .lst (ys ++ [v])) (v := .lst ((ys ++ [v]).map (ay γ ρ6))) q6 rfl rfl (by
                  intro z hz
                  rcases List.mem_append.mp hz with z1 | z1
                  · exact S6.wf _ _ q6 z z1
                  · rw [List.mem_singleton.mp z1]; exact w6) aX
                rw [at6, List.map_append] at S7
                refine ⟨hlt, ρ6, s4, _, ⟨S7, by rw [List.length_set]; exact T6.ws, T6.eq⟩, ((n3.trans n5).trans n6).trans (cI.chg _ _ _ _), ?_, aT.later g6 (cI.chg _ _ _ _)⟩
                refine tW cond.2.1 q6 fun j xs ej z => ?_
                subst ej
                have st0 : HL.lstW h1 (.ref j) = some xs := st
                rw [z] at st0
                unfold HL.lstW at st0
                simp only [List.getElem?_eq_none_iff.mpr (Nat.le_refl h1.length)] at st0
                cases st0
              · exact g6.elim
            | _ => exact g6.elim
theorem su {X : Cx} {γ : Str → Addr} : Ej X [] (eT X.K γ HL.kr) := fun pins s σ H Q I ⟨ρ, t, h, S, x⟩ => xV pins s σ H Q I (x ρ H (cI.refl _ _) S.hp trivial)
theorem vg {elt iter tg : Expr} {ifs : List Expr} {scope : Scope} {cs ts : List Str} {js : List Nat} {di : HL.DI} {g : HL.DG} {dt : DT} (c : y6 X scope cs) (hc : X.calm = true) (hj : js.map (fun j => X.N[j]?) = cs.map some) (hi : QI γ X tg iter di)
    (hg : ∀ s₀ H₀ ex, QG γ (bu X scope cs (ts ++ cs) s₀ H₀ ex) tg g) (ht : ∀ s₀ H₀ ex, Ej (bu X scope cs (ts ++ cs) s₀ H₀ ex) ifs (eT X.K γ dt)) (he : ∀ s₀ H₀ ex, QE γ (bu X scope cs (ts ++ cs) s₀ H₀ ex) elt de)
    (hs : ∀ x, foldedSetIterable iter X.env x = pure x := by intro _; rfl) : QE γ X (.ListComp elt [⟨tg, iter, ifs, 0⟩] scope pos) (HL.iJ di ts.length js g dt de) :=
  (vG (ts := ts) c hc hj hi hg he ht hs).imp yQ
end
end L2
namespace L2
open PySem PySem.Spec PyProof.Rows
open HL (W SO Sh Sg OR DE DT DA DS Fn)
section
variable {X : Cx} {K : PySem.W.Frag} {γ : Str → Addr}
theorem wQ {vs : List Value} {bs : List Bool} (r : aF (bs.map V.bl) vs) : PyProof.Rows.LSm.BoolsAre vs bs := by
  induction bs generalizing vs with
  | nil => cases r; exact .nil
  | cons b bs ih =>
    cases r with
    | cons r1 r2 => cases r1; exact .cons b (ih r2)
def CS (K : PySem.W.Frag) : List V → Hp → VK → Prop := fun xs H Q => ∃ (a : Addr) (bs : List Bool), xs = [.ref a] ∧ ji K H a (bs.map V.bl) ∧ Q (.bl (bs.all id)) H
theorem wM (hc : X.calm = true) : iX X (.builtin "all") (CS X.K) := by
  intro pins s σ H xs us Q I r h
  obtain ⟨a, bs, rfl, hq, q⟩ := h
  obtain ⟨u, rfl, ru⟩ := rS r
  cases ru
  obtain ⟨its, rv, p, _⟩ := I.list hq
  have hb := wQ rv
  have hl := p.isList
  have hlt : a < s.heap.objs.size := by obtain ⟨_, e, _⟩ := hl; exact Heap.lt_size e
  refine call_all_walk (wpAny_pyIter_list hl ?_)
  refine ⟨s.heap.objs.size, [s.heap.objs.size, a], [s.heap.objs.size], its.toArray.size, _, _, fun i => (bs[i]?).getD true, rfl, Walks.list (A := X.A.in1) (I.ok.hd hc) _ a (Nat.ne_of_lt hlt) its.toArray,
    ⟨⟨_, Heap.get?_push_size _ rfl, rfl, rfl⟩, hl.push _⟩, fun i v s' Q' E' hP hQ => ?_, fun h' tk hk => ?_⟩
  · obtain ⟨b, e, rfl⟩ := hb.get i v (by simpa using hP)
    simp only [e, Option.getD_some] at hQ
    exact wpAny_truthy_bool hQ
  · have e : ((List.range its.toArray.size).all fun i => (bs[i]?).getD true) = bs.all id := by
      rw [List.size_toArray, hb.length]; exact LSm.range_all bs
    rw [e]
    exact ⟨.bl _, H, I.kept (LSm.kept_iter hk), rfl, q⟩
theorem wY : ∀ (ys : List W), (ys.all fun y => (match y with | .bl _ => true | _ => false)) = true → ∃ bs : List Bool, ys = bs.map W.bl
  | [], _ => ⟨[], rfl⟩
  | y :: ys, h => by
    rw [List.all_cons, Bool.and_eq_true] at h
    obtain ⟨bs, e⟩ := wY ys h.2
    cases y with
    | bl b => exact ⟨b :: bs, by rw [e]; rfl⟩
    | _ => exact absurd h.1 Bool.false_ne_true
theorem BQ : y2 K γ (CS K) HL.qB := by
  intro ρ h H xs Q S w q
  unfold HL.qB at q
  split at q
  · split at q
    · rename_i ys e
      split at q
      · rename_i hb
        obtain ⟨bs, rfl⟩ := wY ys hb
        obtain ⟨p, rfl, sq, w⟩ := jP S e
        refine ⟨_, bs, rfl, ?_, ?_⟩
        · rw [List.map_map] at sq; exact sq
        · have := q trivial
          have e2 : (bs.map W.bl).all (fun y => y == .bl true) = bs.all id := by
            clear this q sq w e hb
            induction bs with
            | nil => rfl
            | cons b bs ih => rw [List.map_cons, List.all_cons, List.all_cons, ih]; cases b <;> rfl
          rw [e2] at this
          exact this
      · exact q.elim
    · exact q.elim
  · exact q.elim
theorem Bn (x : List W) (h : Sh) : gO (HL.qB x h) = true := by
  unfold HL.qB; split
  · split
    · split <;> rfl
    · rfl
  · rfl
def FT (K : PySem.W.Frag) (γ : Str → Addr) (r : V → List V → Hp → VK → Prop) (f : W → List W → Sh → HL.R W) : Prop := ∀ ρ h H x xs Q, bP K γ ρ h H → wf h.length x → ja h.length xs → kO K γ ρ h (f x xs h) Q → r (ay γ ρ x) (xs.map (ay γ ρ)) H Q
def FN (K : PySem.W.Frag) (γ : Str → Addr) (T : String) (t : W → Sh → Bool) : Prop := ∀ ρ h H x, bP K γ ρ h H → t x h = true → EM K T (ay γ ρ x) H
variable {e o : Expr} {es : List Expr} {d : DA} {de : DE} {name : Str} {apos cpos : Pos} {T id : String} {r : V → List V → Hp → VK → Prop} {f : W → List W → Sh → HL.R W} {t : W → Sh → Bool}
theorem Fc (pa : PlainAttrs T) (slot : Slot T name id) (hty : typeOf (.builtin id) = pure (.type "method_descriptor")) (hm : Fq X id r) (ms : FT X.K γ r f) (ts : FN X.K γ T t) (ho : QE γ X o de) (ha : QA γ X (e :: es) d)
    (hbase : attributeBase o name X.env (eval o X.env) = eval o X.env := by rfl)
    (hfew : ((backTo cpos (starEach (e :: es) X.env)).all (fun x => !x.1) && (backToKw cpos (keywordEach [] X.env)).all (fun x => x.1.isSome)
      && decide ((e :: es).length + ([] : List Keyword).length + (if ([] : List Keyword).isEmpty then 0 else 1) < 30)) = true := by rfl)
    (hline : (apos.endLine == cpos.line) = true := by rfl) (hs : starEach (e :: es) X.env = (false, eval e X.env) :: starEach es X.env := by rfl) (hplain : (backTo cpos (starEach es X.env)).any (·.1) = false := by rfl) :
    QE γ X (.Call (.Attribute o name apos) (e :: es) [] cpos) (HL.Cd t f de d) := (Dd pa slot hty hm ho ha hbase hfew hline hs hplain).imp fun σ H Q x => by
  obtain ⟨ρ, s, h, S, x⟩ := x
  refine ⟨ρ, s, h, S, aT.bind x fun v h1 ρ1 H1 _ n1 S1 w1 x1 => ?_⟩
  split at x1
  · rename_i ht
    refine ⟨ts ρ1 h1 H1 v S1 ht, ρ1, s, h1, S.next n1 S1, aT.bind x1 fun us h2 ρ2 H2 _ n2 S2 w2 x2 => ?_⟩
    rw [dD w1 n2.ag]
    exact ms ρ2 h2 H2 v us Q S2 (w1.mono n2.le) w2 x2
  · exact x1.elim
theorem Ah : FN K γ "list" HL.kB := by
  intro ρ h H x S ht
  unfold HL.kB at ht
  cases q : HL.lstW h x with
  | none => rw [q] at ht; cases ht
  | some xs =>
    obtain ⟨i, rfl, sq, _⟩ := jP S q
    exact .inl ⟨rfl, _, sq⟩
theorem ur : FT K γ sr HL.hV := by
  intro ρ h H x xs Q S wx wxs q
  unfold HL.hV at q
  split at q
  · rename_i i y
    split at q
    · rename_i ys e
      split at q
      · rename_i hl
        refine ⟨ρ i, ys.map (ay γ ρ), ay γ ρ y, rfl, rfl, S.ob i _ e, by rw [List.length_map]; exact vX hl, ?_⟩
        have S2 := S.chg (u := .lst (ys ++ [y])) (v := .lst ((ys ++ [y]).map (ay γ ρ))) e rfl rfl (by
          intro z hz
          rcases List.mem_append.mp hz with z1 | z1
          · exact S.wf _ _ e z z1
          · rw [List.mem_singleton.mp z1]; exact wxs y (List.mem_singleton.mpr rfl)) aX
        have := q ρ _ (cI.chg _ _ _ _) S2 trivial
        rw [List.map_append] at this
        exact this
      · exact q.elim
    · exact q.elim
  · exact q.elim
theorem vh (ho : QE γ X o de) (ha : QE γ X e db)
    (hbase : attributeBase o "append" X.env (eval o X.env) = eval o X.env := by rfl)
    (hfew : ((backTo cpos (starEach [e] X.env)).all (fun x => !x.1) && (backToKw cpos (keywordEach [] X.env)).all (fun x => x.1.isSome)
      && decide ([e].length + ([] : List Keyword).length + (if ([] : List Keyword).isEmpty then 0 else 1) < 30)) = true := by rfl)
    (hline : (apos.endLine == cpos.line) = true := by rfl) (hs : starEach [e] X.env = (false, eval e X.env) :: starEach [] X.env := by rfl) (hplain : (backTo cpos (starEach [] X.env)).any (·.1) = false := by rfl) :
    QE γ X (.Call (.Attribute o "append" apos) [e] [] cpos) (HL.Cd HL.kB HL.hV de (HL.aa db HL.aj)) :=
  Fc PySem.F.plainAttrs_list PySem.F.slot_list_append PySem.F.type_list_append nB ur Ah ho (af ha ak hs) hbase hfew hline hs hplain
end
section
variable {X : Cx} {pins : List (Addr × Obj)} {σ : St} {H : Hp} {s : Shared}
theorem yG {K : PySem.W.Frag} {a C : Addr} {ox : Obj} {od : Option Obj} (k : nM K C) : PySem.W.KitX K (.ref a) (.ref C) (fun h => PySem.W.InstAt h a ox C od) := {
    ty := fun _ _ _ I => I.type
    it := fun _ h KX _ => by
      obtain ⟨bm, N, nm, qn, bs, sn, sub, ab, col, dd, k0, k1, k2, k3, k5, hC, T', hcl⟩ := lr KX k.cl
      intro A' Q' E' s' kk q
      unfold isType loadHead
      exact wpAny_bind (wpAny_loadPart (kk _ _ hC) (wpAny_pure q))
    ne := fun h tp dd its n sl KX htp => by
      obtain ⟨bm, N, nm, qn, bs, sn, sub, ab, col, dd, k0, k1, k2, k3, k5, hC, T', hcl⟩ := lr KX k.cl
      refine Bool.eq_false_iff.mpr fun q => ?_
      have e : C = tp := Value.ref.inj (beq_iff_eq.mp q)
      subst e
      have z := Option.some.inj (hC.symm.trans htp)
      have z2 := congrArg Obj.cls z
      injection z2 with z3
      exact absurd z3 (by decide)
    ca := fun KX I' kk => uD k KX I' kk }
inductive BY (K : PySem.W.Frag) (H : Hp) : V → Value → Prop where
  | of {x t} : kY K H x t → BY K H x t
  | lst {a xs} : ji K H a xs → BY K H (.ref a) (.type "list")
  | tup {a xs} : iw K H a xs → BY K H (.ref a) (.type "tuple")
  | exc {a C dx fs} : H a = some (.exc C dx fs) → nM K C → BY K H (.ref a) (.ref C)
theorem Bt {x : V} {u t : Value} (I : av X pins σ H s) (r : bg x u) (ty : BY X.K H x t) : ∃ P, PySem.W.KitX X.K u t P ∧ P s.heap ∧ u ≠ .builtin "__main__.__loader__#opaque" := by
  cases ty with
  | of ty =>
    cases ty with
    | non => cases r; exact ⟨_, PySem.W.kitx_none, True.intro, fun z => nomatch z⟩
    | bl y => cases r; exact ⟨_, PySem.W.kitx_bool, True.intro, fun z => nomatch z⟩
    | int i => obtain ⟨t, rfl⟩ := r; exact ⟨_, PySem.W.kitx_int, True.intro, fun z => nomatch z⟩
    | str y => obtain ⟨t, rfl⟩ := r; exact ⟨_, PySem.W.kitx_str, True.intro, fun z => nomatch z⟩
    | flt y => obtain ⟨t, rfl⟩ := r; exact ⟨_, PySem.W.kitx_float, True.intro, fun z => nomatch z⟩
    | @lst a xs ea =>
      cases r
      obtain ⟨_, _, n, _, h1⟩ := (show cv X.prog X.w H s.heap a (.lst xs) from I.hok a _ ea)
      exact ⟨_, PySem.W.kitx_list, ⟨_, h1, rfl⟩, fun z => nomatch z⟩
    | @frz a ob xs ea =>
      cases r
      obtain ⟨_, _, _, n, _, h1⟩ := (show cv X.prog X.w H s.heap a (.frz ob (.lst xs)) from I.hok a _ ea)
      exact ⟨_, PySem.W.kitx_list, ⟨_, h1, rfl⟩, fun z => nomatch z⟩
    | @tup a xs ea =>
      cases r
      obtain ⟨_, _, _, p⟩ := (show cv X.prog X.w H s.heap a (.tup xs) from I.hok a _ ea)
      obtain ⟨o, h1, h2, _⟩ := p
      exact ⟨_, PySem.W.kitx_tuple, ⟨o, h1, h2⟩, fun z => nomatch z⟩
    | @dK a kvs ea =>
      cases r
      obtain ⟨_, _, vs, _, p⟩ := (show cv X.prog X.w H s.heap a (.dK kvs) from I.hok a _ ea)
      obtain ⟨o, es, ep, h1, h2, _⟩ := p
      exact ⟨_, PySem.W.kitx_dict, ⟨o, h1, h2.1⟩, fun z => nomatch z⟩
    | @dT a kvs ea =>
      cases r
      obtain ⟨_, _, xs, _, o, es, ep, h1, h2, _⟩ := (show cv X.prog X.w H s.heap a (.dT kvs) from I.hok a _ ea)
      exact ⟨_, PySem.W.kitx_dict, ⟨o, h1, h2.1⟩, fun z => nomatch z⟩
    | @ins a C dx fs ea cl ha hn htk hm =>
      cases r
      obtain ⟨mA, O, _⟩ := ll I.hok ea
      obtain ⟨od, J, _⟩ := O.look
      exact ⟨_, PySem.W.kitx_own (cl.get _) cl.hd ha hn htk hm, J, fun z => nomatch z⟩
  | lst hq =>
    cases r
    obtain ⟨its, _, p, _⟩ := I.list hq
    obtain ⟨o, n, e, c, _⟩ := p
    exact ⟨_, PySem.W.kitx_list, ⟨o, e, c⟩, fun z => nomatch z⟩
  | tup hq =>
    cases r
    obtain ⟨its, _, p, _⟩ := I.tuple hq
    obtain ⟨o, h1, h2, _⟩ := p
    exact ⟨_, PySem.W.kitx_tuple, ⟨o, h1, h2⟩, fun z => nomatch z⟩
  | exc e k =>
    cases r
    obtain ⟨ox, od, J, _⟩ := qh I e
    exact ⟨_, yG k, J, fun z => nomatch z⟩
theorem pq : ∀ {cs : List V} {us : List Value}, aF cs us → cs.all B9 = true → us = cs.map nH
  | _, _, .nil, _ => rfl
  | c :: cs, u :: us, .cons r t, h => by
    rw [List.all_cons, Bool.and_eq_true] at h
    rw [List.map_cons, ← pq t h.2, r.cls h.1]
def zg (K : PySem.W.Frag) : List V → Hp → VK → Prop := fun xs H Q => ∃ x c t b, xs = [x, c] ∧ BY K H x t ∧ Q (.bl b) H ∧
  ((B9 c = true ∧ PySem.W.kitOne K t (nH c) = some b) ∨ ∃ a cs, c = .ref a ∧ iw K H a cs ∧ cs.all B9 = true ∧ PySem.W.kitAny K t (cs.map nH) = some b)
theorem uI : iX X (.builtin "isinstance") (zg X.K) := by
  intro pins s σ H xs us Q I r h
  obtain ⟨x, c, t, b, rfl, ty, q, h⟩ := h
  obtain ⟨u, w', rfl, rx, rc'⟩ := y8 r
  obtain ⟨P, Z, p, ne⟩ := Bt I rx ty
  rcases h with ⟨hc, e⟩ | ⟨a, cs, rfl, ha, hcs, e⟩
  · rw [rc'.cls hc]
    exact PySem.W.kia_one Z I.kIn p e ne fun tk => ⟨.bl b, H, I.tok _, rfl, q⟩
  · cases rc'
    obtain ⟨its, rv, ⟨o, ho, hc, n, hd⟩, _⟩ := I.tuple ha
    obtain ⟨oc, od, odt, osl⟩ := o
    cases hc
    cases hd
    rw [← pq rv hcs] at e
    exact PySem.W.kia_tup Z I.kIn p ho e ne fun tk => ⟨.bl b, H, I.tok _, rfl, q⟩
end
structure kN (K : PySem.W.Frag) (γ : Str → Addr) (T : HL.CT) : Prop where
  cls : ∀ c l, T.lookup c = some l → (l.contains (.ty "ValueError") = false → tJ K (γ c)) ∧ (l.contains (.ty "ValueError") = true → nM K (γ c))
  ins : ∀ c l, T.lookup c = some l → ∀ x m, T.lookup x = some m → PySem.W.kitOne K (.ref (γ c)) (.ref (γ x)) = some (l.contains (.gl x))
  bi : ∀ c l, T.lookup c = some l → ∀ b ∈ HL.qK, PySem.W.kitOne K (.ref (γ c)) (.type b) = some (l.contains (.ty b))
  no : ∀ x m, T.lookup x = some m → ∀ a ∈ "NoneType" :: HL.qK, PySem.W.kitOne K (.type a) (.ref (γ x)) = some false
theorem Bu (K : PySem.W.Frag) : ∀ a ∈ "NoneType" :: HL.qK, ∀ b ∈ HL.qK, PySem.W.kitOne K (.type a) (.type b) = some (HL.CG a b) := by
  intro a ha b hb
  simp only [HL.qK, List.mem_cons, List.not_mem_nil, or_false] at ha hb
  rcases ha with rfl | rfl | rfl | rfl | rfl | rfl | rfl | rfl <;> rcases hb with rfl | rfl | rfl | rfl | rfl | rfl | rfl <;> rfl
section
variable {K : PySem.W.Frag} {γ : Str → Addr} {ρ : Nat → Addr} {h : Sh} {H : Hp} {T : HL.CT}
def EN (γ : Str → Addr) : HL.Ty → Value
  | .bi n => .type n
  | .own _ c => .ref (γ c)
def Af (T : HL.CT) : HL.Ty → Prop
  | .bi n => n ∈ "NoneType" :: HL.qK
  | .own k c => ∃ l, T.lookup c = some l ∧ l.contains (.ty "ValueError") = k
theorem Ac {x : W} {n : String} (e : HL.qJ h x = some (.bi n)) : n ∈ "NoneType" :: HL.qK := by
  unfold HL.qJ at e
  cases x with
  | ref j =>
    simp only at e
    cases q : h[j]? with
    | none => rw [q] at e; cases e
    | some o => rw [q] at e; cases o <;> cases e <;> decide
  | ty _ => cases e
  | gl _ => cases e
  | _ => cases e; decide
theorem uQ {x : W} {t : HL.Ty} (O : kN K γ T) (S : bP K γ ρ h H) (e : HL.qJ h x = some t) (i : Af T t) : BY K H (ay γ ρ x) (EN γ t) := by
  cases x with
  | non => cases e; exact .of .non
  | bl b => cases e; exact .of (.bl b)
  | int j => cases e; exact .of (.int j)
  | str y => cases e; exact .of (.str y)
  | ref j =>
    unfold HL.qJ at e
    simp only at e
    cases q : h[j]? with
    | none => rw [q] at e; cases e
    | some o =>
      rw [q] at e
      have ob := S.ob j o q
      cases o with
      | lst xs => cases e; exact .lst (ji.of ob)
      | rol xs => cases e; exact .lst (show rK _ _ _ _ from ob).sq
      | tup xs => cases e; exact .tup ob
      | ins c fs =>
        cases e
        obtain ⟨dx, hd⟩ := ob
        obtain ⟨l, hl, hk⟩ := i
        have k := (O.cls c l hl).1 hk
        exact .of (.ins hd k.cl k.ha k.hn k.htk k.hm)
      | exc c fs =>
        cases e
        obtain ⟨dx, hd⟩ := ob
        obtain ⟨l, hl, hk⟩ := i
        exact .exc hd ((O.cls c l hl).2 hk)
      | dct => cases e; exact .of (.dK ob)
  | _ => cases e
theorem sX {t : HL.Ty} {c : W} {b : Bool} (O : kN K γ T) (e : HL.rl T t c = some b) (bi : ∀ n, t = .bi n → n ∈ "NoneType" :: HL.qK) : Af T t ∧ B9 (ay γ ρ c) = true ∧ PySem.W.kitOne K (EN γ t) (nH (ay γ ρ c)) = some b := by
  unfold HL.rl at e
  split at e
  · rename_i a b' 
    split at e
    · rename_i hb
      cases e
      have ha := bi a rfl
      exact ⟨ha, rfl, Bu K a ha b' (List.contains_iff_mem.mp hb)⟩
    · cases e
  · rename_i a x
    split at e
    · rename_i hx
      cases e
      have ha := bi a rfl
      cases q : T.lookup x with
      | none => rw [q] at hx; cases hx
      | some m => exact ⟨ha, rfl, O.no x m q a ha⟩
    · cases e
  · rename_i k a
    split at e
    · rename_i l hl
      split at e
      · rename_i hk
        split at e
        · rename_i b'
          split at e
          · rename_i hb; cases e; exact ⟨⟨l, hl, hk⟩, rfl, O.bi a l hl b' (List.contains_iff_mem.mp hb)⟩
          · cases e
        · rename_i x
          split at e
          · rename_i hx
            cases e
            cases q : T.lookup x with
            | none => rw [q] at hx; cases hx
            | some m => exact ⟨⟨l, hl, hk⟩, rfl, O.ins a l hl x m q⟩
          · cases e
        · cases e
      · cases e
    · cases e
  · cases e
theorem sW {t : HL.Ty} (O : kN K γ T) (bi : ∀ n, t = .bi n → n ∈ "NoneType" :: HL.qK) : ∀ (cs : List W) (b : Bool), HL.uy T t cs = some b → cs ≠ [] → Af T t ∧ (∀ c ∈ (cs.map (ay γ ρ)).take 1, B9 c = true) ∧ PySem.W.kitAny K (EN γ t) ((cs.map (ay γ ρ)).map nH) = some b
  | [], _, _, ne => absurd rfl ne
  | c :: cs, b, e, _ => by
    unfold HL.uy at e
    cases q : HL.rl T t c with
    | none => rw [q] at e; cases e
    | some k =>
      rw [q] at e
      obtain ⟨ti, ic, kk⟩ := sX (ρ := ρ) O q bi
      refine ⟨ti, ?_, ?_⟩
      · intro c' hc'
        rw [List.map_cons, List.take_succ_cons, List.take_zero] at hc'
        rw [List.mem_singleton.mp hc']; exact ic
      · rw [List.map_cons, List.map_cons]
        unfold PySem.W.kitAny
        rw [kk]
        cases k with
        | true => cases e; rfl
        | false =>
          simp only at e ⊢
          cases cs with
          | nil => cases e; rfl
          | cons c2 r => exact (sW O bi (c2 :: r) b e (fun z => nomatch z)).2.2
theorem BP (O : kN K γ T) : y2 K γ (zg K) (HL.b7 T) := by
  intro ρ h H xs Q S w q
  unfold HL.b7 at q
  split at q
  · rename_i x c
    split at q
    · rename_i b e
      have qq := q trivial
      unfold HL.isi at e
      cases q1 : HL.qJ h x with
      | none => rw [q1] at e; cases e
      | some t =>
        rw [q1] at e
        have bi : ∀ n, t = .bi n → n ∈ "NoneType" :: HL.qK := fun n z => by subst z; exact Ac q1
        simp only at e
        split at e
        · rename_i i
          split at e
          · rename_i cs q2
            split at e
            · rename_i hcs
              obtain ⟨h1, h2⟩ := (Bool.and_eq_true _ _).mp hcs
              have ne : cs ≠ [] := fun z => by rw [z] at h2; cases h2
              obtain ⟨ti, _, kk⟩ := sW (ρ := ρ) O bi cs b e ne
              refine ⟨_, _, _, b, rfl, uQ O S q1 ti, qq, .inr ⟨_, _, rfl, S.ob i _ q2, ?_, kk⟩⟩
              rw [List.all_map]
              refine List.all_eq_true.mpr fun c hc => ?_
              have := List.all_eq_true.mp h1 c hc
              cases c <;> first | rfl | cases this
            · cases e
          · cases e
        · obtain ⟨ti, ic, kk⟩ := sX (ρ := ρ) O e bi
          exact ⟨_, _, _, b, rfl, uQ O S q1 ti, qq, .inl ⟨ic, kk⟩⟩
    · exact q.elim
  · exact q.elim
theorem Bm (x : List W) (h : Sh) : gO (HL.b7 T x h) = true := by
  unfold HL.b7; split
  · split <;> rfl
  · rfl
end
end L2
namespace L2
open PySem PySem.Spec PyProof.Rows
open HL (W SO Sh Sg OR DE DT DA DS Fn)
def sg (K : PySem.W.Frag) : Sp := fun vs H Q _ => match vs with
  | [x] => ∃ (a : Addr) (ns : List Int), x = .ref a ∧ rK K H a (ns.map V.int) ∧ ns.length ≤ 63 ∧ ∀ H', Q (.bl true) H'
  | _ => False
def xb (P : Program) (w : World) (K : PySem.W.Frag) (mg : Str → Option Value) (k : Nat) : Prop := ∃ f fd, mg "law" = some (.ref f) ∧ (∀ (s : Shared) (u : Value), BindsTo s fd ⟨[u], []⟩ [("_law_script", u)]) ∧ ∀ base : Heap, i9 P w K mg base tL k f fd ["_law_script"] (sg K)
theorem tO {l : PySem.W.OpenLaw} {k : Nat} {q : Program} {loose : List Str} {XP : (Str → Option Value) → Heap → Prop} {YP : World → Heap → Prop} {d : DefRec} {K : Params → PySem.W.Frag} (hn : l.most = some 63) (hdf : d.params.defaults = []) (hr : bx k callerA)
    (hY : ∀ (w : World) (h : Heap), YP w h → (K w.params).In h) (hd : d.name = "law")
    (hF : ∀ (w : World) (mg : Str → Option Value) (h : Heap), (K w.params).In h → h.Ns mainGlobals mg → xb l.prog w (K w.params) mg k) :
    PySem.W.WalkO q loose XP YP l.row.toRowW d [] (fun f vs => PySem.call f vs) :=
  L2.rR (n := 63) (k := k) (x := "_law_script") (CX := fun _ => tL) (sp := fun w => sg (K w.params)) hn (by decide) hdf hr hY (fun w mg fa h KX G hm => by
    rw [hd] at hm
    obtain ⟨f, fd, m, b, ok⟩ := hF w mg h KX G
    rw [m] at hm
    cases hm
    exact ⟨fd, b, fun base _ _ => ok base⟩) (fun w H a ns hl hO hS => ⟨a, ns, rfl, by
      rcases hS with (h | h) | h
      · rcases hO a with z | ⟨o, xs, z⟩
        · rw [h] at z; cases z
        · rw [h] at z; cases z
      · exact .inl h
      · exact .inr h, hl, fun _ => rfl⟩) fun _ _ _ _ _ z => z
structure jx (K : PySem.W.Frag) (γ : Str → Addr) (ρ : Nat → Addr) (cs : List SO) : Prop where
  ob : ∀ (i : Nat) (o : SO), cs[i]? = some o → ∀ H, rN γ ρ K H (ρ i) o
  mu : ∀ o ∈ cs, kT o = false
  wf : ∀ o ∈ cs, xh cs.length o
theorem jx.nil {K : PySem.W.Frag} {γ : Str → Addr} {ρ : Nat → Addr} : jx K γ ρ [] := ⟨(fun i o e => by simp at e), (fun o h => by cases h), (fun o h => by cases h)⟩
theorem uw {K : PySem.W.Frag} {γ : Str → Addr} {ρ : Nat → Addr} {cs : List SO} {H : Hp} {a : Addr} {ns : List Int} (c : jx K γ ρ cs) (r : rK K H a (ns.map V.int)) : bP K γ (mH ρ cs.length a) (cs ++ [.rol (ns.map W.int)]) H where
  ob := fun i o e => by
    rw [getElem?_snoc] at e
    by_cases h1 : i < cs.length
    · rw [if_pos h1] at e
      rw [← fI ρ cs.length a i h1]
      exact (c.ob i o e H).ren (c.wf o (List.mem_of_getElem? e)) (fI _ _ _)
    · rw [if_neg h1] at e
      by_cases h2 : i = cs.length
      · rw [if_pos h2] at e
        cases e
        rw [h2, eg]
        show rK K H a _
        rw [List.map_map]
        exact r
      · rw [if_neg h2] at e; cases e
  inj := fun i j o u e1 e2 m1 m2 q => by
    have mu : ∀ i o, (cs ++ [SO.rol (ns.map W.int)])[i]? = some o → kT o = false := fun i o e => by
      rcases List.mem_append.mp (List.mem_of_getElem? e) with z | z
      · exact c.mu o z
      · rw [List.mem_singleton.mp z]; rfl
    rw [mu i o e1] at m1; cases m1
  wf := fun i o e => by
    rcases List.mem_append.mp (List.mem_of_getElem? e) with z | z
    · exact (c.wf o z).mono (by simp)
    · rw [List.mem_singleton.mp z]
      intro x hx
      obtain ⟨n, _, rfl⟩ := List.mem_map.mp hx
      trivial
theorem aV.qlaw {P : Program} {w : World} {K : PySem.W.Frag} {mg : Str → Option Value} {γ : Str → Addr} {ρ : Nat → Addr} {cs : List SO} {st : Stmt} {N : List Str} {k n : Nat} {bd : DS} (F : aV K mg "law" st) (S : aN N ["_law_script"] (ah st)) (hn : N.length = n) (c : jx K γ ρ cs)
    (hb : ∀ (kV doc pm : Value) (an : Option Addr) (cdv ct : Value) (us : List Value), us.length = 1 → bindArgs (PySem.W.fnOf "law" "law" (cg st) (bj st) (ah st) .none kV doc pm an cdv ct) ⟨us, []⟩ = pure ((["_law_script"] : List Str).zip us))
    (hbody : ∀ (base : Heap) (f : Addr) (cdv : Value) (A : Around) (outer : List Env) (s : Shared) (H : Hp) (E : XK), bx k (A.deeper (envOfC "law" (ah st) s.heap.objs.size f cdv)) →
      rL γ (kn tL P w K mg base N "law" (ah st) f cdv A outer s H E).nox (bj st) bd)
    (good : ∀ ns : List Int, ns.length ≤ 63 → ∃ h', HL.fnOf 1 n bd [.ref cs.length] (cs ++ [.rol (ns.map W.int)]) = .ok (.bl true) h') : xb P w K mg (k + 1) := by
  subst hn
  obtain ⟨f, fd, F, m⟩ := F.ex
  refine ⟨f, fd, m, fun s u => ?_, fun base => F.ok S (fun vs H Q E h => ?_) fun cdv A outer s H vs Q E hr h => ?_⟩
  · obtain ⟨oc, od, kV, doc, pm, an, cdv, ct, osl, rfl, lk, hcd⟩ := F.ex
    exact .of_eq (hb kV doc pm an cdv ct [u] rfl)
  · match vs, h with
    | [x], _ => rfl
  · match vs, h with
    | [x], ⟨a, ns, e, r, hl, q⟩ =>
      refine ⟨_, hbody base f cdv A outer s H E hr, ?_⟩
      subst e
      have S0 := uw c r
      obtain ⟨h', e⟩ := good ns hl
      have := oQ (N := N) (us := [.ref cs.length]) (bd := bd) (Q := Q) (p := 1) S0 (fun x hx => by rw [List.mem_singleton.mp hx]; show cs.length < (cs ++ [_]).length; simp) (by
        rw [e]
        exact fun _ H1 _ _ _ => q H1)
      rw [show ([W.ref cs.length].map (ay γ (mH ρ cs.length a))) = [V.ref a] by simp [ay, eg]] at this
      exact this
section
variable {X : Cx} {γ : Str → Addr} {a : Expr} {da : DE} {pos p2 : Pos}
end
end L2
namespace L2
open PySem PySem.Spec PyProof.Rows
open HL (W SO Sh Sg OR DE DT DA DS Fn)
section
variable {X : Cx} {γ : Str → Addr} {a b c e o : Expr} {da db dc de d1 : DE} {pos pos' apos : Pos}
theorem hW {ρ : Nat → Addr} (f : Str) : ∀ fs : List (Str × W), (i8 γ ρ fs).lookup f = (fs.lookup f).map (ay γ ρ)
  | [] => rfl
  | (g, x) :: r => by
    unfold i8
    rw [List.map_cons]
    by_cases e : f = g
    · subst e; simp only [List.lookup, beq_self_eq_true, Option.map_some]
    · have : (f == g) = false := by simpa using e
      simp only [List.lookup, this]
      exact hW f r
theorem mi {f : Str} {v : W} : ∀ {fs : List (Str × W)}, fs.lookup f = some v → ∃ p ∈ fs, p.2 = v
  | (g, x) :: r, e => by
    by_cases q : f = g
    · subst q
      simp only [List.lookup, beq_self_eq_true, Option.some.injEq] at e
      exact ⟨(f, x), List.mem_cons_self, e⟩
    · have z : (f == g) = false := by simpa using q
      simp only [List.lookup, z] at e
      obtain ⟨p, hp, hv⟩ := mi e
      exact ⟨p, List.mem_cons_of_mem _ hp, hv⟩
theorem sM {ρ : Nat → Addr} (f : Str) (v : W) : ∀ fs : List (Str × W), i8 γ ρ (HL.lW f v fs) = gL f (ay γ ρ v) (i8 γ ρ fs)
  | [] => rfl
  | (g, x) :: r => by
    unfold HL.lW
    by_cases e : g = f
    · rw [if_pos e]; simp only [i8, List.map_cons, gL, if_pos e]
    · rw [if_neg e]
      have ih := sM (ρ := ρ) f v r
      simp only [i8, List.map_cons, gL, if_neg e] at ih ⊢
      rw [ih]
theorem rQ {n : Nat} {f : Str} {v : W} (wv : wf n v) : ∀ {fs : List (Str × W)}, (∀ p ∈ fs, wf n p.2) → ∀ p ∈ HL.lW f v fs, wf n p.2
  | [], _, p, hp => by
    unfold HL.lW at hp
    rw [List.mem_singleton.mp hp]; exact wv
  | (g, x) :: r, w, p, hp => by
    unfold HL.lW at hp
    by_cases e : g = f
    · rw [if_pos e] at hp
      rcases List.mem_cons.mp hp with z | z
      · rw [z]; exact wv
      · exact w p (List.mem_cons_of_mem _ z)
    · rw [if_neg e] at hp
      rcases List.mem_cons.mp hp with z | z
      · rw [z]; exact w (g, x) List.mem_cons_self
      · exact rQ wv (fun q hq => w q (List.mem_cons_of_mem _ hq)) p z
def qG (K : PySem.W.Frag) (γ : Str → Addr) (cs : List Str) (f : Str) : Prop := ∀ c ∈ cs, nN K (γ c) ∧ fL K (γ c) f
theorem jc {cs : List Str} {f : Str} (k : qG X.K γ cs f) (he : QE γ X e de) (hb : attributeBase e f X.env (eval e X.env) = eval e X.env := by rfl) : QE γ X (.Attribute e f pos) (HL.e9 cs f de) :=
  (AR he hb).imp fun σ H Q ⟨ρ, s, h, S, x⟩ => by
    unfold HL.e9 at x
    refine ⟨ρ, s, h, S, aT.bind x fun v h1 ρ1 H1 _ n1 S1 w1 x1 => ?_⟩
    cases v with
    | ref i =>
      simp only [HL.v8] at x1
      cases q : h1[i]? with
      | none => rw [q] at x1; exact x1.elim
      | some ob =>
        rw [q] at x1
        cases ob with
        | ins c fs =>
          simp only at x1
          split at x1
          · rename_i v e1
            split at e1
            · rename_i hc
              obtain ⟨dx, ea⟩ := S1.ob i _ q
              have k1 := k c (by simpa using hc)
              refine ⟨ρ1 i, γ c, dx, i8 γ ρ1 fs, ay γ ρ1 v, rfl, ea, k1.1, k1.2, by rw [hW, e1]; rfl, ?_⟩
              obtain ⟨p, hp, rfl⟩ := mi e1
              exact x1 ρ1 H1 (cI.refl _ _) S1 (S1.wf i _ q p hp)
            · cases e1
          · exact x1.elim
        | _ => exact x1.elim
    | _ => exact x1.elim
theorem lR {cs : List Str} {f : Str} (k : qG X.K γ cs f) (ho : QE γ X o d1) (he : QE γ X e de) (hs : swapsWith e (some (.Attribute o f pos')) pos.line X.env = pure false := by rfl) : QS γ X (.Assign [.Attribute o f pos'] e pos) (HL.gW cs f d1 de) :=
  (AG ho he hs).imp fun D σ H ⟨ρ, s, h, S, x⟩ => by
    unfold HL.gW at x
    refine ⟨ρ, s, h, S, ?_⟩
    cases q1 : de s h with
    | ok v h1 =>
      rw [q1] at x
      intro ρ1 H1 n1 S1 w1
      have T1 := S.next n1 S1
      refine ⟨ρ1, s, h1, T1, ?_⟩
      simp only [HL.R.bind] at x
      cases q2 : d1 s h1 with
      | ok xo h2 =>
        rw [q2] at x
        intro ρ2 H2 n2 S2 w2
        have T2 := T1.next n2 S2
        simp only at x
        cases xo with
        | ref i =>
          simp only [HL.xI] at x
          cases q : h2[i]? with
          | none => rw [q] at x; exact x.elim
          | some ob =>
            rw [q] at x
            cases ob with
            | ins c fs =>
              simp only at x
              by_cases hc : cs.contains c = true ∧ fs.length < 1000
              · rw [if_pos hc] at x
                obtain ⟨dx, ea⟩ := S2.ob i _ q
                have k1 := k c (by simpa using hc.1)
                have wv := w1.mono n2.le
                refine ⟨ρ2 i, γ c, dx, i8 γ ρ2 fs, rfl, ea, k1.1, k1.2, by simp only [i8, List.length_map]; exact hc.2, ?_⟩
                have S3 : bP X.K γ ρ2 (h2.set i (.ins c (HL.lW f v fs))) (upd H2 (ρ2 i) (.ins (γ c) dx (gL f (ay γ ρ2 v) (i8 γ ρ2 fs)))) :=
                  S2.chg q rfl rfl (rQ wv (S2.wf i _ q)) ⟨dx, by rw [aX, sM]⟩
                have z := x ρ2 _ ((n1.trans n2).trans (cI.chg _ _ i _)) S3 (by rw [List.length_set]; exact T2.ws)
                rw [dD w1 n2.ag, T2.eq]
                exact z
              · rw [if_neg hc] at x; exact x.elim
            | _ => exact x.elim
        | _ => exact x.elim
      | ex => rw [q2] at x; exact x.elim
      | er => rw [q2] at x; exact x.elim
    | ex => rw [q1] at x; exact x.elim
    | er => rw [q1] at x; exact x.elim
def qR (G : Addr → Sp → Prop) (m : Str) (ta : TE) (t : TA) : TE := fun σ H Q => ta σ H fun x H1 => ∃ a C dx fs sp, x = .ref a ∧ H1 a = some (.ins C dx fs) ∧ fs.lookup m = none ∧ G C sp ∧
  t σ H1 fun vs H2 => sp (x :: vs) H2 Q E0
variable {G : Addr → Sp → Prop} {m : Str} {es : List Expr} {ta : TE} {t : TA}
theorem vF {pl : Sem Bool} (hG : ∀ C sp, G C sp → nN X.K C ∧ ∃ k ps, dQ X.prog X.w X.K X.mg X.base k C m ps sp ∧ bx k X.A) (he : PE X o ta) (ha : PA X (e :: es) t)
    (hst : starEach (e :: es) X.env = (false, eval e X.env) :: starEach es X.env := by rfl) (hpl : (backTo pos (starEach es X.env)).any (·.1) = false := by rfl)
    (ht : eval (.Call (.Attribute o m apos) (e :: es) [] pos) X.env = (do
      let ov ← eval o X.env
      standAt apos.atName
      let (f, first) ← holding [ov] (getMethod ov m pl)
      callWith pos f first (backTo pos (starEach (e :: es) X.env)) (backToKw pos (keywordEach [] X.env))) := by rfl) :
    PE X (.Call (.Attribute o m apos) (e :: es) [] pos) (qR G m ta t) := by
  intro pins s σ H Q I h
  refine PySem.W.methodCall_KW (pl := pl) (cE (he pins s σ H _ I h) fun u s1 ⟨x, H1, I1, rx, a, C, dx, fs, sp, ex, ea, l, g, q⟩ => ?_) ht
  subst ex
  obtain rfl : u = Value.ref a := rx
  obtain ⟨c, k, ps, D, hr⟩ := hG C sp g
  obtain ⟨f, fd, F, fa, n, kp, b⟩ := D.ex
  refine jr I1 ea c ⟨fa, n, kp⟩ l ?_
  refine PySem.W.callWith_K (first := [.ref a]) (h₀ := X.base) I.ok.mod.kin kp (cE (ha pos pins s1 σ H1 _ I1 q) fun us s2 ⟨vs, H2, I2, r, q2⟩ => ⟨I2.kIn, ?_⟩) hst hpl
  exact oh (us := .ref a :: us) (vs := .ref a :: vs) (dvs := []) (ds := []) F hr b .nil sR I2 (.cons rfl r) (by rw [List.append_nil]; exact q2)
theorem ug {pl : Sem Bool} (hG : ∀ C sp, G C sp → nN X.K C ∧ ∃ k ps, dQ X.prog X.w X.K X.mg X.base k C m ps sp ∧ bx k X.A) (he : PE X o ta)
    (ht : eval (.Call (.Attribute o m apos) [] [] pos) X.env = (do
      let ov ← eval o X.env
      standAt apos.atName
      let (f, first) ← holding [ov] (getMethod ov m pl)
      callWith pos f first (backTo pos (starEach [] X.env)) (backToKw pos (keywordEach [] X.env))) := by rfl) :
    PE X (.Call (.Attribute o m apos) [] [] pos) (qR G m ta Cy) := by
  intro pins s σ H Q I h
  refine PySem.W.methodCall_KW (pl := pl) (cE (he pins s σ H _ I h) fun u s1 ⟨x, H1, I1, rx, a, C, dx, fs, sp, ex, ea, l, g, q⟩ => ?_) ht
  subst ex
  obtain rfl : u = Value.ref a := rx
  obtain ⟨c, k, ps, D, hr⟩ := hG C sp g
  obtain ⟨f, fd, F, fa, n, kp, b⟩ := D.ex
  refine jr I1 ea c ⟨fa, n, kp⟩ l ?_
  exact PySem.W.callWith_K0 (first := [.ref a]) I1.kIn kp (oh (us := [.ref a]) (vs := [.ref a]) (dvs := []) (ds := []) F hr b .nil sR I1 (.cons rfl .nil) q)
def cC (X : Cx) (γ : Str → Addr) (m : Str) (tb : List (Str × Fn)) : Prop := ∀ c f, tb.lookup c = some f → nN X.K (γ c) ∧ ∃ k p n bd ps, f = HL.fnOf p n bd ∧ dQ X.prog X.w X.K X.mg X.base k (γ c) m ps (dY X.K γ p f) ∧ bx k X.A
theorem cC.nil : cC X γ m [] := fun c f e => by cases e
theorem cC.cons {tb : List (Str × Fn)} {c : Str} {k p n : Nat} {bd : DS} {ps : List Str} (h : nN X.K (γ c)) (D : dQ X.prog X.w X.K X.mg X.base k (γ c) m ps (dY X.K γ p (HL.fnOf p n bd))) (hr : bx k X.A) (r : cC X γ m tb) : cC X γ m ((c, HL.fnOf p n bd) :: tb) := fun c' f e => by
  by_cases q : c' = c
  · subst q
    simp only [List.lookup, beq_self_eq_true, Option.some.injEq] at e
    subst e
    exact ⟨h, k, p, n, bd, ps, rfl, D, hr⟩
  · have z : (c' == c) = false := by simpa using q
    simp only [List.lookup, z] at e
    exact r c' f e
def En (X : Cx) (γ : Str → Addr) (m : Str) (tb : List (Str × Fn)) (C : Addr) (sp : Sp) : Prop := ∃ c f p n bd k ps, C = γ c ∧ tb.lookup c = some f ∧ f = HL.fnOf p n bd ∧ sp = dY X.K γ p f ∧ nN X.K (γ c) ∧ dQ X.prog X.w X.K X.mg X.base k (γ c) m ps (dY X.K γ p f) ∧ bx k X.A
theorem En.ok {tb : List (Str × Fn)} : ∀ C sp, En X γ m tb C sp → nN X.K C ∧ ∃ k ps, dQ X.prog X.w X.K X.mg X.base k C m ps sp ∧ bx k X.A := by
  rintro C sp ⟨c, f, p, n, bd, k, ps, rfl, e, rfl, rfl, h, D, hr⟩
  exact ⟨h, k, ps, D, hr⟩
theorem uZ {K : PySem.W.Frag} {f : Fn} {p n : Nat} {bd : DS} {ρ : Nat → Addr} {h : Sh} {H : Hp} {us : List W} {Q : VK} {E : XK} (e : f = HL.fnOf p n bd) (S : bP K γ ρ h H) (w : ja h.length us) (x : kO K γ ρ h (f us h) Q) : dY K γ p f (us.map (ay γ ρ)) H Q E := by
  refine ⟨?_, ρ, h, us, S, w, rfl, x⟩
  rw [List.length_map]
  cases q : f us h with
  | ok v h' => rw [e] at q; exact qf q
  | ex => rw [q] at x; exact x.elim
  | er => rw [q] at x; exact x.elim
theorem sU {tb : List (Str × Fn)} {d : DA} (k : cC X γ m tb) (σ : St) (H : Hp) (Q : VK) (x : eE X.K γ (HL.bG tb m d1 d) σ H Q) : qR (En X γ m tb) m (eE X.K γ d1) (eA X.K γ d) σ H Q := by
  obtain ⟨ρ, s, h, S, x⟩ := x
  unfold HL.bG at x
  refine ⟨ρ, s, h, S, aT.bind x fun v h1 ρ1 H1 _ n1 S1 w1 x1 => ?_⟩
  split at x1
  · rename_i f e1
    cases v with
    | ref i =>
      simp only [HL.mw] at e1
      split at e1
      · rename_i c fs q
        split at e1
        · rename_i hl
          obtain ⟨dx, ea⟩ := S1.ob i _ q
          obtain ⟨hc, kk, p, n, bd, ps, ef, D, hr⟩ := k c f e1
          refine ⟨ρ1 i, γ c, dx, i8 γ ρ1 fs, _, rfl, ea, by rw [hW, hl]; rfl, ⟨c, f, p, n, bd, kk, ps, rfl, e1, ef, rfl, hc, D, hr⟩, ?_⟩
          refine ⟨ρ1, s, h1, S.next n1 S1, aT.bind x1 fun us h2 ρ2 H2 _ n2 S2 w2 x2 => ?_⟩
          have wi : wf h2.length (.ref i) := w1.mono n2.le
          have z := uZ (E := E0) (us := .ref i :: us) ef S2 (fun y hy => by
            rcases List.mem_cons.mp hy with r | r
            · rw [r]; exact wi
            · exact w2 y r) x2
          rw [List.map_cons] at z
          have e3 : ay γ ρ2 (.ref i) = ay γ ρ1 (.ref i) := (dD w1 n2.ag).symm
          rw [e3] at z
          exact z
        · cases e1
      · cases e1
    | _ => cases e1
  · exact x1.elim
theorem iE {tb : List (Str × Fn)} {d : DA} {pl : Sem Bool} (k : cC X γ m tb) (he : QE γ X o d1) (ha : QA γ X (e :: es) d)
    (hst : starEach (e :: es) X.env = (false, eval e X.env) :: starEach es X.env := by rfl) (hpl : (backTo pos (starEach es X.env)).any (·.1) = false := by rfl)
    (ht : eval (.Call (.Attribute o m apos) (e :: es) [] pos) X.env = (do
      let ov ← eval o X.env
      standAt apos.atName
      let (f, first) ← holding [ov] (getMethod ov m pl)
      callWith pos f first (backTo pos (starEach (e :: es) X.env)) (backToKw pos (keywordEach [] X.env))) := by rfl) :
    QE γ X (.Call (.Attribute o m apos) (e :: es) [] pos) (HL.bG tb m d1 d) := (vF (pl := pl) En.ok he ha hst hpl ht).imp (sU k)
theorem jE {tb : List (Str × Fn)} {pl : Sem Bool} (k : cC X γ m tb) (he : QE γ X o d1)
    (ht : eval (.Call (.Attribute o m apos) [] [] pos) X.env = (do
      let ov ← eval o X.env
      standAt apos.atName
      let (f, first) ← holding [ov] (getMethod ov m pl)
      callWith pos f first (backTo pos (starEach [] X.env)) (backToKw pos (keywordEach [] X.env))) := by rfl) :
    QE γ X (.Call (.Attribute o m apos) [] [] pos) (HL.bG tb m d1 HL.aj) := (ug (pl := pl) En.ok he ht).imp fun σ H Q x => by
  obtain ⟨ρ, s, h, S, x⟩ := sU k σ H Q x
  refine ⟨ρ, s, h, S, ?_⟩
  cases q : d1 s h with
  | ok v h1 =>
    rw [q] at x
    intro ρ1 H1 n1 S1 w1
    obtain ⟨a, C, dx, fs, sp, e1, e2, e3, e4, x⟩ := x ρ1 H1 n1 S1 w1
    obtain ⟨ρ2, s2, h2, S2, x⟩ := x
    exact ⟨a, C, dx, fs, sp, e1, e2, e3, e4, x ρ2 H1 (cI.refl _ _) S2.hp fun _ z => by cases z⟩
  | ex => rw [q] at x; exact x.elim
  | er => rw [q] at x; exact x.elim
structure zZ (X : Cx) (γ : Str → Addr) (x : Str) (p : Nat) (f : Fn) (vs : List W) : Prop where
  at_ : X.mg x = some (.ref (γ x))
  ex : ∃ k g fd ps ds n bd, f = HL.fnOf p n bd ∧ Mk X.K (γ x) g ∧ i9 X.prog X.w X.K X.mg X.base tL k g fd ps (dY X.K γ p f) ∧ bx (k + 1) X.A ∧ ed X.K fd ps ds ∧ (∀ ρ, aF (vs.map (ay γ ρ)) ds) ∧ ∀ n, ja n vs
theorem pQ {vs : List W} (h : ∀ n, ja n vs) (ρ ρ' : Nat → Addr) : vs.map (ay γ ρ) = vs.map (ay γ ρ') := jC (h 0) fun i hi => absurd hi (Nat.not_lt_zero _)
theorem Br {C : Str} {f : Fn} {p n : Nat} {bd : DS} {vs : List W} {d : DA} {ρ0 : Nat → Addr} (ef : f = HL.fnOf p n bd) (wv : ∀ n, ja n vs) (σ : St) (H : Hp) (Q : VK) (x : eE X.K γ (HL.rB C f vs d) σ H Q) : za (γ C) (dY X.K γ p f) (vs.map (ay γ ρ0)) E0 (eA X.K γ d) σ H Q := by
  obtain ⟨ρ, s, h, S, x⟩ := x
  unfold HL.rB at x
  refine ⟨ρ, s, h, S, aT.bind x fun us h1 ρ1 H1 _ n1 S1 w1 x1 => ?_⟩
  intro y dx hy hdx ne
  have hdx' : upd H1 dx (.own y) y = none := by rw [aH ne.symm]; exact hy
  have E1 : oZ H1 (upd (upd H1 dx (.own y)) y (.ins (γ C) dx [])) := (oZ.upd _ hdx).trans (oZ.upd _ hdx')
  have S2 := S1.push (p := y) (o := .ins C []) (fun q hq => by cases hq) E1 hy ⟨dx, aX⟩
  have w2 : ja (h1 ++ [SO.ins C []]).length (.ref h1.length :: (us ++ vs)) := fun q hq => by
    rcases List.mem_cons.mp hq with r | r
    · rw [r]; show h1.length < (h1 ++ [_]).length; simp
    · rcases List.mem_append.mp r with r | r
      · exact (w1 q r).mono (by simp)
      · exact wv _ q r
  have n2 := cI.push h1 ρ1 (.ins C []) y
  have z := uZ (E := E0) ef S2 w2 (Q := fun v H2 => v = .non ∧ Q (.ref y) H2) (aT.bind (x1.later n2) fun v h3 ρ3 H3 _ n3 S3 w3 x3 => by
    by_cases hv : v = .non
    · rw [if_pos hv] at x3
      subst hv
      refine ⟨rfl, ?_⟩
      have q := x3 ρ3 H3 (cI.refl _ _) S3 (Nat.lt_of_lt_of_le (by simp) n3.le)
      rw [show ay γ ρ3 (.ref h1.length) = V.ref y from congrArg V.ref (by rw [← n3.ag h1.length (by simp), eg])] at q
      exact q
    · rw [if_neg hv] at x3; exact x3.elim)
  rw [List.map_cons, List.map_append] at z
  rw [show ay γ (mH ρ1 h1.length y) (.ref h1.length) = V.ref y from congrArg V.ref (eg _ _ _), ← jC w1 (fI _ _ _), pQ wv _ ρ0] at z
  exact z
theorem CY {x : Str} {p : Nat} {f : Fn} {vs : List W} {pp : Pos} {d : DA} (k : zZ X γ x p f vs) (hg : Gl X x) (ha : QA γ X (e :: es) d) (hdb : (x == ("__debug__" : Str)) = false := by decide)
    (he : starEach (e :: es) X.env = (false, eval e X.env) :: starEach es X.env := by rfl) (hpl : (backTo pos (starEach es X.env)).any (·.1) = false := by rfl) : QE γ X (.Call (.Name x pp) (e :: es) [] pos) (HL.rB x f vs d) := by
  obtain ⟨kk, g, fd, ps, ds, n, bd, ef, M, F, hr, hb, hv, wv⟩ := k.ex
  exact (yb M F hr hg k.at_ hb (hv fun _ => 0) sR ha hdb he hpl).imp (Br ef wv)
end
end L2
namespace L2
open PySem PySem.Spec PyProof.Rows
open HL (W SO Sh Sg OR DE DT DA DS Fn)
section
variable {K : PySem.W.Frag} {γ : Str → Addr}
theorem AX : mJ K γ (xk fun i j => .int (i - j)) HL.oI := fun ρ h H x y Q S wx wy q => by
  obtain ⟨i, j, e1, e2, _, q⟩ := ot (K := K) (γ := γ) (c := fun _ _ => true) (C := fun _ _ => True) (f := fun i j => i - j) (fun _ _ _ => trivial) ρ h H x y Q S wx wy q
  exact ⟨i, j, e1, e2, q⟩
theorem A0 : mJ K γ (rI (fun _ j => 0 < j) fun i j => .int (i % j)) HL.fj := ot fun _ _ h => of_decide_eq_true h
theorem A2 : mJ K γ (rI Ez fun i j => .int (i / j)) HL.fP := ot fun _ _ h => by
  obtain ⟨a, b⟩ := (Bool.and_eq_true _ _).mp h
  exact ⟨of_decide_eq_true a, of_decide_eq_true b⟩
theorem yP {i j : Int} (h : (decide (0 ≤ j) && decide (j ≤ 1000000) && decide (i.natAbs < 2 ^ 64)) = true) : B3 i j := by
  obtain ⟨a, b⟩ := (Bool.and_eq_true _ _).mp h
  obtain ⟨a, c⟩ := (Bool.and_eq_true _ _).mp a
  exact ⟨of_decide_eq_true a, of_decide_eq_true c, of_decide_eq_true b⟩
theorem AY : mJ K γ (rI B3 fun i j => .int (i ^ j.toNat)) HL.yp := ot fun _ _ h => yP h
end
section
variable {X : Cx} {γ : Str → Addr} {a b c e : Expr} {da db dc de : DE} {pos : Pos}
theorem v (i : Nat) {x : Str} (hN : X.N[i]? = some x := by rfl) (hv : Eg X.env.scope x := by first | exact Or.inl rfl | exact Or.inr (Or.inl rfl) | exact Or.inr (Or.inr rfl)) (hd : (x == ("__debug__" : Str)) = false := by decide)
    (hcd : (x == ("__classdict__" : Str)) = false := by decide) : QE γ X (.Name x pos) (HL.ae i) := CV hN hv hd hcd
theorem sset (i : Nat) {x : Str} {pos' : Pos} (hN : X.N.Nodup) (he : QE γ X e de) (hi : X.N[i]? = some x := by rfl) (hx : xa X.env.scope x := by first | exact Or.inl rfl | exact Or.inr rfl) (hs : swapsWith e (some (.Name x pos')) pos.line X.env = pure false := by rfl) (hf : X.fn x = true ∨ X.env.scope.names.lookup x = some .local := by first | exact .inl rfl | exact .inr rfl | assumption) :
    QS γ X (.Assign [.Name x pos'] e pos) (HL.bD i de) := Av hN hi hx he hs hf
theorem gn (i : Nat) {x : Str} (hN : X.N.Nodup) (hi : X.N[i]? = some x := by rfl) (hx : xa X.env.scope x := by first | exact Or.inl rfl | exact Or.inr rfl) (hf : X.fn x = true ∨ X.env.scope.names.lookup x = some .local := by first | exact .inl rfl | exact .inr rfl | assumption) : QG γ X (.Name x pos) (HL.d7 i) := xQ hN hi hx hf
theorem pn (i : Nat) {x : Str} (hN : X.N.Nodup) (hi : X.N[i]? = some x := by rfl) (hx : xa X.env.scope x := by first | exact Or.inl rfl | exact Or.inr rfl) (hf : X.fn x = true ∨ X.env.scope.names.lookup x = some .local := by first | exact .inl rfl | exact .inr rfl | assumption) : PG X (.Name x pos) (d7 i) := sQ hN hi hx hf
theorem cZ (ha : QE γ X a da) (hb : QE γ X b db) : QE γ X (.BinOp a .Add b pos) (HL.aE HL.bt da db) := t6 yn A3 Bp ha hb
theorem wU (ha : QE γ X a da) (hb : QE γ X b db) : QE γ X (.BinOp a .Sub b pos) (HL.aE HL.oI da db) := t6 A4 AX oJ ha hb
theorem cH (ha : QE γ X a da) (hb : QE γ X b db) : QE γ X (.BinOp a .Mult b pos) (HL.aE HL.bK da db) := t6 yj AZ Bk ha hb
theorem fK (ha : QE γ X a da) (hb : QE γ X b db) : QE γ X (.BinOp a .Mod b pos) (HL.aE HL.fj da db) := t6 A9 A0 oJ ha hb
theorem bH (ha : QE γ X a da) (hb : QE γ X b db) : QE γ X (.BinOp a .FloorDiv b pos) (HL.aE HL.fP da db) := t6 yk A2 oJ ha hb
theorem Ee (ha : QE γ X a da) (hb : QE γ X b db) : QE γ X (.BinOp a .Pow b pos) (HL.aE HL.yp da db) := t6 A6 AY oJ ha hb
theorem Cq (ha : QE γ X a da) (hb : QE γ X b db) (hm : behindInMarks .Gt b = false := by rfl) : QT γ X (.Compare a [.Gt] [b] pos) (HL.dT (HL.aE HL.Dw da db)) := oi Dt lZ iM.nw iM ha hb hm
theorem BR (hu : X.A.units + 64 < cLine) (ha : QE γ X a da) (hb : QE γ X b db) (hm : behindInMarks .Eq b = false := by rfl) : QE γ X (.Compare a [.Eq] [b] pos) (HL.aE HL.vP da db) := CZ (Bb hu) Dp Ec.nw ha hb hm
theorem r6 (hu : X.A.units + 64 < cLine) (ha : QE γ X a da) (hb : QE γ X b db) (hm : behindInMarks .NotEq b = false := by rfl) : QT γ X (.Compare a [.NotEq] [b] pos) (HL.dT (HL.aE HL.xl da db)) := oi (A7 hu) Dk zL.nw zL ha hb hm
theorem Al (ha : QE γ X a da) (hb : QE γ X b db) (hm : behindInMarks .Is b = false := by rfl) : QT γ X (.Compare a [.Is] [b] pos) (HL.dT (HL.aE HL.vO da db)) := oi Ba A1 zM.nw zM ha hb hm
theorem xC (ha : QE γ X a da) (hb : QE γ X b db) (hm : behindInMarks .IsNot b = false := by rfl) : QT γ X (.Compare a [.IsNot] [b] pos) (HL.dT (HL.aE HL.hJ da db)) := oi yi yh qz.nw qz ha hb hm
theorem wN (ha : QE γ X a da) (hb : QE γ X b db) (hc : QE γ X c dc) (hm : lastMarks [.LtE, .Lt] [b, c] = false := by with_unfolding_all rfl) : QE γ X (.Compare a [.LtE, .Lt] [b, c] pos) (HL.h8 HL.B6 HL.FI da db dc) := sy vL lZ iM.nw iM Ds lZ iM.nw ha hb hc hm
theorem uJ (ha : QE γ X a da) (hb : QE γ X b db) (hc : QE γ X c dc) (hm : lastMarks [.LtE, .LtE] [b, c] = false := by with_unfolding_all rfl) : QE γ X (.Compare a [.LtE, .LtE] [b, c] pos) (HL.h8 HL.B6 HL.B6 da db dc) := sy vL lZ iM.nw iM vL lZ iM.nw ha hb hc hm
theorem Ci (ha : QE γ X a da) : QE γ X (.UnaryOp .USub a pos) (HL.D9 HL.uk da) := E9 Ab Aa Bj ha
theorem ix (ha : QE γ X a da) (hb : QE γ X b db) (hp : oY b := by exact fun _ _ => rfl) : QE γ X (.Subscript a b pos) (HL.aE HL.o4 da db) := Fb BB Dm Dx ha hb hp
theorem wO : bootBuiltins (Str.ofString "all") = some (.builtin "all") := by kernel_rfl
theorem mz {p : Pos} {es : List Expr} {d : DA} (hg : Gl X "len") (hm : X.mg "len" = none) (ha : QA γ X (e :: es) d) (he : starEach (e :: es) X.env = (false, eval e X.env) :: starEach es X.env := by rfl) (hpl : (backTo pos (starEach es X.env)).any (·.1) = false := by rfl) : QE γ X (.Call (.Name "len" p) (e :: es) [] pos) (HL.dB HL.fb d) := lj wL BO Bl hg hm PySem.boot_len ha (by decide) (by decide) he hpl
theorem DV (hc : X.calm = true) {p : Pos} {es : List Expr} {d : DA} (hg : Gl X "min") (hm : X.mg "min" = none) (ha : QA γ X (e :: es) d) (he : starEach (e :: es) X.env = (false, eval e X.env) :: starEach es X.env := by rfl) (hpl : (backTo pos (starEach es X.env)).any (·.1) = false := by rfl) : QE γ X (.Call (.Name "min" p) (e :: es) [] pos) (HL.dB HL.kM d) := lj (rF hc) yN yq hg hm PyProof.Rows.boot_min ha (by decide) (by decide) he hpl
theorem DW (hc : X.calm = true) {p : Pos} {es : List Expr} {d : DA} (hg : Gl X "all") (hm : X.mg "all" = none) (ha : QA γ X (e :: es) d) (he : starEach (e :: es) X.env = (false, eval e X.env) :: starEach es X.env := by rfl) (hpl : (backTo pos (starEach es X.env)).any (·.1) = false := by rfl) : QE γ X (.Call (.Name "all" p) (e :: es) [] pos) (HL.dB HL.qB d) := lj (wM hc) BQ Bn hg hm wO ha (by decide) (by decide) he hpl
theorem my {p : Pos} {es : List Expr} {d : DA} (hg : Gl X "list") (hm : X.mg "list" = none) (ha : QA γ X (e :: es) d) (he : starEach (e :: es) X.env = (false, eval e X.env) :: starEach es X.env := by rfl) (hpl : (backTo pos (starEach es X.env)).any (·.1) = false := by rfl) : QE γ X (.Call (.Name "list" p) (e :: es) [] pos) (HL.dB HL.bQ d) := pS oU yO vQ hg hm PyProof.Rows.boot_list ha (by decide) (by decide) he hpl
theorem lq {p : Pos} {es : List Expr} {d : DA} (hg : Gl X "tuple") (hm : X.mg "tuple" = none) (ha : QA γ X (e :: es) d) (he : starEach (e :: es) X.env = (false, eval e X.env) :: starEach es X.env := by rfl) (hpl : (backTo pos (starEach es X.env)).any (·.1) = false := by rfl) : QE γ X (.Call (.Name "tuple" p) (e :: es) [] pos) (HL.dB HL.bZ d) := pS m5 wG um hg hm PyProof.Rows.boot_tuple ha (by decide) (by decide) he hpl
theorem iq {T : HL.CT} (O : kN X.K γ T) {p : Pos} {es : List Expr} {d : DA} (hg : Gl X "isinstance") (hm : X.mg "isinstance" = none) (ha : QA γ X (e :: es) d) (he : starEach (e :: es) X.env = (false, eval e X.env) :: starEach es X.env := by rfl) (hpl : (backTo pos (starEach es X.env)).any (·.1) = false := by rfl) : QE γ X (.Call (.Name "isinstance" p) (e :: es) [] pos) (HL.dB (HL.b7 T) d) := lj uI (BP O) Bm hg hm PyProof.Rows.boot_isinstance ha (by decide) (by decide) he hpl
end
end L2
namespace L2
open PySem PySem.Spec PyProof.Rows
open HL (W SO Sh Sg OR DE DT DA DS Fn)
structure bB (K : PySem.W.Frag) (C : Addr) (m qual : Str) (st : Stmt) (ps : List Str) : Prop where
  ex : ∃ (f : Addr) (oc : Value) (od : Option Addr) (dV kV doc pm : Value) (an : Option Addr) (cdv ct : Value) (osl : Array (Option Value)),
    K.lookup f = some ⟨oc, od, .func (PySem.W.fnOf m qual (cg st) (bj st) (ah st) dV kV doc pm an cdv ct), osl⟩ ∧ PySem.W.codeIn K cdv qual = true ∧ PySem.W.keepIn K (.ref f) = true ∧ PySem.W.findIn K (.ref C) m = some (some (.ref f)) ∧ PySem.W.isFn K (.ref f) = true ∧
    ed K (PySem.W.fnOf m qual (cg st) (bj st) (ah st) dV kV doc pm an cdv ct) ps []
theorem eR {K : PySem.W.Frag} {C : Addr} {m qual : Str} {st : Stmt} {ps : List Str} {f : Addr} {oc : Value} {od an : Option Addr} {osl : Array (Option Value)} {dV kV doc pm cdv ct : Value}
    (a : PySem.W.findIn K (.ref C) m = some (some (.ref f))) (l : K.lookup f = some ⟨oc, od, .func (PySem.W.fnOf m qual (cg st) (bj st) (ah st) dV kV doc pm an cdv ct), osl⟩)
    (c : PySem.W.codeIn K cdv qual = true) (k : PySem.W.keepIn K (.ref f) = true) (n : PySem.W.isFn K (.ref f) = true) (b : ed K (PySem.W.fnOf m qual (cg st) (bj st) (ah st) dV kV doc pm an cdv ct) ps []) : bB K C m qual st ps := ⟨f, oc, od, dV, kV, doc, pm, an, cdv, ct, osl, l, c, k, a, n, b⟩
section
variable {P : Program} {w : World} {K : PySem.W.Frag} {mg : Str → Option Value} {base : Heap} {γ : Str → Addr}
theorem bB.qdef {C : Addr} {m qual : Str} {st : Stmt} {N ps : List Str} {k p n : Nat} {bd : DS} (F : bB K C m qual st ps) (S : aN N ps (ah st)) (hp : ps.length = p) (hn : N.length = n)
    (hbody : ∀ (f : Addr) (cdv : Value) (A : Around) (outer : List Env) (s : Shared) (H : Hp) (E : XK), bx k (A.deeper (envOfC qual (ah st) s.heap.objs.size f cdv)) →
      rL γ (kn tL P w K mg base N qual (ah st) f cdv A outer s H E).nox (bj st) bd) : dQ P w K mg base (k + 1) C m ps (dY K γ p (HL.fnOf p n bd)) := by
  obtain ⟨f, oc, od, dV, kV, doc, pm, an, cdv, ct, osl, lk, hcd, kp, fi, isf, hb⟩ := F.ex
  refine ⟨f, _, wb lk hcd S (fun vs H Q E h => h.1.trans hp.symm) fun A outer s H vs Q E hr hsp => ⟨_, (hbody f cdv A outer s H E hr).nox, ?_⟩, fi, isf, kp, hb⟩
  obtain ⟨_, ρ, hh, us, S, wu, e, x⟩ := hsp
  rw [e]
  subst hn
  exact oQ S wu x
structure Fs (K : PySem.W.Frag) (mg : Str → Option Value) (x : Str) (C : Addr) : Prop where
  at_ : mg x = some (.ref C)
  makes : PySem.W.makesIn K C = true
  kp : PySem.W.keepIn K (.ref C) = true
end
theorem vR {X : Cx} {γ : Str → Addr} {x : Str} {k p n : Nat} {bd : DS} {ps : List Str} (M : Fs X.K X.mg x (γ x)) (D : dQ X.prog X.w X.K X.mg X.base k (γ x) "__init__" ps (dY X.K γ p (HL.fnOf p n bd))) (hr : bx (k + 1) X.A) : zZ X γ x p (HL.fnOf p n bd) [] where
  at_ := M.at_
  ex := by
    obtain ⟨f, fd, F, a, nf, kp, b⟩ := D.ex
    exact ⟨k, f, fd, ps, [], n, bd, rfl, ⟨M.makes, a, nf, M.kp⟩, F, hr, b, fun _ => .nil, fun _ y hy => by cases hy⟩
end L2
namespace L2
open PySem PySem.Spec PyProof.Rows
open HL (W SO Sh Sg OR DE DT DA DS Fn)
structure FU (K : PySem.W.Frag) (C : Addr) (m qual : Str) (st : Stmt) (ps : List Str) (vs : List W) : Prop where
  ex : ∃ (f : Addr) (oc : Value) (od : Option Addr) (dV kV doc pm : Value) (an : Option Addr) (cdv ct : Value) (osl : Array (Option Value)),
    K.lookup f = some ⟨oc, od, .func (PySem.W.fnOf m qual (cg st) (bj st) (ah st) dV kV doc pm an cdv ct), osl⟩ ∧ PySem.W.codeIn K cdv qual = true ∧ PySem.W.keepIn K (.ref f) = true ∧ PySem.W.findIn K (.ref C) m = some (some (.ref f)) ∧ PySem.W.isFn K (.ref f) = true ∧
    ∃ ds, ed K (PySem.W.fnOf m qual (cg st) (bj st) (ah st) dV kV doc pm an cdv ct) ps ds ∧ ∀ (γ : Str → Addr) (ρ : Nat → Addr), aF (vs.map (ay γ ρ)) ds
structure Gm (P : Program) (w : World) (K : PySem.W.Frag) (mg : Str → Option Value) (base : Heap) (k : Nat) (C : Addr) (m : Str) (ps : List Str) (vs : List W) (sp : Sp) : Prop where
  ex : ∃ f fd ds, i9 P w K mg base tL k f fd ps sp ∧ PySem.W.findIn K (.ref C) m = some (some (.ref f)) ∧ PySem.W.isFn K (.ref f) = true ∧ PySem.W.keepIn K (.ref f) = true ∧ ed K fd ps ds ∧ ∀ (γ : Str → Addr) (ρ : Nat → Addr), aF (vs.map (ay γ ρ)) ds
section
variable {P : Program} {w : World} {K : PySem.W.Frag} {mg : Str → Option Value} {base : Heap} {γ : Str → Addr}
end
end L2
namespace L2
open PySem
end L2
namespace HL
open PySem (Str)
inductive P where
  | non | bl (b : Bool) | int (i : Int) | str (s : Str) | ty (n : String) | gl (x : Str)
  | lst (xs : List P) | rol (xs : List P) | tup (xs : List P) | ins (c : Str) (fs : List (Str × P)) | dct
  deriving Inhabited
mutual
def Dn (T : Nat → Prop) (h : Sh) : P → W → Prop
  | .non, w => w = .non
  | .bl b, w => w = .bl b
  | .int i, w => w = .int i
  | .str s, w => w = .str s
  | .ty n, w => w = .ty n
  | .gl x, w => w = .gl x
  | .lst ps, w => ∃ i us, w = .ref i ∧ ¬ T i ∧ h[i]? = some (.lst us) ∧ Dns T h ps us
  | .rol ps, w => ∃ i us, w = .ref i ∧ ¬ T i ∧ h[i]? = some (.rol us) ∧ Dns T h ps us
  | .tup ps, w => ∃ i us, w = .ref i ∧ ¬ T i ∧ h[i]? = some (.tup us) ∧ Dns T h ps us
  | .ins c fs, w => ∃ i gs, w = .ref i ∧ ¬ T i ∧ h[i]? = some (.ins c gs) ∧ Dnf T h fs gs
  | .dct, w => ∃ i, w = .ref i ∧ ¬ T i ∧ h[i]? = some .dct
def Dns (T : Nat → Prop) (h : Sh) : List P → List W → Prop
  | [], us => us = []
  | p :: ps, us => ∃ u r, us = u :: r ∧ Dn T h p u ∧ Dns T h ps r
def Dnf (T : Nat → Prop) (h : Sh) : List (Str × P) → List (Str × W) → Prop
  | [], us => us = []
  | p :: ps, us => ∃ u r, us = (p.1, u) :: r ∧ Dn T h p.2 u ∧ Dnf T h ps r
end
mutual
theorem Dn.mono {T T' : Nat → Prop} {h h' : Sh} (k : ∀ (i : Nat) (o : SO), ¬ T i → h[i]? = some o → h'[i]? = some o ∧ ¬ T' i) : ∀ (p : P) (w : W), Dn T h p w → Dn T' h' p w
  | .non, w, x => by simpa only [Dn] using x
  | .bl _, w, x => by simpa only [Dn] using x
  | .int _, w, x => by simpa only [Dn] using x
  | .str _, w, x => by simpa only [Dn] using x
  | .ty _, w, x => by simpa only [Dn] using x
  | .gl _, w, x => by simpa only [Dn] using x
  | .lst ps, w, x => by
    simp only [Dn] at x ⊢
    obtain ⟨i, us, e, t, g, d⟩ := x
    exact ⟨i, us, e, (k i _ t g).2, (k i _ t g).1, Dns.mono k ps us d⟩
  | .rol ps, w, x => by
    simp only [Dn] at x ⊢
    obtain ⟨i, us, e, t, g, d⟩ := x
    exact ⟨i, us, e, (k i _ t g).2, (k i _ t g).1, Dns.mono k ps us d⟩
  | .tup ps, w, x => by
    simp only [Dn] at x ⊢
    obtain ⟨i, us, e, t, g, d⟩ := x
    exact ⟨i, us, e, (k i _ t g).2, (k i _ t g).1, Dns.mono k ps us d⟩
  | .ins c fs, w, x => by
    simp only [Dn] at x ⊢
    obtain ⟨i, us, e, t, g, d⟩ := x
    exact ⟨i, us, e, (k i _ t g).2, (k i _ t g).1, Dnf.mono k fs us d⟩
  | .dct, w, x => by
    simp only [Dn] at x ⊢
    obtain ⟨i, e, t, g⟩ := x
    exact ⟨i, e, (k i _ t g).2, (k i _ t g).1⟩
theorem Dns.mono {T T' : Nat → Prop} {h h' : Sh} (k : ∀ (i : Nat) (o : SO), ¬ T i → h[i]? = some o → h'[i]? = some o ∧ ¬ T' i) : ∀ (ps : List P) (us : List W), Dns T h ps us → Dns T' h' ps us
  | [], us, x => by simpa only [Dns] using x
  | p :: ps, us, x => by
    simp only [Dns] at x ⊢
    obtain ⟨u, r, e, d, ds⟩ := x
    exact ⟨u, r, e, Dn.mono k p u d, Dns.mono k ps r ds⟩
theorem Dnf.mono {T T' : Nat → Prop} {h h' : Sh} (k : ∀ (i : Nat) (o : SO), ¬ T i → h[i]? = some o → h'[i]? = some o ∧ ¬ T' i) : ∀ (ps : List (Str × P)) (us : List (Str × W)), Dnf T h ps us → Dnf T' h' ps us
  | [], us, x => by simpa only [Dnf] using x
  | p :: ps, us, x => by
    simp only [Dnf] at x ⊢
    obtain ⟨u, r, e, d, ds⟩ := x
    exact ⟨u, r, e, Dn.mono k p.2 u d, Dnf.mono k ps r ds⟩
end
section
variable {T : Nat → Prop} {h l : Sh}
theorem ao {i : Nat} {o : SO} (e : h[i]? = some o) : (h ++ l)[i]? = some o := by
  rw [List.getElem?_append_left (List.getElem?_eq_some_iff.mp e).1]; exact e
theorem Dn.app {p : P} {w : W} (x : Dn T h p w) : Dn T (h ++ l) p w := Dn.mono (fun _ _ t e => ⟨ao e, t⟩) p w x
theorem Dns.app {p : List P} {w : List W} (x : Dns T h p w) : Dns T (h ++ l) p w := Dns.mono (fun _ _ t e => ⟨ao e, t⟩) p w x
theorem Dns.length : ∀ {ps : List P} {us : List W}, Dns T h ps us → us.length = ps.length
  | [], us, x => by simp only [Dns] at x; rw [x]; rfl
  | p :: ps, us, x => by
    simp only [Dns] at x
    obtain ⟨u, r, e, d, ds⟩ := x
    rw [e, List.length_cons, List.length_cons, Dns.length ds]
theorem Dns.get : ∀ {ps : List P} {us : List W} {i : Nat} {p : P}, Dns T h ps us → ps[i]? = some p → ∃ u, us[i]? = some u ∧ Dn T h p u
  | [], us, i, p, x, e => by simp at e
  | q :: ps, us, 0, p, x, e => by
    simp only [Dns] at x
    obtain ⟨u, r, e1, d, ds⟩ := x
    simp at e; subst e
    exact ⟨u, by rw [e1]; rfl, d⟩
  | q :: ps, us, i + 1, p, x, e => by
    simp only [Dns] at x
    obtain ⟨u, r, e1, d, ds⟩ := x
    obtain ⟨v, a, b⟩ := Dns.get (i := i) ds (by simpa using e)
    exact ⟨v, by rw [e1]; simpa using a, b⟩
theorem Dns.append : ∀ {ps qs : List P} {us vs : List W}, Dns T h ps us → Dns T h qs vs → Dns T h (ps ++ qs) (us ++ vs)
  | [], qs, us, vs, x, y => by simp only [Dns] at x; rw [x]; exact y
  | p :: ps, qs, us, vs, x, y => by
    simp only [Dns] at x
    obtain ⟨u, r, e, d, ds⟩ := x
    rw [e]
    simp only [List.cons_append, Dns]
    exact ⟨u, _, rfl, d, Dns.append ds y⟩
theorem Dns.one {p : P} {u : W} (d : Dn T h p u) : Dns T h [p] [u] := by
  simp only [Dns]; exact ⟨u, [], rfl, d, rfl⟩
theorem Dns.rep {ps : List P} {us : List W} (x : Dns T h ps us) : ∀ n : Nat, Dns T h (List.replicate n ps).flatten (List.replicate n us).flatten
  | 0 => by simp only [List.replicate_zero, List.flatten_nil, Dns]
  | n + 1 => by
    rw [List.replicate_succ, List.replicate_succ, List.flatten_cons, List.flatten_cons]
    exact x.append (Dns.rep x n)
theorem Dns.nil_iff {ps : List P} {us : List W} (x : Dns T h ps us) : us.isEmpty = ps.isEmpty := by
  cases ps with
  | nil => simp only [Dns] at x; rw [x]; rfl
  | cons p ps => simp only [Dns] at x; obtain ⟨u, r, e, _⟩ := x; rw [e]; rfl
end
inductive Fv where
  | val (p : P) | own (xs : List P)
  deriving Inhabited
inductive Sl where
  | no | val (p : P) | own (xs : List P) | obj (c : Str) (fs : List (Str × Fv))
  deriving Inhabited
abbrev Dl := List Sl
inductive RS where
  | nx (d : Dl) | rt (p : P) | rx (p : P) (d : Dl) | ro (xs : List P) | bk (d : Dl) | ct (d : Dl) | er
inductive RF where
  | v (p : P) | o (xs : List P)
def RF.val : RF → P
  | .v p => p
  | .o xs => .lst xs
abbrev PE := Dl → Option P
abbrev PT := Dl → Option Bool
abbrev PA := Dl → Option (List P)
abbrev PS := Dl → RS
abbrev PF := List P → Option RF
def gJ (T : Nat → Prop) (h : Sh) : List (Str × Fv) → List (Str × W) → List Nat → Prop
  | [], gs, o => gs = [] ∧ o = []
  | (f, .val p) :: fs, gs, o => ∃ u r, gs = (f, u) :: r ∧ Dn T h p u ∧ gJ T h fs r o
  | (f, .own xs) :: fs, gs, o => ∃ a us r o', gs = (f, .ref a) :: r ∧ o = a :: o' ∧ h[a]? = some (.lst us) ∧ Dns T h xs us ∧ gJ T h fs r o'
def xp (T : Nat → Prop) (h : Sh) (w : Option W) (o : List Nat) : Sl → Prop
  | .no => o = []
  | .val p => o = [] ∧ ∃ u, w = some u ∧ Dn T h p u
  | .own xs => ∃ a us, o = [a] ∧ w = some (.ref a) ∧ h[a]? = some (.lst us) ∧ Dns T h xs us
  | .obj c fs => ∃ a gs o', o = a :: o' ∧ o.Nodup ∧ w = some (.ref a) ∧ h[a]? = some (.ins c gs) ∧ gJ T h fs gs o'
def Ow (O : List (List Nat)) (a : Nat) : Prop := ∃ l ∈ O, a ∈ l
theorem Ow.of {O : List (List Nat)} {i a : Nat} {l : List Nat} (e : O[i]? = some l) (m : a ∈ l) : Ow O a := ⟨l, List.mem_of_getElem? e, m⟩
theorem Ow.one {O : List (List Nat)} {i a : Nat} (e : O[i]? = some [a]) : Ow O a := Ow.of e List.mem_cons_self
theorem Ow.at_ {O : List (List Nat)} {a : Nat} (x : Ow O a) : ∃ (i : Nat) (l : List Nat), O[i]? = some l ∧ a ∈ l := by
  obtain ⟨l, m, h⟩ := x
  obtain ⟨i, e⟩ := List.mem_iff_getElem?.mp m
  exact ⟨i, l, e, h⟩
theorem Ow.set {O : List (List Nat)} {i a : Nat} {l : List Nat} (x : Ow (O.set i l) a) : Ow O a ∨ a ∈ l := by
  obtain ⟨k, m, z⟩ := x
  rcases List.mem_or_eq_of_mem_set m with q | q
  · exact .inl ⟨k, q, z⟩
  · subst q; exact .inr z
theorem Ow.none {m a : Nat} (x : Ow (List.replicate m []) a) : False := by
  obtain ⟨l, q, z⟩ := x
  rw [(List.mem_replicate.mp q).2] at z; cases z
theorem v9 {O : List (List Nat)} {i : Nat} {a : Nat} {l : List Nat} (o : (O[i]?).getD [] = a :: l) : O[i]? = some (a :: l) := by
  cases q : O[i]? with
  | none => rw [q] at o; cases o
  | some z => rw [q] at o; exact congrArg some o
def Tb (B : Nat → Prop) (O : List (List Nat)) : Nat → Prop := fun i => B i ∨ Ow O i
structure Lo where
  at_ : Nat
  lent : Nat → Prop
  me : Option W
structure Env (n : Lo) (B : Nat → Prop) (O : List (List Nat)) (s : Sg) (h : Sh) (δ : Dl) : Prop where
  le : n.at_ ≤ h.length
  old : ∀ i, B i → i < n.at_ ∧ ¬ n.lent i
  ls : s.length = δ.length
  lo : O.length = δ.length
  one : ∀ (i j a : Nat) (l m : List Nat), O[i]? = some l → O[j]? = some m → a ∈ l → a ∈ m → i = j
  new : ∀ a, Ow O a → (n.at_ ≤ a ∨ n.lent a) ∧ a < h.length
  at_ : ∀ (i : Nat) (sl : Sl), δ[i]? = some sl → xp (Tb B O) h ((s[i]?).getD none) ((O[i]?).getD []) sl
  self : ∀ c fs w, δ[0]? = some (.obj c fs) → n.me = some w → s[0]? = some (some w)
section
variable {n : Lo} {B : Nat → Prop} {O : List (List Nat)} {s : Sg} {h l : Sh} {δ : Dl}
theorem gJ.mv {T T' : Nat → Prop} {h h' : Sh} (k : ∀ (i : Nat) (u : SO), ¬ T i → h[i]? = some u → h'[i]? = some u ∧ ¬ T' i) : ∀ (fs : List (Str × Fv)) (gs : List (Str × W)) (o : List Nat), (∀ a ∈ o, ∀ u, h[a]? = some u → h'[a]? = some u) → gJ T h fs gs o → gJ T' h' fs gs o
  | [], gs, o, ko, x => by simpa only [gJ] using x
  | (f, .val p) :: fs, gs, o, ko, x => by
    simp only [gJ] at x ⊢
    obtain ⟨u, r, e, d, y⟩ := x
    exact ⟨u, r, e, Dn.mono k p u d, gJ.mv k fs r o ko y⟩
  | (f, .own xs) :: fs, gs, o, ko, x => by
    simp only [gJ] at x ⊢
    obtain ⟨a, us, r, o', e1, e2, g, d, y⟩ := x
    subst e2
    exact ⟨a, us, r, o', e1, rfl, ko a List.mem_cons_self _ g, Dns.mono k xs us d, gJ.mv k fs r o' (fun b hb => ko b (List.mem_cons_of_mem _ hb)) y⟩
theorem xp.mv {T T' : Nat → Prop} {h h' : Sh} {w : Option W} {o : List Nat} {sl : Sl} (x : xp T h w o sl) (k : ∀ (i : Nat) (u : SO), ¬ T i → h[i]? = some u → h'[i]? = some u ∧ ¬ T' i) (ko : ∀ a ∈ o, ∀ u, h[a]? = some u → h'[a]? = some u) : xp T' h' w o sl := by
  cases sl with
  | no => exact x
  | val p => obtain ⟨a, u, b, d⟩ := x; exact ⟨a, u, b, Dn.mono k p u d⟩
  | own xs => obtain ⟨a, us, b, c, d, e⟩ := x; exact ⟨a, us, b, c, ko a (by rw [b]; exact List.mem_cons_self) _ d, Dns.mono k xs us e⟩
  | obj c fs =>
    obtain ⟨a, gs, o', e1, nd, e2, g, y⟩ := x
    exact ⟨a, gs, o', e1, nd, e2, ko a (by rw [e1]; exact List.mem_cons_self) _ g, gJ.mv k fs gs o' (fun b hb => ko b (by rw [e1]; exact List.mem_cons_of_mem _ hb)) y⟩
theorem xp.app {T : Nat → Prop} {w : Option W} {o : List Nat} {sl : Sl} (x : xp T h w o sl) : xp T (h ++ l) w o sl := x.mv (fun _ _ t e => ⟨ao e, t⟩) fun _ _ _ e => ao e
theorem Env.app (E : Env n B O s h δ) : Env n B O s (h ++ l) δ :=
  ⟨by rw [List.length_append]; have := E.le; omega, E.old, E.ls, E.lo, E.one, fun a ha => ⟨(E.new a ha).1, by rw [List.length_append]; have := (E.new a ha).2; omega⟩, fun i sl e => (E.at_ i sl e).app, E.self⟩
theorem pJ (E : Env n B O s h δ) (i : Nat) {x : Sl} {v : Option W} (hx : ∀ c fs, x ≠ .obj c fs) : ∀ c fs w, (δ.set i x)[0]? = some (.obj c fs) → n.me = some w → (s.set i v)[0]? = some (some w) := fun c fs w e m => by
  by_cases hi : i = 0
  · subst hi
    rw [List.getElem?_set] at e
    simp only [if_true] at e
    split at e
    · cases e; exact absurd rfl (hx c fs)
    · cases e
  · rw [List.getElem?_set_ne hi] at e ⊢; exact E.self c fs w e m
theorem u5 (E : Env n B O s h δ) (i : Nat) {x : Sl} (hx : ∀ c fs, x ≠ .obj c fs) : ∀ c fs w, (δ.set i x)[0]? = some (.obj c fs) → n.me = some w → s[0]? = some (some w) := fun c fs w e m => by
  by_cases hi : i = 0
  · subst hi
    rw [List.getElem?_set] at e
    simp only [if_true] at e
    split at e
    · cases e; exact absurd rfl (hx c fs)
    · cases e
  · rw [List.getElem?_set_ne hi] at e; exact E.self c fs w e m
def Pe (d : DE) (p : PE) : Prop := ∀ n B O s h δ r, Env n B O s h δ → p δ = some r → ∃ w l, d s h = .ok w (h ++ l) ∧ Dn (Tb B O) (h ++ l) r w
def iy (T : Nat → Prop) (h : Sh) (p : P) (w : W) : Prop := Dn T h p w ∨ ∃ xs a us, p = .lst xs ∧ w = .ref a ∧ h[a]? = some (.lst us) ∧ Dns T h xs us
theorem iy.app {T : Nat → Prop} {p : P} {w : W} (x : iy T h p w) : iy T (h ++ l) p w := by
  rcases x with x | ⟨xs, a, us, e1, e2, g, d⟩
  · exact .inl x.app
  · exact .inr ⟨xs, a, us, e1, e2, ao g, d.app⟩
def Pb (d : DE) (p : PE) : Prop := ∀ n B O s h δ r, Env n B O s h δ → p δ = some r → ∃ w l, d s h = .ok w (h ++ l) ∧ iy (Tb B O) (h ++ l) r w
theorem Pe.b {d : DE} {p : PE} (x : Pe d p) : Pb d p := fun n B O s h δ r E e => by
  obtain ⟨w, l, a, b⟩ := x n B O s h δ r E e
  exact ⟨w, l, a, .inl b⟩
def Po (d : DE) (p : Dl → Option (List P)) : Prop := ∀ n B O s h δ r, Env n B O s h δ → p δ = some r → ∃ a l us, d s h = .ok (.ref a) (h ++ l) ∧ h.length ≤ a ∧ (h ++ l)[a]? = some (.lst us) ∧ Dns (fun i => Tb B O i ∨ i = a) (h ++ l) r us
theorem Dns.weak {T T' : Nat → Prop} {ps : List P} {us : List W} (x : Dns T h ps us) (k : ∀ i, T' i → T i) : Dns T' h ps us := Dns.mono (fun i o t e => ⟨e, fun z => t (k i z)⟩) ps us x
theorem Dn.weak {T T' : Nat → Prop} {p : P} {u : W} (x : Dn T h p u) (k : ∀ i, T' i → T i) : Dn T' h p u := Dn.mono (fun i o t e => ⟨e, fun z => t (k i z)⟩) p u x
theorem Tb.lt (E : Env n B O s h δ) {i : Nat} (t : Tb B O i) : i < h.length := by
  rcases t with t | t
  · exact Nat.lt_of_lt_of_le (E.old i t).1 E.le
  · exact (E.new i t).2
theorem Po.e {d : DE} {p : Dl → Option (List P)} (x : Po d p) : Pe d (fun δ => (p δ).map .lst) := fun n B O s h δ r E e => by
  have e : (p δ).map P.lst = some r := e
  cases q : p δ with
  | none => rw [q] at e; cases e
  | some xs =>
    rw [q] at e; cases e
    obtain ⟨a, l, us, e1, ge, g, ds⟩ := x n B O s h δ xs E q
    refine ⟨_, l, e1, ?_⟩
    simp only [Dn]
    exact ⟨a, us, rfl, fun t => absurd (Tb.lt E t) (by omega), g, ds.weak fun i t => .inl t⟩
def Pa (d : DA) (p : PA) : Prop := ∀ n B O s h δ r, Env n B O s h δ → p δ = some r → ∃ w l, d s h = .ok w (h ++ l) ∧ Dns (Tb B O) (h ++ l) r w
def Pt (d : DT) (p : PT) : Prop := ∀ n B O s h δ r, Env n B O s h δ → p δ = some r → ∃ l, d s h = .ok r (h ++ l)
def aQ (i : Nat) : PE := fun δ => match δ[i]? with
  | some (.val p) => some p
  | _ => none
def Di (i : Nat) : PE := fun δ => match δ[i]? with
  | some (.val p) => some p
  | some (.own xs) => some (.lst xs)
  | _ => none
theorem ar (i : Nat) : Pe (ae i) (aQ i) := fun n B O s h δ r E e => by
  unfold aQ at e
  split at e
  · rename_i p q
    cases e
    obtain ⟨_, u, a, b⟩ := E.at_ i _ q
    refine ⟨u, [], ?_, by rw [List.append_nil]; exact b⟩
    unfold ae
    cases q2 : s[i]? with
    | none => rw [q2] at a; cases a
    | some z => rw [q2] at a; simp only [Option.getD_some] at a; subst a; rw [List.append_nil]
  · cases e
def pC (p : P) : PE := fun _ => some p
theorem DZ {w : W} {p : P} (k : ∀ T h, Dn T h p w) : Pe (dC w) (pC p) := fun n B O s h δ r E e => by
  cases e
  exact ⟨w, [], by rw [List.append_nil]; rfl, k _ _⟩
theorem aR (i : Int) : Pe (dC (.int i)) (pC (.int i)) := DZ fun _ _ => by simp only [Dn]
theorem D0 (b : Bool) : Pe (dC (.bl b)) (pC (.bl b)) := DZ fun _ _ => by simp only [Dn]
theorem nG : Pe (dC .non) (pC .non) := DZ fun _ _ => by simp only [Dn]
theorem DY (x : Str) : Pe (dC (.str x)) (pC (.str x)) := DZ fun _ _ => by simp only [Dn]
theorem qk (x : String) : Pe (dC (.ty x)) (pC (.ty x)) := DZ fun _ _ => by simp only [Dn]
def mI (T : Nat → Prop) (h : Sh) (r : P) : OR → Prop
  | .er => False
  | .val u => Dn T h r u
  | .new (.lst us) => ∃ rs, r = .lst rs ∧ Dns T h rs us
  | .new (.tup us) => ∃ rs, r = .tup rs ∧ Dns T h rs us
  | .new _ => False
theorem td {T : Nat → Prop} {o : OR} {r : P} (lt : ∀ i, T i → i < h.length) (x : mI T h r o) : ∃ w l, o.fin h = .ok w (h ++ l) ∧ Dn T (h ++ l) r w := by
  cases o with
  | er => exact x.elim
  | val u => exact ⟨u, [], by rw [List.append_nil]; rfl, by rw [List.append_nil]; exact x⟩
  | new o =>
    cases o with
    | lst us =>
      obtain ⟨rs, rfl, d⟩ := x
      refine ⟨_, [.lst us], rfl, ?_⟩
      simp only [Dn]
      exact ⟨h.length, us, rfl, fun t => absurd (lt _ t) (by omega), by simp, d.app⟩
    | tup us =>
      obtain ⟨rs, rfl, d⟩ := x
      refine ⟨_, [.tup us], rfl, ?_⟩
      simp only [Dn]
      exact ⟨h.length, us, rfl, fun t => absurd (lt _ t) (by omega), by simp, d.app⟩
    | _ => exact x.elim
def tI (f : O2) (g : P → P → Option P) : Prop := ∀ T h p q w v r, iy T h p w → iy T h q v → g p q = some r → mI T h r (f w v h)
def cX (g : P → P → Option P) (a b : PE) : PE := fun δ => (a δ).bind fun x => (b δ).bind fun y => g x y
theorem aY {f : O2} {g : P → P → Option P} {a b : DE} {p q : PE} (k : tI f g) (ha : Pb a p) (hb : Pb b q) : Pe (aE f a b) (cX g p q) := fun n B O s h δ r E e => by
  unfold cX at e
  cases e1 : p δ with
  | none => rw [e1] at e; cases e
  | some x =>
    rw [e1] at e
    simp only [Option.bind_some] at e
    cases e2 : q δ with
    | none => rw [e2] at e; cases e
    | some y =>
      rw [e2] at e
      simp only [Option.bind_some] at e
      obtain ⟨w, l, c1, d1⟩ := ha n B O s h δ x E e1
      obtain ⟨v, l2, c2, d2⟩ := hb n B O s (h ++ l) δ y E.app e2
      have d1' : iy (Tb B O) (h ++ l ++ l2) x w := d1.app
      obtain ⟨u, l3, c3, d3⟩ := td (h := h ++ l ++ l2) (fun i t => Tb.lt (E.app (l := l) |>.app (l := l2)) t) (k _ _ _ _ _ _ _ d1' d2 e)
      refine ⟨u, l ++ l2 ++ l3, ?_, ?_⟩
      · unfold aE
        rw [c1]
        simp only [R.bind]
        rw [c2]
        simp only
        rw [c3]
        simp only [List.append_assoc]
      · simp only [List.append_assoc] at d3 ⊢
        exact d3
theorem iy.int {T : Nat → Prop} {i : Int} {w : W} (x : iy T h (.int i) w) : w = .int i := by
  rcases x with x | ⟨xs, a, us, e, _⟩
  · simpa only [Dn] using x
  · cases e
theorem iy.str {T : Nat → Prop} {i : Str} {w : W} (x : iy T h (.str i) w) : w = .str i := by
  rcases x with x | ⟨xs, a, us, e, _⟩
  · simpa only [Dn] using x
  · cases e
theorem iy.bl {T : Nat → Prop} {i : Bool} {w : W} (x : iy T h (.bl i) w) : w = .bl i := by
  rcases x with x | ⟨xs, a, us, e, _⟩
  · simpa only [Dn] using x
  · cases e
theorem iy.non {T : Nat → Prop} {w : W} (x : iy T h .non w) : w = .non := by
  rcases x with x | ⟨xs, a, us, e, _⟩
  · simpa only [Dn] using x
  · cases e
theorem iy.lst {T : Nat → Prop} {xs : List P} {w : W} (x : iy T h (.lst xs) w) : ∃ a us, w = .ref a ∧ h[a]? = some (.lst us) ∧ Dns T h xs us := by
  rcases x with x | ⟨ys, a, us, e, e2, g, d⟩
  · simp only [Dn] at x
    obtain ⟨i, us, e, _, g, d⟩ := x
    exact ⟨i, us, e, g, d⟩
  · cases e; exact ⟨a, us, e2, g, d⟩
theorem iy.rol {T : Nat → Prop} {xs : List P} {w : W} (x : iy T h (.rol xs) w) : ∃ a us, w = .ref a ∧ h[a]? = some (.rol us) ∧ Dns T h xs us := by
  rcases x with x | ⟨ys, a, us, e, e2, g, d⟩
  · simp only [Dn] at x
    obtain ⟨i, us, e, _, g, d⟩ := x
    exact ⟨i, us, e, g, d⟩
  · cases e
theorem iy.tup {T : Nat → Prop} {xs : List P} {w : W} (x : iy T h (.tup xs) w) : ∃ a us, w = .ref a ∧ ¬ T a ∧ h[a]? = some (.tup us) ∧ Dns T h xs us := by
  rcases x with x | ⟨ys, a, us, e, e2, g, d⟩
  · simp only [Dn] at x
    obtain ⟨i, us, e, t, g, d⟩ := x
    exact ⟨i, us, e, t, g, d⟩
  · cases e
def pZ (c : Int → Int → Bool) (f : Int → Int → Int) : P → P → Option P
  | .int i, .int j => if c i j then some (.int (f i j)) else none
  | _, _ => none
theorem tD {c : Int → Int → Bool} {f : Int → Int → Int} : tI (kR c f) (pZ c f) := fun T h p q w v r x y e => by
  unfold pZ at e
  split at e
  · split at e
    · rename_i hc
      cases e
      rw [x.int, y.int]
      unfold kR
      simp only [hc, if_true, mI, Dn]
    · cases e
  · cases e
def t7 (c : Int → Int → Bool) : P → P → Option P
  | .int i, .int j => some (.bl (c i j))
  | _, _ => none
theorem D8 {c : Int → Int → Bool} : tI (kS c) (t7 c) := fun T h p q w v r x y e => by
  unfold t7 at e
  split at e
  · cases e
    rw [x.int, y.int]
    unfold kS
    simp only [mI, Dn]
  · cases e
def jG : P → P → Option P
  | .int i, .int j => some (.int (i + j))
  | .str s, .str t => if s.length + t.length ≤ gT then some (.str (s ++ t)) else none
  | .lst xs, .lst ys => if xs.length + ys.length ≤ gT then some (.lst (xs ++ ys)) else none
  | .tup xs, .tup ys => if xs.length + ys.length ≤ gT ∧ !xs.isEmpty then some (.tup (xs ++ ys)) else none
  | _, _ => none
theorem gQ : tI bt jG := fun T h p q w v r x y e => by
  unfold jG at e
  split at e
  · cases e; rw [x.int, y.int]; unfold bt; simp only [mI, Dn]
  · split at e
    · rename_i hl; cases e; rw [x.str, y.str]; unfold bt; simp only [hl, if_true, mI, Dn]
    · cases e
  · split at e
    · rename_i hl
      cases e
      obtain ⟨a, us, rfl, g1, d1⟩ := x.lst
      obtain ⟨b, vs, rfl, g2, d2⟩ := y.lst
      unfold bt
      simp only [g1, g2, d1.length, d2.length, hl, if_true, mI]
      exact ⟨_, rfl, d1.append d2⟩
    · cases e
  · split at e
    · rename_i hl
      cases e
      obtain ⟨a, us, rfl, t1, g1, d1⟩ := x.tup
      obtain ⟨b, vs, rfl, t2, g2, d2⟩ := y.tup
      have e1 := d1.nil_iff
      have e2 := d2.nil_iff
      unfold bt
      simp only [g1, g2, d1.length, d2.length]
      have hu : us ≠ [] := fun z => by
        rw [z] at e1
        have := hl.2
        rw [← e1] at this
        simp at this
      rw [if_pos ⟨hl.1, hu⟩]
      by_cases hv : vs = []
      · rw [if_pos hv]
        subst hv
        have hy : ∀ ys : List P, Dns T h ys [] → ys = [] := fun ys d => by
          cases ys with
          | nil => rfl
          | cons a b => simp only [Dns] at d; obtain ⟨_, _, z, _⟩ := d; cases z
        rw [hy _ d2, List.append_nil]
        simp only [mI, Dn]
        exact ⟨a, us, rfl, t1, g1, d1⟩
      · rw [if_neg hv]
        exact ⟨_, rfl, d1.append d2⟩
    · cases e
  · cases e
def lV : P → P → Option P
  | .int i, .int j => if eQ i j then some (.int (i * j)) else none
  | .lst xs, .int k => if k < 2 ^ 20 ∧ -(2 ^ 20) < k ∧ xs.length * k.toNat ≤ gT then some (.lst (List.replicate k.toNat xs).flatten) else none
  | _, _ => none
theorem kF : tI bK lV := fun T h p q w v r x y e => by
  unfold lV at e
  split at e
  · split at e
    · rename_i hc; cases e; rw [x.int, y.int]; unfold bK; simp only [hc, if_true, mI, Dn]
    · cases e
  · split at e
    · rename_i hc
      cases e
      obtain ⟨a, us, rfl, g1, d1⟩ := x.lst
      rw [y.int]
      unfold bK
      simp only [g1, d1.length]
      rw [if_pos hc]
      exact ⟨_, rfl, d1.rep _⟩
    · cases e
  · cases e
def nW : P → Option (List P)
  | .lst xs => some xs
  | .rol xs => some xs
  | .tup xs => some xs
  | _ => none
theorem iy.seq {T : Nat → Prop} {p : P} {xs : List P} {w : W} (x : iy T h p w) (e : nW p = some xs) : ∃ us, fg h w = some us ∧ Dns T h xs us := by
  cases p with
  | lst ys => cases e; obtain ⟨a, us, rfl, g, d⟩ := x.lst; exact ⟨us, by simp [fg, lstW, eL, g], d⟩
  | rol ys => cases e; obtain ⟨a, us, rfl, g, d⟩ := x.rol; exact ⟨us, by simp [fg, lstW, eL, g], d⟩
  | tup ys => cases e; obtain ⟨a, us, rfl, _, g, d⟩ := x.tup; exact ⟨us, by simp [fg, lstW, eL, g], d⟩
  | _ => cases e
def jv (xs : List P) (i : Int) : Option P := (kU xs.length i).bind fun j => xs[j]?
def xU (p q : P) : Option P := match nW p, q with
  | some xs, .int i => jv xs i
  | _, _ => none
theorem BL : tI o4 xU := fun T h p q w v r x y e => by
  unfold xU at e
  split at e
  · rename_i xs i e1
    obtain ⟨us, g, d⟩ := x.seq e1
    rw [y.int]
    unfold o4
    rw [g]
    simp only
    unfold jv at e
    unfold BV
    rw [d.length]
    cases e2 : kU xs.length i with
    | none => rw [e2] at e; cases e
    | some j =>
      rw [e2] at e
      obtain ⟨u, hu, du⟩ := d.get (show xs[j]? = some r from e)
      simp only [Option.bind_some, hu, mI]
      exact du
  · cases e
def FC (n : Bool) (p q : P) : Option P := match q with
  | .non => some (.bl (match p with | .non => !n | _ => n))
  | _ => none
theorem BE {T : Nat → Prop} {p : P} {w : W} (x : iy T h p w) : decide (w = .non) = (match p with | .non => true | _ => false) := by
  rcases x with x | ⟨xs, a, us, rfl, rfl, _⟩
  · cases p <;> simp only [Dn] at x
    case non => subst x; rfl
    case lst => obtain ⟨_, _, rfl, _⟩ := x; rfl
    case rol => obtain ⟨_, _, rfl, _⟩ := x; rfl
    case tup => obtain ⟨_, _, rfl, _⟩ := x; rfl
    case ins => obtain ⟨_, _, rfl, _⟩ := x; rfl
    case dct => obtain ⟨_, rfl, _⟩ := x; rfl
    all_goals (subst x; rfl)
  · rfl
theorem yL : tI vO (FC false) := fun T h p q w v r x y e => by
  unfold FC at e
  split at e
  · cases e
    rw [y.non]
    unfold vO
    simp only [mI, Dn, BE x]
    cases p <;> rfl
  · cases e
end
end HL
namespace HL
open PySem (Str)
section
variable {n : Lo} {B : Nat → Prop} {O : List (List Nat)} {s : Sg} {h l : Sh} {δ : Dl}
def eW (f : P → Option D) : List P → Option (List D)
  | [] => some []
  | x :: r => (f x).bind fun d => (eW f r).map (d :: ·)
def eY : Nat → P → Option D
  | _, .non => some .non
  | _, .bl b => some (.bl b)
  | _, .int i => some (.int i)
  | _, .str x => if EC x then some (.str x) else none
  | n + 1, .lst xs => (eW (eY n) xs).map .lst
  | n + 1, .rol xs => (eW (eY n) xs).map .lst
  | n + 1, .tup xs => (eW (eY n) xs).map .tup
  | _, _ => none
theorem mB {T : Nat → Prop} {f : P → Option D} {g : W → Option D} (k : ∀ p w d, Dn T h p w → f p = some d → g w = some d) : ∀ (ps : List P) (us : List W) (ds : List D), Dns T h ps us → eW f ps = some ds → km g us = some ds
  | [], us, ds, x, e => by simp only [Dns] at x; rw [x]; exact e
  | p :: ps, us, ds, x, e => by
    simp only [Dns] at x
    obtain ⟨u, r, rfl, d, dr⟩ := x
    unfold eW at e
    unfold km
    cases e1 : f p with
    | none => rw [e1] at e; cases e
    | some a =>
      rw [e1] at e
      cases e2 : eW f ps with
      | none => rw [e2] at e; cases e
      | some b => rw [e2] at e; rw [k p u a d e1, mB k ps r b dr e2]; exact e
theorem zG {T : Nat → Prop} : ∀ (n : Nat) (p : P) (w : W) (d : D), Dn T h p w → eY n p = some d → jS n h w = some d := by
  intro n
  induction n with
  | zero =>
    intro p w d x e
    cases p <;> simp only [Dn] at x <;> first
      | (subst x; exact e)
      | cases e
  | succ n ih =>
    intro p w d x e
    cases p <;> simp only [Dn] at x
    case lst ps =>
      obtain ⟨i, us, rfl, _, g, ds⟩ := x
      unfold eY at e
      unfold jS
      rw [g]
      simp only
      cases q : eW (eY n) ps with
      | none => rw [q] at e; cases e
      | some b => rw [q] at e; rw [mB ih ps us b ds q]; exact e
    case rol ps =>
      obtain ⟨i, us, rfl, _, g, ds⟩ := x
      unfold eY at e
      unfold jS
      rw [g]
      simp only
      cases q : eW (eY n) ps with
      | none => rw [q] at e; cases e
      | some b => rw [q] at e; rw [mB ih ps us b ds q]; exact e
    case tup ps =>
      obtain ⟨i, us, rfl, _, g, ds⟩ := x
      unfold eY at e
      unfold jS
      rw [g]
      simp only
      cases q : eW (eY n) ps with
      | none => rw [q] at e; cases e
      | some b => rw [q] at e; rw [mB ih ps us b ds q]; exact e
    case ins => cases e
    case dct => cases e
    all_goals first
      | (subst x; exact e)
theorem zH {T : Nat → Prop} {n : Nat} {p : P} {w : W} {d : D} (x : iy T h p w) (e : eY (n + 1) p = some d) : jS (n + 1) h w = some d := by
  rcases x with x | ⟨xs, a, us, rfl, rfl, g, ds⟩
  · exact zG _ p w d x e
  · unfold eY at e
    unfold jS
    rw [g]
    simp only
    cases q : eW (eY n) xs with
    | none => rw [q] at e; cases e
    | some b => rw [q] at e; rw [mB (zG n) xs us b ds q]; exact e
def BK (p q : P) : Option Bool := match p, q with
  | .str a, .str b => some (decide (a = b))
  | .int a, .int b => some (decide (a = b))
  | p, q => (match eY j3 p, eY j3 q with
    | some a, some b => some (D.eq a b)
    | _, _ => none)
theorem zI {T : Nat → Prop} {p q : P} {w v : W} {b : Bool} (x : iy T h p w) (y : iy T h q v) (e : BK p q = some b) : Ca w v h = some b := by
  have deep : (match eY j3 p, eY j3 q with | some a, some b => some (D.eq a b) | _, _ => none) = some b → (match jS j3 h w, jS j3 h v with | some a, some b => some (D.eq a b) | _, _ => none) = some b := fun e => by
    split at e
    · rename_i a c e1 e2
      rw [show jS j3 h w = some a from zH (n := 7) x e1, show jS j3 h v = some c from zH (n := 7) y e2]
      exact e
    · cases e
  unfold BK at e
  split at e
  · rw [x.str, y.str]; exact e
  · rw [x.int, y.int]; exact e
  · have z := deep e
    unfold Ca
    split
    · rename_i a c
      rw [← z]
      unfold jS
      split
      · rename_i d1 d2 h1 h2
        split at h1
        · split at h2
          · cases h1; cases h2; simp only [D.eq]; refine congrArg some ?_; rw [Bool.eq_iff_iff]; simp
          · cases h2
        · cases h1
      · rename_i hne
        split at z
        · rename_i d1 d2 h1 h2
          exact absurd (h1) (fun h1 => hne d1 d2 (by unfold jS at h1; exact h1) (by unfold jS at h2; exact h2))
        · cases z
    · rename_i a c
      rw [← z]
      simp only [jS, D.eq]
      refine congrArg some ?_
      rw [Bool.eq_iff_iff]; simp
    · exact z
def sL (m : Bool) (p q : P) : Option P := (BK p q).map fun b => .bl (m != b)
theorem BM : tI vP (sL false) := fun T h p q w v r x y e => by
  unfold sL at e
  cases e1 : BK p q with
  | none => rw [e1] at e; cases e
  | some b =>
    rw [e1] at e; cases e
    unfold vP
    rw [zI x y e1]
    simp only [mI, Dn]
    cases b <;> rfl
theorem D6 : tI xl (sL true) := fun T h p q w v r x y e => by
  unfold sL at e
  cases e1 : BK p q with
  | none => rw [e1] at e; cases e
  | some b =>
    rw [e1] at e; cases e
    unfold xl
    rw [zI x y e1]
    simp only [mI, Dn]
    cases b <;> rfl
def DQ : P → Option W
  | .non => some .non
  | .bl b => some (.bl b)
  | .int i => some (.int i)
  | .str s => some (.str s)
  | _ => none
def FQ (f : O1) (g : P → Option P) : Prop := ∀ T h p w r, iy T h p w → g p = some r → mI T h r (f w h)
def B5 (g : P → Option P) (a : PE) : PE := fun δ => (a δ).bind g
theorem Fi {f : O1} {g : P → Option P} {a : DE} {p : PE} (k : FQ f g) (ha : Pb a p) : Pe (D9 f a) (B5 g p) := fun n B O s h δ r E e => by
  unfold B5 at e
  cases e1 : p δ with
  | none => rw [e1] at e; cases e
  | some x =>
    rw [e1] at e
    obtain ⟨w, l, c1, d1⟩ := ha n B O s h δ x E e1
    obtain ⟨u, l3, c3, d3⟩ := td (h := h ++ l) (fun i t => Tb.lt (E.app (l := l)) t) (k _ _ _ _ _ d1 e)
    refine ⟨u, l ++ l3, ?_, by rw [← List.append_assoc]; exact d3⟩
    unfold D9
    rw [c1]
    simp only [R.bind]
    rw [c3, List.append_assoc]
def xT : P → Option P
  | .int i => some (.int (-i))
  | _ => none
theorem D5 : FQ uk xT := fun T h p w r x e => by
  unfold xT at e
  split at e
  · cases e; rw [x.int]; simp only [uk, mI, Dn]
  · cases e
def vW : P → Option (List P)
  | .lst xs => some xs
  | .rol xs => some xs
  | _ => none
theorem iy.lstW {T : Nat → Prop} {p : P} {xs : List P} {w : W} (x : iy T h p w) (e : vW p = some xs) : ∃ us, HL.lstW h w = some us ∧ Dns T h xs us := by
  cases p with
  | lst ys => cases e; obtain ⟨a, us, rfl, g, d⟩ := x.lst; exact ⟨us, by simp [HL.lstW, g], d⟩
  | rol ys => cases e; obtain ⟨a, us, rfl, g, d⟩ := x.rol; exact ⟨us, by simp [HL.lstW, g], d⟩
  | _ => cases e
def ei : PA := fun _ => some []
def aM (a : PE) (r : PA) : PA := fun δ => (a δ).bind fun x => (r δ).bind fun xs => some (x :: xs)
theorem cO : Pa aj ei := fun n B O s h δ r E e => by
  cases e
  exact ⟨[], [], by rw [List.append_nil]; rfl, by simp only [Dns]⟩
theorem aK {a : DE} {r : DA} {p : PE} {q : PA} (ha : Pe a p) (hr : Pa r q) : Pa (aa a r) (aM p q) := fun n B O s h δ rs E e => by
  unfold aM at e
  cases e1 : p δ with
  | none => rw [e1] at e; cases e
  | some x =>
    rw [e1] at e
    simp only [Option.bind_some] at e
    cases e2 : q δ with
    | none => rw [e2] at e; cases e
    | some xs =>
      rw [e2] at e
      cases e
      obtain ⟨w, l, c1, d1⟩ := ha n B O s h δ x E e1
      obtain ⟨ws, l2, c2, d2⟩ := hr n B O s (h ++ l) δ xs E.app e2
      refine ⟨w :: ws, l ++ l2, ?_, ?_⟩
      · unfold aa
        rw [c1]
        simp only [R.bind]
        rw [c2, List.append_assoc]
      · rw [← List.append_assoc]
        simp only [Dns]
        exact ⟨w, ws, rfl, d1.app, d2⟩
def qH (T : Nat → Prop) (h : Sh) : List P → List W → Prop
  | [], us => us = []
  | p :: ps, us => ∃ u r, us = u :: r ∧ iy T h p u ∧ qH T h ps r
def Ce (d : DA) (p : PA) : Prop := ∀ n B O s h δ r, Env n B O s h δ → p δ = some r → ∃ w l, d s h = .ok w (h ++ l) ∧ qH (Tb B O) (h ++ l) r w
theorem dO : Ce aj ei := fun n B O s h δ r E e => by
  cases e
  exact ⟨[], [], by rw [List.append_nil]; rfl, rfl⟩
theorem bb {a : DE} {r : DA} {p : PE} {q : PA} (ha : Pb a p) (hr : Ce r q) : Ce (aa a r) (aM p q) := fun n B O s h δ rs E e => by
  unfold aM at e
  cases e1 : p δ with
  | none => rw [e1] at e; cases e
  | some x =>
    rw [e1] at e
    simp only [Option.bind_some] at e
    cases e2 : q δ with
    | none => rw [e2] at e; cases e
    | some xs =>
      rw [e2] at e
      cases e
      obtain ⟨w, l, c1, d1⟩ := ha n B O s h δ x E e1
      obtain ⟨ws, l2, c2, d2⟩ := hr n B O s (h ++ l) δ xs E.app e2
      refine ⟨w :: ws, l ++ l2, ?_, ?_⟩
      · unfold aa
        rw [c1]
        simp only [R.bind]
        rw [c2, List.append_assoc]
      · rw [← List.append_assoc]
        exact ⟨w, ws, rfl, d1.app, d2⟩
def BD (f : List W → Sh → OR) (g : List P → Option P) : Prop := ∀ T h ps ws r, qH T h ps ws → g ps = some r → mI T h r (f ws h)
def pB (g : List P → Option P) (a : PA) : PE := fun δ => (a δ).bind g
theorem uE {f : List W → Sh → OR} {g : List P → Option P} {a : DA} {p : PA} (k : BD f g) (ha : Ce a p) : Pe (dB f a) (pB g p) := fun n B O s h δ r E e => by
  unfold pB at e
  cases e1 : p δ with
  | none => rw [e1] at e; cases e
  | some x =>
    rw [e1] at e
    obtain ⟨w, l, c1, d1⟩ := ha n B O s h δ x E e1
    obtain ⟨u, l3, c3, d3⟩ := td (h := h ++ l) (fun i t => Tb.lt (E.app (l := l)) t) (k _ _ _ _ _ d1 e)
    refine ⟨u, l ++ l3, ?_, by rw [← List.append_assoc]; exact d3⟩
    unfold dB
    rw [c1]
    simp only [R.bind]
    rw [c3, List.append_assoc]
theorem qH.one {T : Nat → Prop} {p : P} {us : List W} (x : qH T h [p] us) : ∃ u, us = [u] ∧ iy T h p u := by
  obtain ⟨u, r, e, d, dr⟩ := x
  have : r = [] := dr
  subst this
  exact ⟨u, e, d⟩
theorem qH.two {T : Nat → Prop} {p q : P} {us : List W} (x : qH T h [p, q] us) : ∃ u v, us = [u, v] ∧ iy T h p u ∧ iy T h q v := by
  obtain ⟨u, r, e, d, dr⟩ := x
  obtain ⟨v, rfl, dv⟩ := dr.one
  exact ⟨u, v, e, d, dv⟩
def oo (xs : List P) : Option (List P) := if xs.length ≤ gT then some xs else none
def pO (g : List P → Option (List P)) (a : PA) : Dl → Option (List P) := fun δ => (a δ).bind g
theorem vM {a : DA} {p : PA} (ha : Pa a p) : Po (dB ju a) (pO oo p) := fun n B O s h δ r E e => by
  unfold pO at e
  cases e1 : p δ with
  | none => rw [e1] at e; cases e
  | some x =>
    rw [e1] at e
    have e : oo x = some r := e
    unfold oo at e
    by_cases hl : x.length ≤ gT
    · rw [if_pos hl] at e
      have hr : x = r := Option.some.inj e
      subst hr
      obtain ⟨w, l, c1, d1⟩ := ha n B O s h δ x E e1
      refine ⟨(h ++ l).length, l ++ [.lst w], w, ?_, by simp, by rw [← List.append_assoc]; simp, ?_⟩
      · unfold dB
        rw [c1]
        simp only [R.bind, ju, d1.length, hl, if_true, OR.fin, List.append_assoc]
      · rw [← List.append_assoc]
        refine Dns.mono (fun i o t e => ⟨ao e, fun z => ?_⟩) x w d1
        rcases z with z | z
        · exact t z
        · have := (List.getElem?_eq_some_iff.mp e).1; omega
    · rw [if_neg hl] at e; cases e
def qX (xs : List P) : Option P := if xs.length ≤ gT then some (.tup xs) else none
theorem DX {a : DA} {p : PA} (ha : Pa a p) : Pe (dB qA a) (pB qX p) := fun n B O s h δ r E e => by
  unfold pB at e
  cases e1 : p δ with
  | none => rw [e1] at e; cases e
  | some x =>
    rw [e1] at e
    have e : qX x = some r := e
    unfold qX at e
    split at e
    · rename_i hl
      cases e
      obtain ⟨w, l, c1, d1⟩ := ha n B O s h δ x E e1
      obtain ⟨u, l3, c3, d3⟩ := td (h := h ++ l) (o := .new (.tup w)) (r := .tup x) (fun i t => Tb.lt (E.app (l := l)) t) ⟨x, rfl, d1⟩
      refine ⟨u, l ++ l3, ?_, by rw [← List.append_assoc]; exact d3⟩
      unfold dB
      rw [c1]
      simp only [R.bind, qA, d1.length, hl, if_true]
      rw [c3, List.append_assoc]
    · cases e
def pX : List P → Option P
  | [.str s] => if s.length ≤ gT then some (.int s.length) else none
  | [p] => (nW p).map fun xs => .int xs.length
  | _ => none
theorem tB : BD fb pX := fun T h ps ws r x e => by
  unfold pX at e
  split at e
  · split at e
    · rename_i hl; cases e; obtain ⟨u, rfl, d⟩ := x.one; rw [d.str]; simp only [fb, hl, if_true, mI, Dn]
    · cases e
  · rename_i p hp
    cases e1 : nW p with
    | none => rw [e1] at e; cases e
    | some xs =>
      rw [e1] at e; cases e
      obtain ⟨u, rfl, d⟩ := x.one
      obtain ⟨us, g, ds⟩ := d.seq e1
      unfold fb
      split
      · rename_i s hs
        injection hs with hs _
        subst hs
        simp [fg, lstW, eL] at g
      · rename_i y hy hs
        injection hs with hs _
        subst hs
        rw [g]
        simp only [mI, Dn, ds.length]
      · rename_i hne
        exact absurd rfl (hne u)
  · cases e
def vi : List P → Option P
  | [.tup xs] => some (.tup xs)
  | [p] => (vW p).map .tup
  | _ => none
theorem yK : BD bZ vi := fun T h ps ws r x e => by
  unfold vi at e
  split at e
  · cases e
    obtain ⟨u, rfl, d⟩ := x.one
    obtain ⟨a, us, rfl, t, g, ds⟩ := d.tup
    simp only [bZ, lstW, eL, g, mI, Dn]
    exact ⟨a, us, rfl, t, g, ds⟩
  · rename_i p hp
    cases e1 : vW p with
    | none => rw [e1] at e; cases e
    | some xs =>
      rw [e1] at e; cases e
      obtain ⟨u, rfl, d⟩ := x.one
      obtain ⟨us, g, ds⟩ := d.lstW e1
      simp only [bZ, g, mI]
      exact ⟨_, rfl, ds⟩
  · cases e
end
end HL
namespace HL
open PySem (Str)
section
variable {n : Lo} {B : Nat → Prop} {O : List (List Nat)} {s : Sg} {h l : Sh} {δ : Dl}
def mK : P → Option Bool
  | .non => some false
  | .bl b => some b
  | .int i => some (i != 0)
  | .str s => if s.length ≤ gT then some ((s.length : Int) != 0) else none
  | .lst xs => some (!xs.isEmpty)
  | .rol xs => some (!xs.isEmpty)
  | .tup xs => some (!xs.isEmpty)
  | _ => none
theorem Cm {T : Nat → Prop} {p : P} {w : W} {b : Bool} (x : iy T h p w) (e : mK p = some b) : jy w h = some b := by
  cases p with
  | non => rw [x.non]; exact e
  | bl b => rw [x.bl]; exact e
  | int i => rw [x.int]; exact e
  | str y => rw [x.str]; exact e
  | lst xs => obtain ⟨a, us, rfl, g, d⟩ := x.lst; cases e; simp only [jy, g, d.nil_iff]
  | rol xs => obtain ⟨a, us, rfl, g, d⟩ := x.rol; cases e; simp only [jy, g, d.nil_iff]
  | tup xs => obtain ⟨a, us, rfl, _, g, d⟩ := x.tup; cases e; simp only [jy, g, d.nil_iff]
  | _ => cases e
def pT (a : PE) : PT := fun δ => (a δ).bind mK
theorem tT {a : DE} {p : PE} (ha : Pb a p) : Pt (dT a) (pT p) := fun n B O s h δ r E e => by
  unfold pT at e
  cases e1 : p δ with
  | none => rw [e1] at e; cases e
  | some x =>
    rw [e1] at e
    obtain ⟨w, l, c1, d1⟩ := ha n B O s h δ x E e1
    refine ⟨l, ?_⟩
    unfold dT
    rw [c1]
    simp only [R.bind, Cm d1 (show mK x = some r from e)]
def nz (a : PT) : PT := fun δ => (a δ).map (!·)
theorem pF {a : DT} {p : PT} (ha : Pt a p) : Pt (dZ a) (nz p) := fun n B O s h δ r E e => by
  unfold nz at e
  cases e1 : p δ with
  | none => rw [e1] at e; cases e
  | some x =>
    rw [e1] at e; cases e
    obtain ⟨l, c1⟩ := ha n B O s h δ x E e1
    exact ⟨l, by unfold dZ; rw [c1]; rfl⟩
def zo (a b : PT) : PT := fun δ => (a δ).bind fun c => if c = true then b δ else some false
def uc (a b : PT) : PT := fun δ => (a δ).bind fun c => if c = true then some true else b δ
theorem Cp {a b : DT} {p q : PT} (ha : Pt a p) (hb : Pt b q) : Pt (uM a b) (uc p q) := fun n B O s h δ r E e => by
  unfold uc at e
  cases e1 : p δ with
  | none => rw [e1] at e; cases e
  | some x =>
    rw [e1] at e
    simp only [Option.bind_some] at e
    obtain ⟨l, c1⟩ := ha n B O s h δ x E e1
    cases x with
    | true => cases e; exact ⟨l, by unfold uM; rw [c1]; rfl⟩
    | false =>
      obtain ⟨l2, c2⟩ := hb n B O s (h ++ l) δ r E.app (by simpa using e)
      exact ⟨l ++ l2, by unfold uM; rw [c1]; simp only [R.bind, Bool.false_eq_true, if_false]; rw [c2, List.append_assoc]⟩
def jm : PT := fun _ => some true
theorem Ak : Pt kr jm := fun n B O s h δ r E e => by cases e; exact ⟨[], by rw [List.append_nil]; rfl⟩
def BS : P → Option Bool
  | .bl b => some b
  | _ => none
theorem Ed {T : Nat → Prop} {p : P} {w : W} {b : Bool} (x : Dn T h p w) (e : BS p = some b) : w = .bl b := by
  cases p <;> first
    | (cases e; simpa only [Dn] using x)
    | cases e
def jM (a b : PE) : PE := fun δ => (a δ).bind fun x => (BS x).bind fun c => if c = true then b δ else some (.bl false)
def FG (a b : PE) : PE := fun δ => (a δ).bind fun x => (BS x).bind fun c => if c = true then some (.bl true) else b δ
def qZ (a : PE) : PE := fun δ => (a δ).bind fun x => (BS x).map fun c => .bl (!c)
theorem kE {a b : DE} {p q : PE} (ha : Pe a p) (hb : Pe b q) : Pe (iK a b) (jM p q) := fun n B O s h δ r E e => by
  unfold jM at e
  cases e1 : p δ with
  | none => rw [e1] at e; cases e
  | some x =>
    rw [e1] at e
    simp only [Option.bind_some] at e
    cases e2 : BS x with
    | none => rw [e2] at e; cases e
    | some c =>
      rw [e2] at e
      simp only [Option.bind_some] at e
      obtain ⟨w, l, c1, d1⟩ := ha n B O s h δ x E e1
      have hw := Ed d1 e2
      subst hw
      cases c with
      | false => cases e; exact ⟨.bl false, l, by unfold iK; rw [c1]; rfl, by simp only [Dn]⟩
      | true =>
        obtain ⟨u, l2, c2, d2⟩ := hb n B O s (h ++ l) δ r E.app (by simpa using e)
        exact ⟨u, l ++ l2, by unfold iK; rw [c1]; simp only [R.bind, if_true]; rw [c2, List.append_assoc], by rw [← List.append_assoc]; exact d2⟩
theorem wq {a : DE} {p : PE} (ha : Pe a p) : Pe (oS a) (qZ p) := fun n B O s h δ r E e => by
  unfold qZ at e
  cases e1 : p δ with
  | none => rw [e1] at e; cases e
  | some x =>
    rw [e1] at e
    simp only [Option.bind_some] at e
    cases e2 : BS x with
    | none => rw [e2] at e; cases e
    | some c =>
      rw [e2] at e; cases e
      obtain ⟨w, l, c1, d1⟩ := ha n B O s h δ x E e1
      have hw := Ed d1 e2
      subst hw
      exact ⟨.bl (!c), l, by unfold oS; rw [c1]; rfl, by simp only [Dn]⟩
def FH (c : PT) (a b : PE) : PE := fun δ => (c δ).bind fun k => if k = true then a δ else b δ
def kf (f g : Int → Int → Bool) (a b c : PE) : PE := fun δ => match a δ, b δ with
  | some (.int i), some (.int j) => if f i j then (match c δ with
      | some (.int k) => some (.bl (g j k))
      | _ => none) else some (.bl false)
  | _, _ => none
theorem tm {f g : Int → Int → Bool} {a b c : DE} {p q r : PE} (ha : Pe a p) (hb : Pe b q) (hc : Pe c r) : Pe (h8 (kS f) (kS g) a b c) (kf f g p q r) := fun n B O s h δ v E e => by
  unfold kf at e
  split at e
  · rename_i i j e1 e2
    obtain ⟨w, l, c1, d1⟩ := ha n B O s h δ _ E e1
    obtain ⟨u, l2, c2, d2⟩ := hb n B O s (h ++ l) δ _ E.app e2
    simp only [Dn] at d1 d2
    subst d1 d2
    split at e
    · rename_i hf
      split at e
      · rename_i k e3
        cases e
        obtain ⟨t, l3, c3, d3⟩ := hc n B O s (h ++ l ++ l2) δ _ (E.app.app) e3
        simp only [Dn] at d3
        subst d3
        refine ⟨.bl (g j k), l ++ l2 ++ l3, ?_, by simp only [Dn]⟩
        unfold h8
        rw [c1]
        simp only [R.bind]
        rw [c2]
        simp only [kS, OR.fin, hf, if_true]
        rw [c3]
        simp only [List.append_assoc]
      · cases e
    · rename_i hf
      cases e
      refine ⟨.bl false, l ++ l2, ?_, by simp only [Dn]⟩
      unfold h8
      rw [c1]
      simp only [R.bind]
      rw [c2]
      simp only [kS, OR.fin, Bool.eq_false_iff.mpr hf, Bool.false_eq_true, if_false, List.append_assoc]
  · cases e
abbrev PO := Dl → Option (Option Int)
def sS : PO := fun _ => some none
def zz (a : PE) : PO := fun δ => match a δ with
  | some (.int i) => some (some i)
  | _ => none
def BN (xs : List P) (lo hi : Option Int) : List P := (xs.drop (sIx xs.length 0 lo)).take (sIx xs.length xs.length hi - sIx xs.length 0 lo)
def F7 (p : P) (lo hi : Option Int) : Option P := match p with
  | .lst xs => some (.lst (BN xs lo hi))
  | .rol xs => some (.lst (BN xs lo hi))
  | .tup xs => if sIx xs.length 0 lo = 0 ∧ sIx xs.length xs.length hi = xs.length then none else some (.tup (BN xs lo hi))
  | _ => none
def FF (a : PE) (lo hi : PO) : PE := fun δ => (a δ).bind fun x => (lo δ).bind fun l => (hi δ).bind fun u => F7 x l u
def yX (T : Nat → Prop) (m : Nat) (h : Sh) (w : W) : RF → Prop
  | .v p => Dn T h p w
  | .o xs => ∃ a us, w = .ref a ∧ m ≤ a ∧ h[a]? = some (.lst us) ∧ Dns (fun i => T i ∨ i = a) h xs us
def Pf (f : Fn) (g : PF) : Prop := ∀ T h ws ps r, (∀ i, T i → i < h.length) → Dns T h ps ws → g ps = some r → ∃ w l, f ws h = .ok w (h ++ l) ∧ yX T h.length (h ++ l) w r
def gN (g : PF) (a : PA) : PE := fun δ => ((a δ).bind g).map RF.val
theorem eu {f : Fn} {g : PF} {a : DA} {p : PA} (hf : Pf f g) (ha : Pa a p) : Pe (aS f a) (gN g p) := fun n B O s h δ r E e => by
  unfold gN at e
  cases e1 : p δ with
  | none => rw [e1] at e; cases e
  | some x =>
    rw [e1] at e
    simp only [Option.bind_some] at e
    cases e2 : g x with
    | none => rw [e2] at e; cases e
    | some rf =>
      rw [e2] at e; cases e
      obtain ⟨ws, l, c1, d1⟩ := ha n B O s h δ x E e1
      obtain ⟨w, l2, c2, d2⟩ := hf (Tb B O) (h ++ l) ws x rf (fun i t => Tb.lt (E.app (l := l)) t) d1 e2
      refine ⟨w, l ++ l2, by unfold aS; rw [c1]; simp only [R.bind]; rw [c2, List.append_assoc], ?_⟩
      rw [← List.append_assoc]
      cases rf with
      | v p => exact d2
      | o xs =>
        obtain ⟨a, us, rfl, ge, g, ds⟩ := d2
        simp only [RF.val, Dn]
        exact ⟨a, us, rfl, fun t => absurd (Tb.lt (E.app (l := l)) t) (by omega), g, ds.weak fun i t => .inl t⟩
def vJ (g : PF) (a : PA) : Dl → Option (List P) := fun δ => ((a δ).bind g).bind fun r => match r with
  | .o xs => some xs
  | .v _ => none
end
end HL
namespace HL
open PySem (Str)
section
variable {n : Lo} {B : Nat → Prop} {O O' O2 : List (List Nat)} {s : Sg} {h h' h2 l : Sh} {δ : Dl}
structure bV (O : List (List Nat)) (h : Sh) (O' : List (List Nat)) (h' : Sh) : Prop where
  le : h.length ≤ h'.length
  at_ : ∀ (i : Nat) (o : SO), h[i]? = some o → ¬ Ow O i → h'[i]? = some o ∧ ¬ Ow O' i
theorem bV.refl : bV O h O h := ⟨Nat.le_refl _, fun _ _ e m => ⟨e, m⟩⟩
theorem bV.trans (a : bV O h O' h') (b : bV O' h' O2 h2) : bV O h O2 h2 := ⟨Nat.le_trans a.le b.le, fun i o e m => b.at_ i o (a.at_ i o e m).1 (a.at_ i o e m).2⟩
theorem bV.app : bV O h O (h ++ l) := ⟨by simp, fun i o e m => ⟨ao e, m⟩⟩
def Kp (n : Lo) (h h' : Sh) : Prop := n.at_ ≤ h'.length ∧ ∀ (i : Nat) (o : SO), i < n.at_ → ¬ n.lent i → h[i]? = some o → h'[i]? = some o
theorem bV.kp (k : bV O h O' h') (E : Env n B O s h δ) : Kp n h h' := ⟨Nat.le_trans E.le k.le, fun i o hi hl e => (k.at_ i o e fun m => (E.new i m).1.elim (fun z => absurd z (by omega)) hl).1⟩
theorem Kp.trans {n : Lo} {h h' h2 : Sh} (a : Kp n h h') (b : Kp n h' h2) : Kp n h h2 := ⟨b.1, fun i o hi hl e => b.2 i o hi hl (a.2 i o hi hl e)⟩
theorem bV.dns (k : bV O h O' h') {p : List P} {w : List W} (x : Dns (Tb B O) h p w) : Dns (Tb B O') h' p w := Dns.mono (fun i o t e => by
  have := k.at_ i o e fun m => t (.inr m)
  exact ⟨this.1, fun z => z.elim (fun z => t (.inl z)) this.2⟩) p w x
def y1 (n : Lo) (B : Nat → Prop) (O : List (List Nat)) (h : Sh) (c : C) : RS → Prop
  | .er => True
  | .nx δ' => ∃ O' s' h', c = .nx s' h' ∧ Env n B O' s' h' δ' ∧ bV O h O' h'
  | .bk δ' => ∃ O' s' h', c = .bk s' h' ∧ Env n B O' s' h' δ' ∧ bV O h O' h'
  | .ct δ' => ∃ O' s' h', c = .ct s' h' ∧ Env n B O' s' h' δ' ∧ bV O h O' h'
  | .rt r => ∃ w h', c = .rt w h' ∧ Kp n h h' ∧ Dn B h' r w
  | .rx r δ' => ∃ w O' s' h', c = .rt w h' ∧ Env n B O' s' h' δ' ∧ bV O h O' h' ∧ Dn (Tb B O') h' r w
  | .ro xs => ∃ a us h', c = .rt (.ref a) h' ∧ Kp n h h' ∧ (n.at_ ≤ a ∨ n.lent a) ∧ h'[a]? = some (.lst us) ∧ Dns (fun i => B i ∨ i = a) h' xs us
def Ps (d : DS) (p : PS) : Prop := ∀ n B O s h δ, Env n B O s h δ → y1 n B O h (d s h) (p δ)
theorem y1.before {c : C} {r : RS} (k : bV O h O' h') (E : Env n B O s h δ) (x : y1 n B O' h' c r) : y1 n B O h c r := by
  cases r with
  | er => trivial
  | nx δ' => obtain ⟨O2, s2, h2, e, E2, k2⟩ := x; exact ⟨O2, s2, h2, e, E2, k.trans k2⟩
  | bk δ' => obtain ⟨O2, s2, h2, e, E2, k2⟩ := x; exact ⟨O2, s2, h2, e, E2, k.trans k2⟩
  | ct δ' => obtain ⟨O2, s2, h2, e, E2, k2⟩ := x; exact ⟨O2, s2, h2, e, E2, k.trans k2⟩
  | rt p => obtain ⟨w, h2, e, k2, d⟩ := x; exact ⟨w, h2, e, (k.kp E).trans k2, d⟩
  | rx p δ' => obtain ⟨w, O2, s2, h2, e, E2, k2, d⟩ := x; exact ⟨w, O2, s2, h2, e, E2, k.trans k2, d⟩
  | ro xs => obtain ⟨a, us, h2, e, k2, d⟩ := x; exact ⟨a, us, h2, e, (k.kp E).trans k2, d⟩
theorem bL {O : List (List Nat)} {i a : Nat} (m : Ow (O.set i []) a) : Ow O a := m.set.elim id fun z => by cases z
theorem kC {α : Type} {l : List (Option α)} {i j : Nat} {x : Option α} (ne : i ≠ j) : ((l.set i x)[j]?).getD none = (l[j]?).getD none := by rw [List.getElem?_set_ne ne]
theorem f6 {O : List (List Nat)} {i j : Nat} {x : List Nat} (ne : i ≠ j) : ((O.set i x)[j]?).getD [] = (O[j]?).getD [] := by rw [List.getElem?_set_ne ne]
theorem xp.weak {T T' : Nat → Prop} {w : Option W} {o : List Nat} {sl : Sl} (x : xp T h w o sl) (k : ∀ (i : Nat) (u : SO), h[i]? = some u → T' i → T i) : xp T' h w o sl := x.mv (fun i o t e => ⟨e, fun z => t (k i o e z)⟩) fun _ _ _ e => e
theorem ow (E : Env n B O s h δ) (i : Nat) {m : List Nat} (hm : ∀ a ∈ m, ¬ Ow O a) : ∀ (j k a : Nat) (l l' : List Nat), (O.set i m)[j]? = some l → (O.set i m)[k]? = some l' → a ∈ l → a ∈ l' → j = k := fun j k a l l' e1 e2 m1 m2 => by
  rw [List.getElem?_set] at e1 e2
  split at e1
  · rename_i hj
    split at e1
    · cases e1
      split at e2
      · rename_i hk; rw [← hj, ← hk]
      · exact absurd (Ow.of e2 m2) (hm a m1)
    · cases e1
  · split at e2
    · split at e2
      · cases e2; exact absurd (Ow.of e1 m1) (hm a m2)
      · cases e2
    · exact E.one j k a l l' e1 e2 m1 m2
theorem Env.set (E : Env n B O s h δ) (i : Nat) {p : P} {w : W} (d : Dn (Tb B O) h p w) : Env n B (O.set i []) (s.set i (some w)) h (δ.set i (.val p)) where
  le := E.le
  old := E.old
  ls := by rw [List.length_set, List.length_set]; exact E.ls
  lo := by rw [List.length_set, List.length_set]; exact E.lo
  one := ow E i fun _ z => by cases z
  new := fun a m => E.new a (bL m)
  self := pJ E i fun _ _ z => by cases z
  at_ := fun j sl e => by
    have wk : ∀ (k : Nat) (u : SO), h[k]? = some u → Tb B (O.set i []) k → Tb B O k := fun k _ _ t => t.elim .inl fun m => .inr (bL m)
    by_cases hj : i = j
    · subst hj
      have hi : i < δ.length := by
        rcases Nat.lt_or_ge i δ.length with z | z
        · exact z
        · rw [List.getElem?_eq_none_iff.mpr (by rw [List.length_set]; exact z)] at e; cases e
      rw [List.getElem?_set_self hi] at e
      cases e
      refine ⟨?_, w, ?_, d.weak fun k t => t.elim .inl fun m => .inr (bL m)⟩
      · rw [List.getElem?_set_self (by rw [E.lo]; exact hi)]; rfl
      · rw [List.getElem?_set_self (by rw [E.ls]; exact hi)]; rfl
    · rw [List.getElem?_set_ne hj] at e
      rw [kC hj, f6 hj]
      exact (E.at_ j sl e).weak wk
theorem bV.drop {i : Nat} : bV O h (O.set i []) h := ⟨Nat.le_refl _, fun j o e m => ⟨e, fun z => m (bL z)⟩⟩
theorem Env.own (E : Env n B O s h δ) (i : Nat) {a : Nat} {us : List W} {xs : List P} (ge : h.length ≤ a) (g : (h ++ l)[a]? = some (.lst us)) (d : Dns (fun j => Tb B O j ∨ j = a) (h ++ l) xs us) (hi : i < δ.length) :
    Env n B (O.set i [a]) (s.set i (some (.ref a))) (h ++ l) (δ.set i (.own xs)) where
  le := by rw [List.length_append]; have := E.le; omega
  old := E.old
  ls := by rw [List.length_set, List.length_set]; exact E.ls
  lo := by rw [List.length_set, List.length_set]; exact E.lo
  one := ow E i fun b z t => by rw [List.mem_singleton.mp z] at t; exact absurd (E.new a t).2 (by omega)
  new := fun b m => by
    rcases m.set with z | z
    · exact ⟨(E.new b z).1, by rw [List.length_append]; have := (E.new b z).2; omega⟩
    · rw [List.mem_singleton.mp z]; exact ⟨.inl (Nat.le_trans E.le ge), (List.getElem?_eq_some_iff.mp g).1⟩
  self := pJ E i fun _ _ z => by cases z
  at_ := fun j sl e => by
    have tt : ∀ k, Tb B (O.set i [a]) k → Tb B O k ∨ k = a := fun k t => t.elim (fun z => .inl (.inl z)) fun m => by
      rcases m.set with z | z
      · exact .inl (.inr z)
      · exact .inr (List.mem_singleton.mp z)
    by_cases hj : i = j
    · subst hj
      rw [List.getElem?_set_self hi] at e
      cases e
      refine ⟨a, us, ?_, ?_, g, d.weak fun k t => tt k t⟩
      · rw [List.getElem?_set_self (by rw [E.lo]; exact hi)]; rfl
      · rw [List.getElem?_set_self (by rw [E.ls]; exact hi)]; rfl
    · rw [List.getElem?_set_ne hj] at e
      rw [kC hj, f6 hj]
      exact ((E.at_ j sl e).weak (T' := Tb B (O.set i [a])) (fun k u ek t => by
        rcases tt k t with z | z
        · exact z
        · have := (List.getElem?_eq_some_iff.mp ek).1; omega)).app
theorem bV.owned {i a : Nat} (ge : h.length ≤ a) : bV O h (O.set i [a]) (h ++ l) := ⟨by simp, fun j o e m => ⟨ao e, fun z => by
  rcases z.set with q | q
  · exact m q
  · rw [List.mem_singleton.mp q] at e; have := (List.getElem?_eq_some_iff.mp e).1; omega⟩⟩
def frz (i : Nat) (δ : Dl) : Dl := match δ[i]? with
  | some (.own xs) => δ.set i (.val (.lst xs))
  | _ => δ
theorem yr {i a : Nat} (w : (s[i]?).getD none = some (.ref a)) : s[i]? = some (some (.ref a)) := by
  cases q2 : s[i]? with
  | none => rw [q2] at w; cases w
  | some z => rw [q2] at w; exact congrArg some w
theorem Env.frz (E : Env n B O s h δ) (i : Nat) : ∃ O', Env n B O' s h (frz i δ) ∧ bV O h O' h := by
  unfold HL.frz
  split
  · rename_i xs q
    refine ⟨O.set i [], ?_, bV.drop⟩
    obtain ⟨a, us, o, w, g, d⟩ := E.at_ i _ q
    have hi : i < δ.length := (List.getElem?_eq_some_iff.mp q).1
    have hoa := v9 o
    have hsw := yr w
    have nt : ∀ k, Tb B (O.set i []) k → Tb B O k := fun k t => t.elim .inl fun m => .inr (bL m)
    have na : ¬ Tb B (O.set i []) a := fun t => by
      rcases t with t | t
      · have z1 := E.old a t
        rcases (E.new a (Ow.one hoa)).1 with z | z
        · omega
        · exact z1.2 z
      · obtain ⟨j, l, hj, ml⟩ := t.at_
        rw [List.getElem?_set] at hj
        split at hj
        · split at hj
          · cases hj; cases ml
          · cases hj
        · rename_i ne; exact ne (E.one i j a _ _ hoa hj List.mem_cons_self ml)
    exact {
      le := E.le
      old := E.old
      ls := by rw [List.length_set]; exact E.ls
      lo := by rw [List.length_set, List.length_set]; exact E.lo
      one := ow E i fun _ z => by cases z
      new := fun b m => E.new b (bL m)
      self := u5 E i fun _ _ z => by cases z
      at_ := fun j sl e => by
        by_cases hj : i = j
        · subst hj
          rw [List.getElem?_set_self hi] at e
          cases e
          refine ⟨by rw [List.getElem?_set_self (by rw [E.lo]; exact hi)]; rfl, .ref a, by rw [hsw]; rfl, ?_⟩
          simp only [Dn]
          exact ⟨a, us, rfl, na, g, d.weak nt⟩
        · rw [List.getElem?_set_ne hj] at e
          rw [f6 hj]
          exact (E.at_ j sl e).weak fun k _ _ t => nt k t }
  · exact ⟨O, E, bV.refl⟩
def zu (i : Nat) (q : PS) : PS := fun δ => q (frz i δ)
def vx : PS := fun δ => .nx δ
theorem CH : Ps ku vx := fun n B O s h δ E => ⟨O, s, h, rfl, E, bV.refl⟩
def C5 : PS := fun δ => .bk δ
def C4 : PS := fun δ => .ct δ
def C3 : PS := fun _ => .er
def fY (a b : PS) : PS := fun δ => match a δ with
  | .nx δ => b δ
  | r => r
theorem nq {a b : DS} {p q : PS} (ha : Ps a p) (hb : Ps b q) : Ps (aI a b) (fY p q) := fun n B O s h δ E => by
  have x := ha n B O s h δ E
  unfold fY aI
  cases e : p δ with
  | nx δ' =>
    rw [e] at x
    obtain ⟨O', s', h', e', E', k⟩ := x
    rw [e']
    exact (hb n B O' s' h' δ' E').before k E
  | er => trivial
  | bk δ' => rw [e] at x; obtain ⟨O', s', h', e', E', k⟩ := x; rw [e']; exact ⟨O', s', h', rfl, E', k⟩
  | ct δ' => rw [e] at x; obtain ⟨O', s', h', e', E', k⟩ := x; rw [e']; exact ⟨O', s', h', rfl, E', k⟩
  | rt r => rw [e] at x; obtain ⟨w, h', e', k⟩ := x; rw [e']; exact ⟨w, h', rfl, k⟩
  | rx r δ' => rw [e] at x; obtain ⟨w, O', s', h', e', k⟩ := x; rw [e']; exact ⟨w, O', s', h', rfl, k⟩
  | ro r => rw [e] at x; obtain ⟨a, us, h', e', k⟩ := x; rw [e']; exact ⟨a, us, h', rfl, k⟩
def jH (i : Nat) (e : PE) : PS := fun δ => match e δ with
  | some p => .nx (δ.set i (.val p))
  | none => .er
theorem pK {a : DE} {p : PE} (i : Nat) (ha : Pe a p) : Ps (bD i a) (jH i p) := fun n B O s h δ E => by
  unfold jH bD
  cases e : p δ with
  | none => trivial
  | some r =>
    obtain ⟨w, l, c1, d1⟩ := ha n B O s h δ r E e
    rw [c1]
    exact ⟨_, _, _, rfl, (E.app (l := l)).set i d1, bV.trans bV.app bV.drop⟩
def zt (i : Nat) (e : Dl → Option (List P)) : PS := fun δ => match e δ with
  | some xs => if i < δ.length then .nx (δ.set i (.own xs)) else .er
  | none => .er
def eP (e : PE) : PS := fun δ => match e δ with
  | some p => .rt p
  | none => .er
theorem iD {a : DE} {p : PE} (ha : Pe a p) : Ps (bS a) (eP p) := fun n B O s h δ E => by
  unfold eP bS
  cases e : p δ with
  | none => trivial
  | some r =>
    obtain ⟨w, l, c1, d1⟩ := ha n B O s h δ r E e
    rw [c1]
    exact ⟨w, h ++ l, rfl, bV.app.kp E, d1.weak fun i t => .inl t⟩
def iG (e : Dl → Option (List P)) : PS := fun δ => match e δ with
  | some p => .ro p
  | none => .er
theorem u6 {a : DE} {p : Dl → Option (List P)} (ha : Po a p) : Ps (bS a) (iG p) := fun n B O s h δ E => by
  unfold iG bS
  cases e : p δ with
  | none => trivial
  | some r =>
    obtain ⟨b, l, us, c1, ge, g, d1⟩ := ha n B O s h δ r E e
    rw [c1]
    exact ⟨b, us, h ++ l, rfl, bV.app.kp E, .inl (Nat.le_trans E.le ge), g, d1.weak fun i t => t.elim (fun z => .inl (.inl z)) .inr⟩
def vt (i : Nat) : PS := fun δ => match δ[i]? with
  | some (.own xs) => .ro xs
  | some (.val p) => .rt p
  | _ => .er
def vw : PS := fun _ => .rt .non
def vy (e : PE) : PS := fun δ => match e δ with
  | some _ => .nx δ
  | none => .er
def mU (c : PT) (a b : PS) : PS := fun δ => match c δ with
  | some k => if k = true then a δ else b δ
  | none => .er
theorem CI {c : DT} {a b : DS} {pc : PT} {p q : PS} (hc : Pt c pc) (ha : Ps a p) (hb : Ps b q) : Ps (fO c a b) (mU pc p q) := fun n B O s h δ E => by
  unfold mU fO
  cases e : pc δ with
  | none => trivial
  | some k =>
    obtain ⟨l, c1⟩ := hc n B O s h δ k E e
    rw [c1]
    cases k with
    | true => exact (ha n B O s (h ++ l) δ E.app).before bV.app E
    | false => exact (hb n B O s (h ++ l) δ E.app).before bV.app E
end
end HL
namespace HL
open PySem (Str)
section
variable {n : Lo} {B : Nat → Prop} {O O' O2 : List (List Nat)} {s : Sg} {h h' h2 l : Sh} {δ : Dl}
theorem aq {a : Nat} {o u : SO} {k : Nat} (e : h[k]? = some u) (ne : a ≠ k) : (h.set a o)[k]? = some u := by rw [List.getElem?_set_ne ne]; exact e
def zr (i : Nat) (k e : PE) : PS := fun δ => match δ[i]?, e δ, k δ with
  | some (.own xs), some v, some (.int j) => (match kU xs.length j with
    | some m => .nx (δ.set i (.own (xs.set m v)))
    | none => .er)
  | _, _, _ => .er
def zw (i : Nat) (e : PE) : PS := fun δ => match δ[i]?, e δ with
  | some (.own xs), some v => if xs.length < gT then .nx (δ.set i (.own (xs ++ [v]))) else .er
  | _, _ => .er
abbrev PG := P → Dl → Option Dl
def Pg (g : DG) (p : PG) : Prop := ∀ n B O s h δ x w δ', Env n B O s h δ → Dn (Tb B O) h x w → p x δ = some δ' → ∃ O' s', g w s h = some s' ∧ Env n B O' s' h δ' ∧ bV O h O' h
def g7 (i : Nat) : PG := fun x δ => some (δ.set i (.val x))
theorem BF (i : Nat) : Pg (d7 i) (g7 i) := fun n B O s h δ x w δ' E d e => by
  cases e
  exact ⟨_, _, rfl, E.set i d, bV.drop⟩
def lg : List Nat → List P → Dl → Dl
  | i :: is, v :: vs, δ => lg is vs (δ.set i (.val v))
  | _, _, δ => δ
def zy (is : List Nat) : PG := fun x δ => match x with
  | .tup xs => if xs.length = is.length then some (lg is xs δ) else none
  | _ => none
def vq (g : PG) (e : PE) : PS := fun δ => match (e δ).bind fun v => g v δ with
  | some δ => .nx δ
  | none => .er
abbrev PI := Dl → Option (List P)
def Gp (B : Nat → Prop) (O : List (List Nat)) (h : Sh) (t : It) (xs : List P) : Prop := Dns (Tb B O) h xs t.items ∧ t.stays h ∧ ∀ O' h', bV O h O' h' → t.stays h'
def Pi (d : DI) (p : PI) : Prop := ∀ n B O s h δ r, Env n B O s h δ → p δ = some r → ∃ t l, d s h = .ok t (h ++ l) ∧ Gp B O (h ++ l) t r
def zx (a : PE) : PI := fun δ => (a δ).bind nW
def jl (lo : Int) (m : Nat) : List P := (List.range m).map fun (k : Nat) => .int (lo + (k : Int))
theorem qm {T : Nat → Prop} : ∀ (l : List Nat) (lo : Int), Dns T h (l.map fun (k : Nat) => .int (lo + (k : Int))) (l.map fun (k : Nat) => .int (lo + (k : Int)))
  | [], lo => by simp only [List.map_nil, Dns]
  | k :: l, lo => by simp only [List.map_cons, Dns]; exact ⟨_, _, rfl, by simp only [Dn], qm l lo⟩
def dF (a : PE) : PI := fun δ => match a δ with
  | some (.int j) => if -(2 ^ 62) ≤ j ∧ j < 2 ^ 62 then some (jl 0 j.toNat) else none
  | _ => none
theorem vZ {a : DE} {p : PE} (ha : Pe a p) : Pi (cc a) (dF p) := fun n B O s h δ r E e => by
  unfold dF at e
  split at e
  · rename_i j e1
    split at e
    · rename_i hj
      cases e
      obtain ⟨w, l, c1, d1⟩ := ha n B O s h δ _ E e1
      simp only [Dn] at d1
      subst d1
      exact ⟨.fix (cn 0 j.toNat), l, by unfold cc; rw [c1]; simp only [R.bind]; rw [if_pos hj], qm _ _, trivial, fun _ _ _ => trivial⟩
    · cases e
  · cases e
def p7 (a b : PE) : PI := fun δ => match a δ, b δ with
  | some (.int i), some (.int j) => if -(2 ^ 62) ≤ i ∧ i < 2 ^ 62 ∧ -(2 ^ 62) ≤ j ∧ j < 2 ^ 62 then some (jl i (j - i).toNat) else none
  | _, _ => none
def BI (g : PG) (b : PS) : List P → PS
  | [], δ => .nx δ
  | x :: xs, δ => match g x δ with
    | none => .er
    | some δ1 => match b δ1 with
      | .nx δ2 => BI g b xs δ2
      | .ct δ2 => BI g b xs δ2
      | .bk δ2 => .nx δ2
      | r => r
def zv (i : PI) (g : PG) (b : PS) : PS := fun δ => match i δ with
  | some xs => BI g b xs δ
  | none => .er
def cF (m : Nat) (ps : List P) : Dl := ps.map .val ++ List.replicate (m - ps.length) .no
def gM (p m : Nat) (b : PS) : PF := fun ps => if ps.length = p then (match b (cF m ps) with
  | .nx _ => some (.v .non)
  | .rt r => some (.v r)
  | .ro xs => some (.o xs)
  | _ => none) else none
theorem kl {T : Nat → Prop} {m : Nat} {ps : List P} {ws : List W} (lt : ∀ i, T i → i < h.length) (d : Dns T h ps ws) : Env ⟨h.length, fun _ => False, none⟩ T (List.replicate (cF m ps).length []) (start m ws) h (cF m ps) where
  le := Nat.le_refl _
  old := fun i t => ⟨lt i t, fun z => z⟩
  ls := by unfold start cF; simp [d.length]
  lo := by simp
  one := fun i j a l m e _ z _ => (Ow.none (Ow.of e z)).elim
  new := fun a m => m.none.elim
  self := fun _ _ _ _ z => by cases z
  at_ := fun i sl e => by
    have tb : ∀ k, Tb T (List.replicate (cF m ps).length []) k → T k := fun k t => t.elim id fun z => z.none.elim
    have on : ((List.replicate (cF m ps).length ([] : List Nat))[i]?).getD [] = [] := by
      rw [List.getElem?_replicate]; split <;> rfl
    rw [on]
    unfold cF at e
    by_cases hi : i < ps.length
    · rw [List.getElem?_append_left (by simpa using hi), List.getElem?_map, List.getElem?_eq_getElem hi] at e
      cases e
      obtain ⟨u, hu, du⟩ := d.get (List.getElem?_eq_getElem hi)
      refine ⟨rfl, u, ?_, du.weak tb⟩
      unfold start
      rw [List.getElem?_append_left (by rw [List.length_map, d.length]; exact hi), List.getElem?_map, hu]
      rfl
    · rw [List.getElem?_append_right (by simpa using hi), List.getElem?_replicate] at e
      split at e
      · cases e; rfl
      · cases e
theorem oM {h h' : Sh} (k : Kp ⟨h.length, fun _ => False, none⟩ h h') : ∃ l, h' = h ++ l := by
  refine ⟨h'.drop h.length, List.ext_getElem? fun i => ?_⟩
  by_cases hi : i < h.length
  · rw [List.getElem?_append_left hi]
    exact (k.2 i _ hi (fun z => z) (List.getElem?_eq_getElem hi)).trans (List.getElem?_eq_getElem hi).symm
  · rw [List.getElem?_append_right (by omega), List.getElem?_drop]
    congr 1; omega
theorem kX {b : DS} {pb : PS} {p m : Nat} (hb : Ps b pb) : Pf (fnOf p m b) (gM p m pb) := fun T h ws ps r lt d e => by
  unfold gM at e
  split at e
  · rename_i hp
    have y := hb ⟨h.length, fun _ => False, none⟩ T _ (start m ws) h (cF m ps) (kl (m := m) lt d)
    unfold fnOf
    rw [if_pos (d.length.trans hp)]
    cases e1 : pb (cF m ps) with
    | nx δ' =>
      rw [e1] at e y
      cases e
      obtain ⟨O', s', h', c, E', k⟩ := y
      rw [c]
      obtain ⟨l, rfl⟩ := oM (k.kp (kl (m := m) lt d))
      exact ⟨.non, l, rfl, by simp only [yX, Dn]⟩
    | rt q =>
      rw [e1] at e y
      cases e
      obtain ⟨w, h', c, k, dd⟩ := y
      rw [c]
      obtain ⟨l, rfl⟩ := oM k
      exact ⟨w, l, rfl, dd⟩
    | ro xs =>
      rw [e1] at e y
      cases e
      obtain ⟨a, us, h', c, k, ge, g, dd⟩ := y
      rw [c]
      obtain ⟨l, rfl⟩ := oM k
      exact ⟨.ref a, l, rfl, a, us, rfl, ge.elim id fun z => z.elim, g, dd⟩
    | er => rw [e1] at e; cases e
    | bk => rw [e1] at e; cases e
    | ct => rw [e1] at e; cases e
    | rx => rw [e1] at e; cases e
  · cases e
end
end HL
namespace HL
open PySem (Str)
section
variable {n : Lo} {B : Nat → Prop} {O O' : List (List Nat)} {s : Sg} {h h' h2 l : Sh} {δ : Dl}
def m3 (m : Nat) (js : List Nat) (δ : Dl) : Dl := List.replicate m .no ++ js.map fun j => match δ[j]? with
  | some (.val p) => .val p
  | _ => .no
def jh (g : PG) (c : PT) (e : PE) : List P → Dl → List P → Option (List P)
  | [], _, acc => some acc
  | x :: xs, δ, acc => match g x δ with
    | none => none
    | some δ1 => (c δ1).bind fun k => if k = true then (e δ1).bind fun v => if acc.length < gT then jh g c e xs δ1 (acc ++ [v]) else none else jh g c e xs δ1 acc
def lY (i : PI) (m : Nat) (js : List Nat) (g : PG) (c : PT) (e : PE) : Dl → Option (List P) := fun δ => (i δ).bind fun xs => jh g c e xs (m3 m js δ) []
theorem Env.setB (E : Env n B O s h δ) {a : Nat} {o : SO} (b : B a) : Env n B O s (h.set a o) δ := by
  have mv : ∀ (k : Nat) (u : SO), ¬ Tb B O k → h[k]? = some u → (h.set a o)[k]? = some u ∧ ¬ Tb B O k := fun k u t e => ⟨aq e (fun z => t (.inl (z ▸ b))), t⟩
  exact {
    le := by rw [List.length_set]; exact E.le
    old := E.old
    ls := E.ls
    lo := E.lo
    one := E.one
    new := fun b mb => by rw [List.length_set]; exact E.new b mb
    self := E.self
    at_ := fun j sl e => by
      refine (E.at_ j sl e).mv mv fun c mc u ec => aq ec fun z => ?_
      subst z
      cases q2 : O[j]? with
      | none => rw [q2] at mc; cases mc
      | some y =>
        rw [q2] at mc
        have z1 := E.old a b
        rcases (E.new a (Ow.of q2 mc)).1 with z | z
        · omega
        · exact z1.2 z }
theorem Dns.setB {T : Nat → Prop} {a : Nat} {o : SO} {ps : List P} {us : List W} (t : T a) (x : Dns T h ps us) : Dns T (h.set a o) ps us := Dns.mono (fun k u tk e => ⟨aq e (fun z => tk (z ▸ t)), tk⟩) ps us x
theorem rD {g : DG} {c : DT} {e : DE} {pg : PG} {pc : PT} {pe : PE} {t : It} {A : Nat} (hg : Pg g pg) (hc : Pt c pc) (he : Pe e pe) (bA : B A) :
    ∀ (xs : List P) (us : List W) (O : List (List Nat)) (s : Sg) (h : Sh) (δ : Dl) (acc : List P) (vs : List W) (r : List P), Env n B O s h δ → Dns (Tb B O) h xs us → h[A]? = some (.lst vs) → Dns (Tb B O) h acc vs →
      (∀ h', (∀ (i : Nat) (o : SO), i ≠ A → i < n.at_ → h[i]? = some o → h'[i]? = some o) → t.stays h') → jh pg pc pe xs δ acc = some r →
      ∃ vs' h', jg t g c e A us s h = .ok (.ref A) h' ∧ h'[A]? = some (.lst vs') ∧ Dns B h' r vs' ∧ (∀ (i : Nat) (o : SO), i ≠ A → i < n.at_ → h[i]? = some o → h'[i]? = some o) ∧ h.length ≤ h'.length
  | [], us, O, s, h, δ, acc, vs, r, E, d, gA, da, st, eq => by
    simp only [Dns] at d
    cases eq
    rw [d]
    exact ⟨vs, h, rfl, gA, da.weak fun i t => .inl t, fun _ _ _ _ e => e, Nat.le_refl _⟩
  | x :: xs, us, O, s, h, δ, acc, vs, r, E, d, gA, da, st, eq => by
    simp only [Dns] at d
    obtain ⟨u, us, rfl, d1, d2⟩ := d
    unfold jh at eq
    unfold jg
    cases e1 : pg x δ with
    | none => rw [e1] at eq; cases eq
    | some δ1 =>
      rw [e1] at eq
      simp only at eq
      obtain ⟨O1, s1, c1, E1, k1⟩ := hg n B O s h δ x u δ1 E d1 e1
      rw [c1]
      simp only
      cases e2 : pc δ1 with
      | none => rw [e2] at eq; cases eq
      | some k =>
        rw [e2] at eq
        simp only [Option.bind_some] at eq
        obtain ⟨l1, c2⟩ := hc n B O1 s1 h δ1 k E1 e2
        rw [c2]
        simp only [R.bind]
        have E2 : Env n B O1 s1 (h ++ l1) δ1 := E1.app
        have d2' : Dns (Tb B O1) (h ++ l1) xs us := (k1.dns d2).app
        have da' : Dns (Tb B O1) (h ++ l1) acc vs := (k1.dns da).app
        have gA' : (h ++ l1)[A]? = some (.lst vs) := ao gA
        have pr : ∀ (i : Nat) (o : SO), i ≠ A → i < n.at_ → h[i]? = some o → (h ++ l1)[i]? = some o := fun i o _ _ e => ao e
        cases k with
        | false =>
          simp only [Bool.false_eq_true, if_false] at eq ⊢
          rw [if_pos (st _ pr)]
          obtain ⟨vs', h', z1, z2, z3, z4, z5⟩ := rD hg hc he bA xs us O1 s1 (h ++ l1) δ1 acc vs r E2 d2' gA' da' (fun h' q => st h' fun i o a b e => q i o a b (pr i o a b e)) eq
          exact ⟨vs', h', z1, z2, z3, fun i o a b e => z4 i o a b (pr i o a b e), by rw [List.length_append] at z5; omega⟩
        | true =>
          simp only [if_true] at eq ⊢
          cases e3 : pe δ1 with
          | none => rw [e3] at eq; cases eq
          | some v =>
            rw [e3] at eq
            simp only [Option.bind_some] at eq
            split at eq
            · rename_i hl
              obtain ⟨w, l2, c3, d3⟩ := he n B O1 s1 (h ++ l1) δ1 v E2 e3
              rw [c3]
              have gA2 : (h ++ l1 ++ l2)[A]? = some (.lst vs) := ao gA'
              have pr2 : ∀ (i : Nat) (o : SO), i ≠ A → i < n.at_ → h[i]? = some o → (h ++ l1 ++ l2)[i]? = some o := fun i o a b e => ao (ao e)
              have pr3 : ∀ (i : Nat) (o : SO), i ≠ A → i < n.at_ → h[i]? = some o → ((h ++ l1 ++ l2).set A (.lst (vs ++ [w])))[i]? = some o := fun i o a b e => aq (pr2 i o a b e) (fun z => a z.symm)
              simp only [gA2]
              rw [if_pos ⟨by rw [da.length]; exact hl, st _ pr2, (List.getElem?_eq_some_iff.mp gA2).1⟩]
              have tA : Tb B O1 A := .inl bA
              obtain ⟨vs', h', z1, z2, z3, z4, z5⟩ := rD hg hc he bA xs us O1 s1 _ δ1 (acc ++ [v]) (vs ++ [w]) r (E2.app (l := l2) |>.setB (a := A) (o := .lst (vs ++ [w])) bA) (d2'.app.setB tA)
                (List.getElem?_set_self (List.getElem?_eq_some_iff.mp gA2).1) ((da'.app.append (Dns.one d3)).setB tA) (fun h' q => st h' fun i o a b e => q i o a b (pr3 i o a b e)) eq
              exact ⟨vs', h', z1, z2, z3, fun i o a b e => z4 i o a b (pr3 i o a b e), by rw [List.length_set, List.length_append, List.length_append] at z5; omega⟩
            · cases eq
theorem yI (E : Env n B O s h δ) {B' : Nat → Prop} {m : Nat} {js : List Nat} (hB : ∀ i, B' i → i < h'.length) (mv : ∀ (i : Nat) (o : SO), ¬ Tb B O i → h[i]? = some o → h'[i]? = some o ∧ ¬ B' i) :
    Env ⟨h'.length, fun _ => False, none⟩ B' (List.replicate (m3 m js δ).length []) (mE m js s) h' (m3 m js δ) where
  le := Nat.le_refl _
  old := fun i t => ⟨hB i t, fun z => z⟩
  ls := by unfold mE m3; simp
  lo := by simp
  one := fun i j a l m e _ z _ => (Ow.none (Ow.of e z)).elim
  new := fun a m => m.none.elim
  self := fun _ _ _ _ z => by cases z
  at_ := fun i sl e => by
    have tb : ∀ k, Tb B' (List.replicate (m3 m js δ).length []) k → B' k := fun k t => t.elim id fun z => z.none.elim
    have on : ((List.replicate (m3 m js δ).length ([] : List Nat))[i]?).getD [] = [] := by
      rw [List.getElem?_replicate]; split <;> rfl
    rw [on]
    unfold m3 at e
    by_cases hi : i < m
    · rw [List.getElem?_append_left (by simpa using hi), List.getElem?_replicate, if_pos hi] at e
      cases e; rfl
    · rw [List.getElem?_append_right (by simpa using hi), List.length_replicate, List.getElem?_map] at e
      unfold mE
      rw [List.getElem?_append_right (by simpa using hi), List.length_replicate, List.getElem?_map]
      cases q : js[i - m]? with
      | none => rw [q] at e; cases e
      | some j =>
        rw [q] at e
        simp only [Option.map_some] at e ⊢
        cases q2 : δ[j]? with
        | none => rw [q2] at e; cases e; rfl
        | some z =>
          rw [q2] at e
          cases z with
          | val p =>
            cases e
            obtain ⟨_, u, a, b⟩ := E.at_ j _ q2
            exact ⟨rfl, u, a, Dn.mono (fun k o t e => ⟨(mv k o t e).1, fun z => (mv k o t e).2 (tb k z)⟩) p u b⟩
          | no => cases e; rfl
          | own xs => cases e; rfl
          | obj c fs => cases e; rfl
theorem Bi {i : DI} {g : DG} {c : DT} {e : DE} {pi : PI} {pg : PG} {pc : PT} {pe : PE} {m : Nat} {js : List Nat} (hi : Pi i pi) (hg : Pg g pg) (hc : Pt c pc) (he : Pe e pe) : Po (iJ i m js g c e) (lY pi m js pg pc pe) := fun n B O s h δ r E eq => by
  unfold lY at eq
  cases e1 : pi δ with
  | none => rw [e1] at eq; cases eq
  | some xs =>
    rw [e1] at eq
    simp only [Option.bind_some] at eq
    obtain ⟨t, l, c1, d, st0, st⟩ := hi n B O s h δ xs E e1
    have E1 : Env n B O s (h ++ l) δ := E.app
    have tl : ∀ i, Tb B O i → i < (h ++ l).length := fun i t => Tb.lt E1 t
    have hlen : ((h ++ l) ++ [SO.lst []]).length = (h ++ l).length + 1 := by rw [List.length_append]; rfl
    have mv : ∀ (k : Nat) (o : SO), ¬ Tb B O k → (h ++ l)[k]? = some o → ((h ++ l) ++ [SO.lst []])[k]? = some o ∧ ¬ (Tb B O k ∨ k = (h ++ l).length) := fun k o t e => ⟨ao e, fun z => by
      rcases z with z | z
      · exact t z
      · have := (List.getElem?_eq_some_iff.mp e).1; omega⟩
    have E2 := yI E1 (B' := fun i => Tb B O i ∨ i = (h ++ l).length) (m := m) (js := js) (h' := (h ++ l) ++ [SO.lst []]) (fun i z => by
      rw [hlen]
      rcases z with z | z
      · have := tl i z; omega
      · omega) mv
    have dd : Dns (Tb (fun i => Tb B O i ∨ i = (h ++ l).length) (List.replicate (m3 m js δ).length [])) ((h ++ l) ++ [SO.lst []]) xs t.items := Dns.mono (fun k o t e => ⟨(mv k o t e).1, fun z => (mv k o t e).2 (z.elim id fun y => y.none.elim)⟩) xs _ d
    obtain ⟨vs', h', z1, z2, z3, z4, z5⟩ := rD (t := t) (A := (h ++ l).length) hg hc he (.inr rfl) xs t.items _ _ _ _ [] [] r E2 dd (by simp) (by simp only [Dns]) (fun h' q => st O h' ⟨by
        have : ∀ i < (h ++ l).length, i < h'.length := fun i hi => by
          have := q i _ (by omega) (by show i < ((h ++ l) ++ [SO.lst []]).length; rw [hlen]; omega) (ao (List.getElem?_eq_getElem hi))
          exact (List.getElem?_eq_some_iff.mp this).1
        rcases Nat.eq_zero_or_pos (h ++ l).length with z | z
        · omega
        · have := this ((h ++ l).length - 1) (by omega); omega, fun i o e nm => ⟨q i o (by have := (List.getElem?_eq_some_iff.mp e).1; omega) (by show i < ((h ++ l) ++ [SO.lst []]).length; rw [hlen]; have := (List.getElem?_eq_some_iff.mp e).1; omega) (ao e), nm⟩⟩) eq
    have kp : Kp ⟨h.length, fun _ => False, none⟩ h h' := ⟨by show h.length ≤ _; rw [hlen, List.length_append] at z5; omega, fun i o hi _ e => z4 i o (by rw [List.length_append]; have hi : i < h.length := hi; omega) (by show i < ((h ++ l) ++ [SO.lst []]).length; rw [hlen, List.length_append]; have hi : i < h.length := hi; omega) (ao (ao e))⟩
    obtain ⟨l', rfl⟩ := oM kp
    refine ⟨(h ++ l).length, l', vs', ?_, by rw [List.length_append]; omega, z2, z3⟩
    unfold iJ
    rw [c1]
    exact z1
def Fp (T : Nat → Prop) (h : Sh) (xs : List P) : OR → Prop
  | .new (.lst us) => Dns T h xs us
  | _ => False
theorem DU {T : Nat → Prop} {o : OR} {r : List P} (x : Fp T h r o) : ∃ a l us, o.fin h = .ok (.ref a) (h ++ l) ∧ h.length ≤ a ∧ (h ++ l)[a]? = some (.lst us) ∧ Dns (fun i => T i ∨ i = a) (h ++ l) r us := by
  cases o with
  | new o =>
    cases o with
    | lst us =>
      refine ⟨h.length, [.lst us], us, rfl, Nat.le_refl _, by simp, Dns.mono (fun i o t e => ⟨ao e, fun z => ?_⟩) r us x⟩
      rcases z with z | z
      · exact t z
      · have := (List.getElem?_eq_some_iff.mp e).1; omega
    | _ => exact x.elim
  | _ => exact x.elim
theorem Ge {f : List W → Sh → OR} {g : List P → Option (List P)} {a : DA} {p : PA} (k : ∀ T h ps ws r, qH T h ps ws → g ps = some r → Fp T h r (f ws h)) (ha : Ce a p) : Po (dB f a) (pO g p) := fun n B O s h δ r E e => by
  unfold pO at e
  cases e1 : p δ with
  | none => rw [e1] at e; cases e
  | some x =>
    rw [e1] at e
    obtain ⟨w, l, c1, d1⟩ := ha n B O s h δ x E e1
    obtain ⟨b, l3, us, c3, ge, g3, d3⟩ := DU (k _ _ _ _ _ d1 e)
    refine ⟨b, l ++ l3, us, ?_, by rw [List.length_append] at ge; omega, by rw [← List.append_assoc]; exact g3, by rw [← List.append_assoc]; exact d3⟩
    unfold dB
    rw [c1]
    simp only [R.bind]
    rw [c3, List.append_assoc]
def vN : List P → Option (List P)
  | [p] => nW p
  | _ => none
theorem Bh {a : DA} {p : PA} (ha : Ce a p) : Po (dB bQ a) (pO vN p) := Ge (fun T h ps ws r x e => by
  unfold vN at e
  split at e
  · obtain ⟨u, rfl, d⟩ := x.one
    obtain ⟨us, g, ds⟩ := d.seq e
    simp only [bQ, g, Fp]
    exact ds
  · cases e) ha
def Df (g : P → P → Option (List P)) (p q : PE) : Dl → Option (List P) := fun δ => (p δ).bind fun x => (q δ).bind fun y => g x y
def DR (p : P) : Bool := (DQ p).isSome
def vK (g : PF) (a : PA) : PE := fun δ => ((a δ).bind g).bind fun r => if DR r.val then some r.val else none
def lent : List P → List W → Nat → Prop
  | _ :: ps, w :: ws, i => w = .ref i ∨ lent ps ws i
  | _, _, _ => False
end
end HL
namespace HL
open PySem (Str)
abbrev FJ (i j : Int) : Bool := decide (i < j)
abbrev EG (i j : Int) : Bool := decide (i ≤ j)
abbrev Gg (i j : Int) : Bool := decide (j < i)
abbrev Gh (i j : Int) : Bool := decide (j ≤ i)
def xR := pZ (fun _ _ => true) fun i j => i - j
def ke := pZ (fun _ j => decide (0 < j) && decide (j < 1073741824)) fun i j => i / j
def gZ := pZ (fun _ j => decide (0 < j)) fun i j => i % j
def xS := pZ (fun i j => decide (0 ≤ j) && decide (j ≤ 1000000) && decide (i.natAbs < 2 ^ 64)) fun i j => i ^ j.toNat
def F8 := t7 FJ
def F9 := t7 EG
def C0 := t7 Gg
def Ga := t7 Gh
theorem D3 : tI oI xR := tD
theorem kJ : tI fP ke := tD
theorem gf : tI fj gZ := tD
theorem D4 : tI yp xS := tD
theorem D7 : tI Dw C0 := D8
section
variable {h l : Sh}
def Ck : P → Option Ty
  | .non => some (.bi "NoneType")
  | .bl _ => some (.bi "bool")
  | .int _ => some (.bi "int")
  | .str _ => some (.bi "str")
  | .lst _ => some (.bi "list")
  | .rol _ => some (.bi "list")
  | .tup _ => some (.bi "tuple")
  | .ins c _ => some (.own false c)
  | .dct => some (.bi "dict")
  | _ => none
theorem Cj {T : Nat → Prop} {p : P} {w : W} {t : Ty} (x : iy T h p w) (e : Ck p = some t) : qJ h w = some t := by
  rcases x with x | ⟨xs, a, us, rfl, rfl, g, d⟩
  · cases p <;> simp only [Dn] at x <;> first
      | (subst x; exact e)
      | (obtain ⟨i, us, rfl, _, g, _⟩ := x; simp only [qJ, g]; exact e)
      | (obtain ⟨i, rfl, _, g⟩ := x; simp only [qJ, g]; exact e)
  · simp only [qJ, g]; exact e
def Eb : P → Option W
  | .ty n => some (.ty n)
  | .gl x => some (.gl x)
  | _ => none
def uG : List P → Option (List W)
  | [] => some []
  | p :: ps => (Eb p).bind fun u => (uG ps).map (u :: ·)
theorem Ea {T : Nat → Prop} {p : P} {w u : W} (x : Dn T h p w) (e : Eb p = some u) : w = u ∧ yy u = true := by
  cases p <;> first
    | (cases e; simp only [Dn] at x; exact ⟨x, rfl⟩)
    | cases e
theorem zJ {T : Nat → Prop} : ∀ (ps : List P) (us vs : List W), Dns T h ps us → uG ps = some vs → us = vs ∧ vs.all yy = true
  | [], us, vs, x, e => by simp only [Dns] at x; rw [x]; cases e; exact ⟨rfl, rfl⟩
  | p :: ps, us, vs, x, e => by
    simp only [Dns] at x
    obtain ⟨u, r, rfl, d, dr⟩ := x
    unfold uG at e
    cases e1 : Eb p with
    | none => rw [e1] at e; cases e
    | some a =>
      rw [e1] at e
      cases e2 : uG ps with
      | none => rw [e2] at e; cases e
      | some b =>
        rw [e2] at e
        cases e
        obtain ⟨z1, z2⟩ := Ea d e1
        obtain ⟨z3, z4⟩ := zJ ps r b dr e2
        subst z1 z3
        exact ⟨rfl, by rw [List.all_cons, z2, z4]; rfl⟩
def pY (T : CT) : List P → Option P
  | [p, .tup cs] => (Ck p).bind fun t => (uG cs).bind fun us => if us.isEmpty then none else (uy T t us).map .bl
  | [p, c] => (Ck p).bind fun t => (Eb c).bind fun u => (rl T t u).map .bl
  | _ => none
theorem kG {T : CT} : BD (b7 T) (pY T) := fun S h ps ws r x e => by
  unfold pY at e
  split at e
  · rename_i p cs
    obtain ⟨u, v, rfl, d1, d2⟩ := x.two
    cases e1 : Ck p with
    | none => rw [e1] at e; cases e
    | some t =>
      rw [e1] at e
      simp only [Option.bind_some] at e
      cases e2 : uG cs with
      | none => rw [e2] at e; cases e
      | some us =>
        rw [e2] at e
        simp only [Option.bind_some] at e
        split at e
        · cases e
        · rename_i ne
          obtain ⟨a, vs, rfl, _, g, ds⟩ := d2.tup
          obtain ⟨rfl, ac⟩ := zJ cs vs us ds e2
          cases e3 : uy T t vs with
          | none => rw [e3] at e; cases e
          | some b =>
            rw [e3] at e; cases e
            simp only [b7, isi, Cj d1 e1, g, ac, Bool.eq_false_iff.mpr ne, Bool.not_false, Bool.and_self, if_true, e3, mI, Dn]
  · rename_i p c hc
    obtain ⟨u, v, rfl, d1, d2⟩ := x.two
    cases e1 : Ck p with
    | none => rw [e1] at e; cases e
    | some t =>
      rw [e1] at e
      simp only [Option.bind_some] at e
      cases e2 : Eb c with
      | none => rw [e2] at e; cases e
      | some w =>
        rw [e2] at e
        simp only [Option.bind_some] at e
        cases e3 : rl T t w with
        | none => rw [e3] at e; cases e
        | some b =>
          rw [e3] at e; cases e
          have hv : v = w ∧ yy w = true := by
            rcases d2 with d2 | ⟨xs, a, us, rfl, _⟩
            · exact Ea d2 e2
            · cases e2
          obtain ⟨rfl, ic⟩ := hv
          have : isi T h u v = some b := by
            unfold isi
            rw [Cj d1 e1]
            cases v with
            | ty n => exact e3
            | gl n => exact e3
            | _ => cases ic
          simp only [b7, this, mI, Dn]
  · cases e
end
def pL (o : Dl → Option (List P)) : PE := fun δ => (o δ).map .lst
theorem Fj {d : DE} {o : Dl → Option (List P)} (x : Po d o) : Pe d (pL o) := x.e
end HL
namespace HL
open PySem (Str)
def Bs (c k : Int) : Int :=
  ((c % 2147483647 * (c % 2147483647) % 2147483629) * (c % 2147483647 * (c % 2147483647) % 2147483629) + 69621 * (c % 2147483647 * (c % 2147483647) % 2147483629) + k) % 2147483587
theorem hR {i j : Int} (h : i.natAbs < 18446744073709551616) : eQ i j = true := by unfold eQ; simp [show i.natAbs < 2 ^ 64 from h]
theorem sT {i j : Int} (h : j.natAbs < 18446744073709551616) : eQ i j = true := by unfold eQ; simp [show j.natAbs < 2 ^ 64 from h]
theorem lU (i j : Int) : lV (.int i) (.int j) = if eQ i j = true then some (.int (i * j)) else none := rfl
theorem dE (i j : Int) : jG (.int i) (.int j) = some (.int (i + j)) := rfl
theorem lT (i j : Int) : xR (.int i) (.int j) = some (.int (i - j)) := rfl
theorem cJ (i j : Int) (h : 0 < j) : gZ (.int i) (.int j) = some (.int (i % j)) := by unfold gZ pZ; simp [h]
theorem iF (i j : Int) (h : 0 < j) (h2 : j < 1073741824) : ke (.int i) (.int j) = some (.int (i / j)) := by unfold ke pZ; simp [h, h2]
theorem sA (i j : Int) : F8 (.int i) (.int j) = some (.bl (decide (i < j))) := rfl
theorem sC (i j : Int) : F9 (.int i) (.int j) = some (.bl (decide (i ≤ j))) := rfl
theorem sG (i j : Int) : C0 (.int i) (.int j) = some (.bl (decide (j < i))) := rfl
theorem sH (i j : Int) : Ga (.int i) (.int j) = some (.bl (decide (j ≤ i))) := rfl
theorem oq (m : Bool) (i j : Int) : sL m (.int i) (.int j) = some (.bl (m != decide (i = j))) := rfl
theorem sI (m : Bool) (i j : Str) : sL m (.str i) (.str j) = some (.bl (m != decide (i = j))) := rfl
theorem rA (n : Nat) (ns : List Int) : eW (eY n) (ns.map P.int) = some (ns.map D.int) := by
  induction ns with
  | nil => rfl
  | cons a r ih => rw [List.map_cons]; unfold eW; rw [ih]; cases n <;> rfl
theorem rO (xs ys : List Int) : D.eqs (xs.map D.int) (ys.map D.int) = decide (xs = ys) := by
  induction xs generalizing ys with
  | nil => cases ys <;> simp [D.eqs]
  | cons x xs ih =>
    cases ys with
    | nil => simp [D.eqs]
    | cons y ys =>
      simp only [List.map_cons, D.eqs, D.eq, ih]
      rw [Bool.eq_iff_iff]; simp
theorem sJ (m : Bool) (ns : List Int) : sL m (.rol (ns.map .int)) (.lst []) = some (.bl (m != decide (ns = []))) := by
  unfold sL BK
  simp only [j3, eY, rA, Option.map_some, eW]
  have := rO ns []
  simp only [D.eq, List.map_nil] at this ⊢
  rw [this]
theorem wV (ns : List Int) (i : Int) (h0 : 0 ≤ i) (h : i < ns.length) : jv (ns.map P.int) i = some (.int (ns.getD i.toNat 0)) := by
  have h1 : i.toNat < ns.length := by omega
  unfold jv kU
  rw [List.length_map, if_pos h0, if_pos h]
  simp only [Option.bind_some, List.getElem?_map]
  rw [List.getElem?_eq_getElem h1, List.getD_eq_getElem?_getD, List.getElem?_eq_getElem h1]
  rfl
theorem sF (xs : List P) (i : Int) : xU (.lst xs) (.int i) = jv xs i := rfl
theorem sE (xs : List P) (i : Int) : xU (.rol xs) (.int i) = jv xs i := rfl
theorem sD (xs : List P) (i : Int) : xU (.tup xs) (.int i) = jv xs i := rfl
theorem pV (xs : List P) : pX [.rol xs] = some (.int xs.length) := rfl
theorem pW (xs : List P) : pX [.lst xs] = some (.int xs.length) := rfl
theorem pU (xs : List P) : pX [.tup xs] = some (.int xs.length) := rfl
theorem zW (x0 : P) (r : List P) : jv (x0 :: r) 0 = some x0 := by
  unfold jv kU
  rw [if_pos (by decide), if_pos (by simp only [List.length_cons]; omega)]
  rfl
theorem zV (x0 x1 : P) (r : List P) : jv (x0 :: x1 :: r) 1 = some x1 := by
  unfold jv kU
  rw [if_pos (by decide), if_pos (by simp only [List.length_cons]; omega)]
  rfl
theorem zU (x0 x1 x2 : P) (r : List P) : jv (x0 :: x1 :: x2 :: r) 2 = some x2 := by
  unfold jv kU
  rw [if_pos (by decide), if_pos (by simp only [List.length_cons]; omega)]
  rfl
theorem zT (x0 x1 x2 x3 : P) (r : List P) : jv (x0 :: x1 :: x2 :: x3 :: r) 3 = some x3 := by
  unfold jv kU
  rw [if_pos (by decide), if_pos (by simp only [List.length_cons]; omega)]
  rfl
theorem zS (x0 x1 x2 x3 x4 : P) (r : List P) : jv (x0 :: x1 :: x2 :: x3 :: x4 :: r) 4 = some x4 := by
  unfold jv kU
  rw [if_pos (by decide), if_pos (by simp only [List.length_cons]; omega)]
  rfl
theorem zR (x0 x1 x2 x3 x4 x5 : P) (r : List P) : jv (x0 :: x1 :: x2 :: x3 :: x4 :: x5 :: r) 5 = some x5 := by
  unfold jv kU
  rw [if_pos (by decide), if_pos (by simp only [List.length_cons]; omega)]
  rfl
theorem zQ (x0 x1 x2 x3 x4 x5 x6 : P) (r : List P) : jv (x0 :: x1 :: x2 :: x3 :: x4 :: x5 :: x6 :: r) 6 = some x6 := by
  unfold jv kU
  rw [if_pos (by decide), if_pos (by simp only [List.length_cons]; omega)]
  rfl
theorem zP (x0 x1 x2 x3 x4 x5 x6 x7 : P) (r : List P) : jv (x0 :: x1 :: x2 :: x3 :: x4 :: x5 :: x6 :: x7 :: r) 7 = some x7 := by
  unfold jv kU
  rw [if_pos (by decide), if_pos (by simp only [List.length_cons]; omega)]
  rfl
theorem zO (x0 x1 x2 x3 x4 x5 x6 x7 x8 : P) (r : List P) : jv (x0 :: x1 :: x2 :: x3 :: x4 :: x5 :: x6 :: x7 :: x8 :: r) 8 = some x8 := by
  unfold jv kU
  rw [if_pos (by decide), if_pos (by simp only [List.length_cons]; omega)]
  rfl
theorem zN (x0 x1 x2 x3 x4 x5 x6 x7 x8 x9 : P) (r : List P) : jv (x0 :: x1 :: x2 :: x3 :: x4 :: x5 :: x6 :: x7 :: x8 :: x9 :: r) 9 = some x9 := by
  unfold jv kU
  rw [if_pos (by decide), if_pos (by simp only [List.length_cons]; omega)]
  rfl
theorem wX (x0 x1 x2 x3 x4 x5 x6 x7 x8 x9 x10 : P) (r : List P) : jv (x0 :: x1 :: x2 :: x3 :: x4 :: x5 :: x6 :: x7 :: x8 :: x9 :: x10 :: r) 10 = some x10 := by
  unfold jv kU
  rw [if_pos (by decide), if_pos (by simp only [List.length_cons]; omega)]
  rfl
theorem wW (x0 x1 x2 x3 x4 x5 x6 x7 x8 x9 x10 x11 : P) (r : List P) : jv (x0 :: x1 :: x2 :: x3 :: x4 :: x5 :: x6 :: x7 :: x8 :: x9 :: x10 :: x11 :: r) 11 = some x11 := by
  unfold jv kU
  rw [if_pos (by decide), if_pos (by simp only [List.length_cons]; omega)]
  rfl
theorem pI (xs : List P) : nW (.lst xs) = some xs := rfl
theorem pH (xs : List P) : nW (.rol xs) = some xs := rfl
theorem pG (xs : List P) : nW (.tup xs) = some xs := rfl
theorem qc (xs : List P) : vW (.lst xs) = some xs := rfl
theorem qb (xs : List P) : vW (.rol xs) = some xs := rfl
theorem pA : mK .non = some false := rfl
theorem rT (b : Bool) : mK (.bl b) = some b := rfl
theorem pE (i : Int) : mK (.int i) = some (i != 0) := rfl
theorem pD (xs : List P) : mK (.lst xs) = some (!xs.isEmpty) := rfl
theorem pz (xs : List P) : mK (.rol xs) = some (!xs.isEmpty) := rfl
theorem px (xs : List P) : mK (.tup xs) = some (!xs.isEmpty) := rfl
theorem wR (b : Bool) : BS (.bl b) = some b := rfl
theorem Aq {a b : PS} {δ δ' : Dl} {r : RS} (h : a δ = .nx δ') (k : b δ' = r) : fY a b δ = r := by unfold fY; rw [h]; exact k
theorem Ap {a b : PS} {δ : Dl} {p : P} (h : a δ = .rt p) : fY a b δ = .rt p := by unfold fY; rw [h]
theorem nA {p m : Nat} {b : PS} {ps : List P} {δ : Dl} {r : P} (hp : ps.length = p) (hs : cF m ps = δ) (h : b δ = .rt r) : gM p m b ps = some (.v r) := by unfold gM; rw [if_pos hp, hs, h]
theorem C7 {p m : Nat} {b : PS} {ps : List P} {δ : Dl} {r : List P} (hp : ps.length = p) (hs : cF m ps = δ) (h : b δ = .ro r) : gM p m b ps = some (.o r) := by unfold gM; rw [if_pos hp, hs, h]
end HL
namespace HL
mutual
theorem D.eq_rfl : ∀ d : D, D.eq d d = true
  | .non => by simp only [D.eq]
  | .bl b => by simp only [D.eq, beq_self_eq_true]
  | .int i => by simp only [D.eq, beq_self_eq_true]
  | .str s => by simp only [D.eq, beq_self_eq_true]
  | .lst xs => by simp only [D.eq]; exact D.eqs_rfl xs
  | .tup xs => by simp only [D.eq]; exact D.eqs_rfl xs
theorem D.eqs_rfl : ∀ xs : List D, D.eqs xs xs = true
  | [] => by simp only [D.eqs, List.isEmpty_nil]
  | x :: xs => by simp only [D.eqs, D.eq_rfl x, D.eqs_rfl xs, Bool.and_self]
end
theorem p0 (m : Bool) {p : P} {d : D} (h : eY j3 p = some d) : sL m p p = some (.bl (!m)) := by
  unfold sL BK
  split
  · simp
  · simp
  · simp only [h, D.eq_rfl, Option.map_some]; simp
theorem tF {β : Type} {t : PT} {e : PE} {τ : Dl} (emb f : β → P) (q : β → Bool) : ∀ (xs : List β) (acc : List P) (x0 : Sl), (∀ b ∈ xs, t (.val (emb b) :: τ) = some (q b)) → (∀ b ∈ xs, q b = true → e (.val (emb b) :: τ) = some (f b)) → acc.length + xs.length ≤ 1000 →
    jh (g7 0) t e (xs.map emb) (x0 :: τ) acc = some (acc ++ (xs.filter q).map f)
  | [], acc, x0, _, _, _ => by simp [jh]
  | x :: xs, acc, x0, ht, he, hl => by
    rw [List.map_cons]
    unfold jh
    rw [List.length_cons] at hl
    have hlen : acc.length < gT := by unfold gT; omega
    have r0 := ht x List.mem_cons_self
    have r1 := fun (a : List P) (ha : a.length + xs.length ≤ 1000) => tF emb f q xs a (.val (emb x)) (fun b hb => ht b (List.mem_cons_of_mem _ hb)) (fun b hb => he b (List.mem_cons_of_mem _ hb)) ha
    simp only [g7, List.set_cons_zero, r0, Option.bind_some]
    cases hq : q x with
    | true =>
      simp only [if_true, he x List.mem_cons_self hq, Option.bind_some, if_pos hlen]
      rw [r1 _ (by rw [List.length_append, List.length_cons, List.length_nil]; omega), List.filter_cons_of_pos hq]
      simp
    | false =>
      simp only [Bool.false_eq_true, if_false]
      rw [r1 _ (by omega), List.filter_cons_of_neg (by rw [hq]; decide)]
theorem yR {β : Type} {e : PE} {τ : Dl} (emb f : β → P) (xs : List β) (x0 : Sl) (he : ∀ b ∈ xs, e (.val (emb b) :: τ) = some (f b)) (hl : xs.length ≤ 1000) :
    jh (g7 0) jm e (xs.map emb) (x0 :: τ) [] = some (xs.map f) := by
  rw [tF emb f (fun _ => true) xs [] x0 (fun _ _ => rfl) (fun b hb _ => he b hb) (by simp; omega), List.filter_eq_self.mpr (fun _ _ => rfl), List.nil_append]
end HL
namespace HL
open PySem (Str)
section
variable {n : Lo} {B : Nat → Prop} {O O' O2 : List (List Nat)} {s : Sg} {h h' h2 l : Sh} {δ : Dl}
theorem Dnf.get {T : Nat → Prop} {f : Str} {p : P} : ∀ {fs : List (Str × P)} {gs : List (Str × W)}, Dnf T h fs gs → fs.lookup f = some p → ∃ w, gs.lookup f = some w ∧ Dn T h p w
  | [], gs, x, e => by cases e
  | (g, q) :: fs, gs, x, e => by
    simp only [Dnf] at x
    obtain ⟨u, r, rfl, d, ds⟩ := x
    by_cases z : f = g
    · subst z
      simp only [List.lookup, beq_self_eq_true, Option.some.injEq] at e
      subst e
      exact ⟨u, by simp only [List.lookup, beq_self_eq_true], d⟩
    · have zb : (f == g) = false := by simpa using z
      simp only [List.lookup, zb] at e
      obtain ⟨w, a, b⟩ := Dnf.get ds e
      exact ⟨w, by simp only [List.lookup, zb]; exact a, b⟩
theorem Dnf.no {T : Nat → Prop} {f : Str} : ∀ {fs : List (Str × P)} {gs : List (Str × W)}, Dnf T h fs gs → fs.lookup f = none → gs.lookup f = none
  | [], gs, x, e => by simp only [Dnf] at x; rw [x]; rfl
  | (g, q) :: fs, gs, x, e => by
    simp only [Dnf] at x
    obtain ⟨u, r, rfl, d, ds⟩ := x
    by_cases z : f = g
    · subst z
      simp only [List.lookup, beq_self_eq_true, reduceCtorEq] at e
    · have zb : (f == g) = false := by simpa using z
      simp only [List.lookup, zb] at e ⊢
      exact Dnf.no ds e
def C1 (cs : List Str) (f : Str) : P → Option P
  | .ins c fs => if cs.contains c = true then fs.lookup f else none
  | _ => none
def ui (cs : List Str) (f : Str) (a : PE) : PE := fun δ => (a δ).bind (C1 cs f)
theorem tj {cs : List Str} {f : Str} {a : DE} {p : PE} (ha : Pe a p) : Pe (e9 cs f a) (ui cs f p) := fun n B O s h δ r E e => by
  unfold ui at e
  cases e1 : p δ with
  | none => rw [e1] at e; cases e
  | some x =>
    rw [e1] at e
    simp only [Option.bind_some] at e
    obtain ⟨w, l, c1, d1⟩ := ha n B O s h δ x E e1
    cases x with
    | ins c fs =>
      simp only [C1] at e
      split at e
      · rename_i hc
        simp only [Dn] at d1
        obtain ⟨i, gs, rfl, _, g, ds⟩ := d1
        obtain ⟨u, lu, du⟩ := ds.get e
        refine ⟨u, l, ?_, du⟩
        unfold e9
        rw [c1]
        simp only [R.bind, v8, g, hc, if_true, lu]
      · cases e
    | _ => cases e
def o6 (tb : List (Str × Fn)) (pt : List (Str × PF)) : Prop := ∀ c g, pt.lookup c = some g → ∃ f, tb.lookup c = some f ∧ Pf f g
theorem o6.nil : o6 [] [] := fun c g e => by cases e
theorem o6.cons {c : Str} {f : Fn} {g : PF} {tb : List (Str × Fn)} {pt : List (Str × PF)} (k : Pf f g) (r : o6 tb pt) : o6 ((c, f) :: tb) ((c, g) :: pt) := fun c' g' e => by
  by_cases z : c' = c
  · subst z
    simp only [List.lookup, beq_self_eq_true, Option.some.injEq] at e ⊢
    subst e
    exact ⟨f, rfl, k⟩
  · have zb : (c' == c) = false := by simpa using z
    simp only [List.lookup, zb] at e ⊢
    exact r c' g' e
def FA (pt : List (Str × PF)) (m : Str) : P → Option PF
  | .ins c fs => if fs.lookup m = none then pt.lookup c else none
  | _ => none
def zA (pt : List (Str × PF)) (m : Str) (a : PE) (as : PA) : PE := fun δ => (a δ).bind fun x => (FA pt m x).bind fun g => (as δ).bind fun xs => (g (x :: xs)).map RF.val
theorem oR {tb : List (Str × Fn)} {pt : List (Str × PF)} {m : Str} {a : DE} {p : PE} {as : DA} {ps : PA} (k : o6 tb pt) (ha : Pe a p) (hs : Pa as ps) : Pe (bG tb m a as) (zA pt m p ps) := fun n B O s h δ r E e => by
  unfold zA at e
  cases e1 : p δ with
  | none => rw [e1] at e; cases e
  | some x =>
    rw [e1] at e
    simp only [Option.bind_some] at e
    obtain ⟨w, l, c1, d1⟩ := ha n B O s h δ x E e1
    cases x with
    | ins c fs =>
      simp only [FA] at e
      split at e
      · rename_i hn
        cases e2 : pt.lookup c with
        | none => rw [e2] at e; cases e
        | some g =>
          rw [e2] at e
          simp only [Option.bind_some] at e
          cases e3 : ps δ with
          | none => rw [e3] at e; cases e
          | some xs =>
            rw [e3] at e
            simp only [Option.bind_some] at e
            cases e4 : g (.ins c fs :: xs) with
            | none => rw [e4] at e; cases e
            | some rf =>
              rw [e4] at e; cases e
              obtain ⟨f, lf, pf⟩ := k c g e2
              obtain ⟨ws, l2, c2, d2⟩ := hs n B O s (h ++ l) δ xs E.app e3
              have d1' : Dn (Tb B O) (h ++ l ++ l2) (.ins c fs) w := d1.app
              have dd : Dns (Tb B O) (h ++ l ++ l2) (.ins c fs :: xs) (w :: ws) := by simp only [Dns]; exact ⟨w, ws, rfl, d1', d2⟩
              obtain ⟨v, l3, c3, d3⟩ := pf (Tb B O) (h ++ l ++ l2) (w :: ws) _ rf (fun i t => Tb.lt (E.app (l := l) |>.app (l := l2)) t) dd e4
              refine ⟨v, l ++ l2 ++ l3, ?_, ?_⟩
              · simp only [Dn] at d1
                obtain ⟨i, gs, rfl, _, g1, ds⟩ := d1
                unfold bG
                rw [c1]
                simp only [R.bind, mw, g1, ds.no hn, if_true, lf]
                rw [c2]
                simp only
                rw [c3]
                simp only [List.append_assoc]
              · rw [← List.append_assoc, ← List.append_assoc]
                cases rf with
                | v p => exact d3
                | o xs =>
                  obtain ⟨a, us, rfl, ge, g, ds⟩ := d3
                  simp only [RF.val, Dn]
                  exact ⟨a, us, rfl, fun t => absurd (Tb.lt (E.app (l := l) |>.app (l := l2)) t) (by omega), g, ds.weak fun i t => .inl t⟩
      · cases e
    | _ => cases e
theorem Dnf.zip {T : Nat → Prop} : ∀ (ns : List Str) (xs : List P) (us : List W), Dns T h xs us → Dnf T h (ns.zip xs) (ns.zip us)
  | [], xs, us, d => by simp only [List.zip_nil_left, Dnf]
  | f :: ns, [], us, d => by simp only [Dns] at d; rw [d]; simp only [List.zip_nil_right, Dnf]
  | f :: ns, x :: xs, us, d => by
    simp only [Dns] at d
    obtain ⟨u, r, rfl, d1, d2⟩ := d
    simp only [List.zip_cons_cons, Dnf]
    exact ⟨u, _, rfl, d1, Dnf.zip ns xs r d2⟩
end
end HL
namespace HL
open PySem (Str)
section
variable {n : Lo} {B : Nat → Prop} {O O' : List (List Nat)} {s : Sg} {h h' h2 l : Sh} {δ : Dl}
abbrev PX := Dl → Option (P × Dl)
def Px (d : DE) (p : PX) : Prop := ∀ n B O s h δ r δ', Env n B O s h δ → p δ = some (r, δ') → ∃ w O' h', d s h = .ok w h' ∧ Env n B O' s h' δ' ∧ bV O h O' h' ∧ Dn (Tb B O') h' r w
def FE (p : PE) : PX := fun δ => (p δ).map fun r => (r, δ)
theorem Pe.x {d : DE} {p : PE} (x : Pe d p) : Px d (FE p) := fun n B O s h δ r δ' E e => by
  unfold FE at e
  cases e1 : p δ with
  | none => rw [e1] at e; cases e
  | some q =>
    rw [e1] at e; cases e
    obtain ⟨w, l, c, d⟩ := x n B O s h δ _ E e1
    exact ⟨w, O, h ++ l, c, E.app, bV.app, d⟩
abbrev FO := Dl → Option (Bool × Dl)
def Gk (d : DT) (p : FO) : Prop := ∀ n B O s h δ r δ', Env n B O s h δ → p δ = some (r, δ') → ∃ O' h', d s h = .ok r h' ∧ Env n B O' s h' δ' ∧ bV O h O' h'
def FD (p : PT) : FO := fun δ => (p δ).map fun r => (r, δ)
theorem Pt.x {d : DT} {p : PT} (x : Pt d p) : Gk d (FD p) := fun n B O s h δ r δ' E e => by
  unfold FD at e
  cases e1 : p δ with
  | none => rw [e1] at e; cases e
  | some q =>
    rw [e1] at e; cases e
    obtain ⟨l, c⟩ := x n B O s h δ _ E e1
    exact ⟨O, h ++ l, c, E.app, bV.app⟩
end
end HL
namespace HL
open PySem (Str)
section
variable {n : Lo} {B : Nat → Prop} {O O' : List (List Nat)} {s : Sg} {h h' h2 l : Sh} {δ : Dl}
abbrev PM := List (Str × Fv) → List P → Option (P × List (Str × Fv))
def Ad (T : Nat → Prop) (o : List Nat) : Nat → Prop := fun i => T i ∨ i ∈ o
theorem gJ.lt {T : Nat → Prop} : ∀ {fs : List (Str × Fv)} {gs : List (Str × W)} {o : List Nat}, gJ T h fs gs o → ∀ i ∈ o, i < h.length
  | [], gs, o, x, i, hi => by simp only [gJ] at x; rw [x.2] at hi; cases hi
  | (f, .val p) :: fs, gs, o, x, i, hi => by
    simp only [gJ] at x
    obtain ⟨u, r, e, d, y⟩ := x
    exact gJ.lt y i hi
  | (f, .own xs) :: fs, gs, o, x, i, hi => by
    simp only [gJ] at x
    obtain ⟨a, us, r, o', e1, e2, g, d, y⟩ := x
    subst e2
    rcases List.mem_cons.mp hi with z | z
    · rw [z]; exact (List.getElem?_eq_some_iff.mp g).1
    · exact gJ.lt y i z
theorem gJ.weak {T T' : Nat → Prop} {fs : List (Str × Fv)} {gs : List (Str × W)} {o : List Nat} (x : gJ T h fs gs o) (k : ∀ i, T' i → T i) : gJ T' h fs gs o := gJ.mv (fun i u t e => ⟨e, fun z => t (k i z)⟩) fs gs o (fun _ _ _ e => e) x
theorem Env.obj (E : Env n B O s h δ) {i a : Nat} {c : Str} {fs fs' : List (Str × Fv)} {o o' : List Nat} {gs' : List (Str × W)} (q : δ[i]? = some (.obj c fs)) (hoa : O[i]? = some (a :: o)) (hsw : s[i]? = some (some (.ref a)))
    (le : h.length ≤ h'.length) (fr : ∀ (k : Nat) (u : SO), k ∉ a :: o → h[k]? = some u → h'[k]? = some u) (g : h'[a]? = some (.ins c gs')) (nd : (a :: o').Nodup) (nw : ∀ k ∈ o', k ∈ o ∨ h.length ≤ k)
    (d : gJ (Ad (fun k => B k ∨ Ow (O.set i []) k) (a :: o')) h' fs' gs' o') : Env n B (O.set i (a :: o')) s h' (δ.set i (.obj c fs')) ∧ bV O h (O.set i (a :: o')) h' ∧ ∀ k, Tb B (O.set i (a :: o')) k → Ad (fun k => B k ∨ Ow (O.set i []) k) (a :: o') k := by
  have hi : i < δ.length := (List.getElem?_eq_some_iff.mp q).1
  have es : O.set i (a :: o') = (O.set i []).set i (a :: o') := by rw [List.set_set]
  have tb : ∀ k, Tb B (O.set i (a :: o')) k → Ad (fun k => B k ∨ Ow (O.set i []) k) (a :: o') k := fun k t => by
    rcases t with t | t
    · exact .inl (.inl t)
    · rw [es] at t
      rcases t.set with z | z
      · exact .inl (.inr z)
      · exact .inr z
  have oa : Ow O a := Ow.of hoa List.mem_cons_self
  have nk : ∀ (k : Nat) (u : SO), ¬ Ow O k → h[k]? = some u → ¬ Ow (O.set i (a :: o')) k := fun k u t e z => by
    rw [es] at z
    rcases z.set with z | z
    · exact t (bL z)
    · rcases List.mem_cons.mp z with z | z
      · rw [z] at t; exact t oa
      · rcases nw k z with z | z
        · exact t (Ow.of hoa (List.mem_cons_of_mem _ z))
        · have := (List.getElem?_eq_some_iff.mp e).1; omega
  have nm : ∀ k, ¬ Ow O k → k ∉ a :: o := fun k t z => t (Ow.of hoa z)
  refine ⟨?_, ⟨le, fun k u e t => ⟨fr k u (nm k t) e, nk k u t e⟩⟩, tb⟩
  exact {
    le := Nat.le_trans E.le le
    old := E.old
    ls := by rw [List.length_set]; exact E.ls
    lo := by rw [List.length_set, List.length_set]; exact E.lo
    one := fun j k b l m e1 e2 m1 m2 => by
      have key : ∀ (k : Nat) (l : List Nat), i ≠ k → (O.set i (a :: o'))[k]? = some l → ∀ b ∈ l, b ∉ a :: o' := fun k l ne e b hb z => by
        rw [List.getElem?_set_ne ne] at e
        rcases List.mem_cons.mp z with z | z
        · exact ne (E.one i k a _ _ hoa e List.mem_cons_self (z ▸ hb))
        · rcases nw b z with z | z
          · exact ne (E.one i k b _ _ hoa e (List.mem_cons_of_mem _ z) hb)
          · have := (E.new b (Ow.of e hb)).2; omega
      have self : ∀ (l : List Nat), (O.set i (a :: o'))[i]? = some l → l = a :: o' := fun l e => by
        rw [List.getElem?_set_self (by rw [E.lo]; exact hi)] at e; cases e; rfl
      by_cases hj : i = j
      · by_cases hk : i = k
        · rw [← hj, ← hk]
        · subst hj
          rw [self l e1] at m1
          exact absurd m1 (key k m hk e2 b m2)
      · by_cases hk : i = k
        · subst hk
          rw [self m e2] at m2
          exact absurd m2 (key j l hj e1 b m1)
        · rw [List.getElem?_set_ne hj] at e1
          rw [List.getElem?_set_ne hk] at e2
          exact E.one j k b l m e1 e2 m1 m2
    new := fun b m => by
      rw [es] at m
      rcases m.set with z | z
      · have := E.new b (bL z); exact ⟨this.1, by omega⟩
      · rcases List.mem_cons.mp z with z | z
        · rw [z]; have := E.new a oa; exact ⟨this.1, by omega⟩
        · refine ⟨?_, d.lt b z⟩
          rcases nw b z with z | z
          · exact (E.new b (Ow.of hoa (List.mem_cons_of_mem _ z))).1
          · exact .inl (Nat.le_trans E.le z)
    self := fun c2 f2 w e m => by
      by_cases hi0 : i = 0
      · subst hi0; exact E.self c fs w q m
      · rw [List.getElem?_set_ne hi0] at e; exact E.self c2 f2 w e m
    at_ := fun j sl e => by
      by_cases hj : i = j
      · subst hj
        rw [List.getElem?_set_self hi] at e
        cases e
        refine ⟨a, gs', o', ?_, ?_, by rw [hsw]; rfl, g, d.weak tb⟩
        · rw [List.getElem?_set_self (by rw [E.lo]; exact hi)]; rfl
        · rw [List.getElem?_set_self (by rw [E.lo]; exact hi)]; exact nd
      · rw [List.getElem?_set_ne hj] at e
        rw [f6 hj]
        refine (E.at_ j sl e).mv (fun k u t ek => ⟨fr k u (nm k fun z => t (.inr z)) ek, fun z => z.elim (fun z => t (.inl z)) fun z => nk k u (fun z => t (.inr z)) ek z⟩) fun b hb u eb => fr b u (fun z => ?_) eb
        cases q2 : O[j]? with
        | none => rw [q2] at hb; cases hb
        | some y => rw [q2] at hb; exact hj (E.one i j b _ _ hoa q2 z hb) }
end
end HL
namespace HL
open PySem (Str)
section
variable {n : Lo} {B : Nat → Prop} {O O' : List (List Nat)} {s : Sg} {h h' h2 l : Sh} {δ : Dl}
end
end HL
namespace HL
open PySem (Str)
section
variable {n : Lo} {B : Nat → Prop} {O O' : List (List Nat)} {s : Sg} {h h' h2 l : Sh} {δ : Dl} {T : Nat → Prop}
def p4 (f : Str) (v : Fv) : List (Str × Fv) → List (Str × Fv)
  | [] => [(f, v)]
  | (g, x) :: r => if g = f then (g, v) :: r else (g, x) :: p4 f v r
theorem gJ.own {f : Str} {xs : List P} : ∀ {fs : List (Str × Fv)} {gs : List (Str × W)} {o : List Nat}, gJ T h fs gs o → fs.lookup f = some (.own xs) → ∃ b us, gs.lookup f = some (.ref b) ∧ b ∈ o ∧ h[b]? = some (.lst us) ∧ Dns T h xs us ∧
      ∀ ys vs, Dns T h ys vs → T b → o.Nodup → gJ T (h.set b (.lst vs)) (p4 f (.own ys) fs) gs o
  | [], gs, o, x, e => by cases e
  | (g, .val q) :: fs, gs, o, x, e => by
    simp only [gJ] at x
    obtain ⟨u, r, rfl, d, ds⟩ := x
    by_cases z : f = g
    · subst z
      simp only [List.lookup, beq_self_eq_true, Option.some.injEq, reduceCtorEq] at e
    · have zb : (f == g) = false := by simpa using z
      simp only [List.lookup, zb] at e ⊢
      obtain ⟨b, us, e1, mb, gb, db, k⟩ := gJ.own ds e
      refine ⟨b, us, e1, mb, gb, db, fun ys vs dy tb nd => ?_⟩
      unfold p4
      rw [if_neg (fun q => z q.symm)]
      simp only [gJ]
      exact ⟨u, r, rfl, Dn.mono (fun i o t e => ⟨aq e (fun q => t (q ▸ tb)), t⟩) q u d, k ys vs dy tb nd⟩
  | (g, .own q) :: fs, gs, o, x, e => by
    simp only [gJ] at x
    obtain ⟨a, us, r, o', rfl, rfl, ga, d, ds⟩ := x
    by_cases z : f = g
    · subst z
      simp only [List.lookup, beq_self_eq_true, Option.some.injEq, Fv.own.injEq] at e ⊢
      subst e
      refine ⟨a, us, rfl, List.mem_cons_self, ga, d, fun ys vs dy tb nd => ?_⟩
      unfold p4
      rw [if_pos rfl]
      simp only [gJ]
      have mv : ∀ (i : Nat) (o : SO), ¬ T i → h[i]? = some o → (h.set a (.lst vs))[i]? = some o ∧ ¬ T i := fun i o t e => ⟨aq e (fun q => t (q ▸ tb)), t⟩
      exact ⟨a, vs, r, o', rfl, rfl, List.getElem?_set_self (List.getElem?_eq_some_iff.mp ga).1, Dns.mono mv ys vs dy, gJ.mv mv fs r o' (fun i hi u e => aq e (fun q => (List.nodup_cons.mp nd).1 (q ▸ hi))) ds⟩
    · have zb : (f == g) = false := by simpa using z
      simp only [List.lookup, zb] at e ⊢
      obtain ⟨b, us2, e1, mb, gb, db, k⟩ := gJ.own ds e
      refine ⟨b, us2, e1, List.mem_cons_of_mem _ mb, gb, db, fun ys vs dy tb nd => ?_⟩
      unfold p4
      rw [if_neg (fun q => z q.symm)]
      simp only [gJ]
      have nd' := List.nodup_cons.mp nd
      exact ⟨a, us, r, o', rfl, rfl, aq ga (fun q => nd'.1 (q ▸ mb)), Dns.mono (fun i o t e => ⟨aq e (fun q => t (q ▸ tb)), t⟩) q us d, k ys vs dy tb nd'.2⟩
theorem gJ.len : ∀ {fs : List (Str × Fv)} {gs : List (Str × W)} {o : List Nat}, gJ T h fs gs o → gs.length = fs.length
  | [], gs, o, x => by simp only [gJ] at x; rw [x.1]; rfl
  | (g, .val q) :: fs, gs, o, x => by
    simp only [gJ] at x
    obtain ⟨u, r, rfl, d, ds⟩ := x
    rw [List.length_cons, List.length_cons, gJ.len ds]
  | (g, .own q) :: fs, gs, o, x => by
    simp only [gJ] at x
    obtain ⟨a, us, r, o', rfl, rfl, ga, d, ds⟩ := x
    rw [List.length_cons, List.length_cons, gJ.len ds]
end
end HL
namespace HL
open PySem (Str)
section
variable {n : Lo} {B : Nat → Prop} {O O' : List (List Nat)} {s : Sg} {h h' h2 l : Sh} {δ : Dl} {T : Nat → Prop}
end
end HL
namespace HL
open PySem (Str)
section
variable {n : Lo} {B : Nat → Prop} {O O' : List (List Nat)} {s : Sg} {h h' h2 l : Sh} {δ : Dl} {T : Nat → Prop}
theorem Env.apart (E : Env n B O s h δ) {i : Nat} {m : List Nat} (hoa : O[i]? = some m) : ∀ k ∈ m, ¬ (B k ∨ Ow (O.set i []) k) := fun k hk t => by
  rcases t with t | t
  · have z1 := E.old k t
    rcases (E.new k (Ow.of hoa hk)).1 with z | z
    · omega
    · exact z1.2 z
  · obtain ⟨j, l, hj, ml⟩ := t.at_
    rw [List.getElem?_set] at hj
    split at hj
    · split at hj
      · cases hj; cases ml
      · cases hj
    · rename_i ne; exact ne (E.one i j k _ _ hoa hj hk ml)
def DF : Fv → Bool
  | .own _ => true
  | .val _ => false
def shape (fs : List (Str × Fv)) : List Bool := fs.map fun x => DF x.2
end
end HL
namespace HL
open PySem (Str)
section
variable {n : Lo} {B : Nat → Prop} {O O' O2 : List (List Nat)} {s : Sg} {h h' h2 l : Sh} {δ : Dl}
end
end HL
namespace L2
open PySem PySem.Spec PyProof.Rows
open HL (W SO Sh Sg OR DE DT DA DS Fn)
structure GC (K : PySem.W.Frag) (mg : Str → Option Value) (x : Str) (C : Addr) : Prop where
  at_ : mg x = some (.ref C)
  makes : PySem.W.makesIn K C = true
  init : PySem.W.findIn K (.ref C) "__init__" = some (some (.builtin "object.__init__"))
  kp : PySem.W.keepIn K (.ref C) = true
section
variable {X : Cx} {γ : Str → Addr} {a b c e o f : Expr} {es : List Expr} {da db dc de d1 d2 : DE} {pos pos' apos cpos : Pos}
def Ey : List (Str × Int) → List DictEntry → Prop
  | [], [] => True
  | (k, i) :: r, e :: es => (∃ t, e.key = .str k t) ∧ (∃ t, e.val = .int i t) ∧ Ey r es
  | _, _ => False
structure Gw (K : PySem.W.Frag) (mg : Str → Option Value) (w : World) (x : Str) (tb : List (Str × Int)) : Prop where
  ex : ∃ D es n, mg x = some (.ref D) ∧ K.lookup D = some { cls := .type "dict", data := .dict es n } ∧ PySem.W.KeysLit w.params es.toList ∧ (D == sysModules) = false ∧ Ey tb es.toList
end
def gm (mg : Str → Option Value) (x : Str) : Addr := match mg x with
  | some (.ref a) => a
  | _ => 0
theorem cf {mg : Str → Option Value} {x : Str} {C : Addr} (h : mg x = some (.ref C)) : gm mg x = C := by unfold gm; rw [h]
def DD (K : PySem.W.Frag) (cs : List (Str × Addr × List W)) : Bool :=
  (cs.all fun p => cs.all fun q => PySem.W.kitOne K (.ref p.2.1) (.ref q.2.1) == some (p.2.2.contains (.gl q.1))) &&
  (cs.all fun p => HL.qK.all fun b => PySem.W.kitOne K (.ref p.2.1) (.type b) == some (p.2.2.contains (.ty b))) &&
  (cs.all fun q => ("NoneType" :: HL.qK).all fun a => PySem.W.kitOne K (.type a) (.ref q.2.1) == some false) &&
  cs.all fun p => !(p.2.2.contains (.ty "ValueError"))
theorem mj {α : Type} {c : Str} {l : α} : ∀ {T : List (Str × α)}, T.lookup c = some l → (c, l) ∈ T
  | [], e => by cases e
  | (d, m) :: T, e => by
    by_cases z : c = d
    · subst z
      simp only [List.lookup, beq_self_eq_true, Option.some.injEq] at e
      subst e; exact List.mem_cons_self
    · have zb : (c == d) = false := by simpa using z
      simp only [List.lookup, zb] at e
      exact List.mem_cons_of_mem _ (mj e)
theorem DC {K : PySem.W.Frag} {γ : Str → Addr} {cs : List (Str × Addr × List W)} (hγ : ∀ p ∈ cs, γ p.1 = p.2.1) (hi : ∀ p ∈ cs, tJ K p.2.1) (hb : DD K cs = true) : kN K γ (cs.map fun p => (p.1, p.2.2)) := by
  unfold DD at hb
  simp only [Bool.and_eq_true] at hb
  obtain ⟨⟨⟨h1, h2⟩, h3⟩, h4⟩ := hb
  have mem : ∀ c l, (cs.map fun p => (p.1, p.2.2)).lookup c = some l → ∃ a, (c, a, l) ∈ cs ∧ γ c = a := fun c l e => by
    obtain ⟨p, hp, q⟩ := List.mem_map.mp (mj e)
    obtain ⟨x, a, m⟩ := p
    cases q
    exact ⟨a, hp, hγ _ hp⟩
  refine ⟨?_, ?_, ?_, ?_⟩
  · intro c l e
    obtain ⟨a, hp, ga⟩ := mem c l e
    rw [ga]
    have hv := List.all_eq_true.mp h4 _ hp
    simp only [Bool.not_eq_true'] at hv
    exact ⟨fun _ => hi _ hp, fun z => by rw [hv] at z; cases z⟩
  · intro c l e x m e2
    obtain ⟨a, hp, ga⟩ := mem c l e
    obtain ⟨b, hq, gb⟩ := mem x m e2
    rw [ga, gb]
    exact beq_iff_eq.mp (List.all_eq_true.mp (List.all_eq_true.mp h1 _ hp) _ hq)
  · intro c l e b hb
    obtain ⟨a, hp, ga⟩ := mem c l e
    rw [ga]
    exact beq_iff_eq.mp (List.all_eq_true.mp (List.all_eq_true.mp h2 _ hp) b hb)
  · intro x m e a ha
    obtain ⟨b, hq, gb⟩ := mem x m e
    rw [gb]
    exact beq_iff_eq.mp (List.all_eq_true.mp (List.all_eq_true.mp h3 _ hq) a ha)
theorem Dz {P : Params} : PySem.W.KeysLit P [] := trivial
theorem B7 {P : Params} {e : DictEntry} {r : List DictEntry} (h : ∃ x t, e.key = Value.str x t ∧ e.hash = PyData.keyHash P x) (k : PySem.W.KeysLit P r) : PySem.W.KeysLit P (e :: r) := ⟨h, k⟩
theorem EF : Ey [] [] := trivial
theorem D1 {k : Str} {i : Int} {r : List (Str × Int)} {e : DictEntry} {es : List DictEntry} (h1 : ∃ t, e.key = .str k t) (h2 : ∃ t, e.val = .int i t) (h : Ey r es) : Ey ((k, i) :: r) (e :: es) := ⟨h1, h2, h⟩
end L2
namespace L2
open PySem
end L2
namespace L2
open PySem PySem.Spec PyProof.Rows
end L2
namespace HL
open PySem (Str)
end HL
namespace L2
open PySem PySem.Spec PyProof.Rows
open HL (W SO Sh Sg OR DE DT DA DS Fn)
section
variable {X : Cx} {K : PySem.W.Frag} {γ : Str → Addr} {a b c e o f i : Expr} {es : List Expr} {da db dc de d1 d2 di : DE} {d : DA} {pos pos' apos cpos p1 p2 : Pos}
def xf (mg : Str → Option Value) : List (Str × Str) → List DictEntry → Prop
  | [], [] => True
  | (k, g) :: r, e :: es => (∃ t, e.key = .str k t) ∧ mg g = some e.val ∧ xf mg r es
  | _, _ => False
theorem D2 {mg : Str → Option Value} : xf mg [] [] := trivial
theorem Cb {mg : Str → Option Value} {k g : Str} {r : List (Str × Str)} {e : DictEntry} {es : List DictEntry} (h1 : ∃ t, e.key = .str k t) (h2 : mg g = some e.val) (h : xf mg r es) : xf mg ((k, g) :: r) (e :: es) := ⟨h1, h2, h⟩
structure Gv (K : PySem.W.Frag) (mg : Str → Option Value) (w : World) (x : Str) (tn : List (Str × Str)) : Prop where
  ex : ∃ D es n, mg x = some (.ref D) ∧ K.lookup D = some { cls := .type "dict", data := .dict es n } ∧ PySem.W.KeysLit w.params es.toList ∧ (D == sysModules) = false ∧ xf mg tn es.toList
def Eu (X : Cx) (γ : Str → Addr) (tn : List (Str × Str)) (tb : List (Str × Fn)) : Prop := ∀ k f, tb.lookup k = some f → ∃ g kk p n bd ps, tn.lookup k = some g ∧ f = HL.fnOf p n bd ∧ j2 X.prog X.w X.K X.mg X.base kk g ps (dY X.K γ p f) ∧ bx kk X.A
theorem Eu.nil : Eu X γ [] [] := fun k f e => by cases e
end
end L2
namespace HL
open PySem (Str)
end HL
namespace L2
open PySem PySem.Spec PyProof.Rows
open HL (W SO Sh Sg OR DE DT DA DS Fn)
section
variable {X : Cx} {K : PySem.W.Frag} {γ : Str → Addr} {a b c e o f i : Expr} {es : List Expr} {da db dc de d1 d2 di : DE} {d : DA} {pos pos' apos cpos p1 p2 : Pos} {name : Str} {T id : String}
end
end L2
namespace HL
open PySem (Str)
def rq (p : Nat) (all : List W) (is : List Nat) (b : DS) : Nat → List W → DS
  | _, [], s, h => .nx s h
  | k, x :: xs, s, h => match jR is (.ref h.length) s (h ++ [.tup [.int (k : Int), x]]) with
    | none => .er
    | some s1 => match b s1 (h ++ [.tup [.int (k : Int), x]]) with
      | .nx s2 h2 => if h2[p]? = some (.lst all) then rq p all is b (k + 1) xs s2 h2 else .er
      | .ct s2 h2 => if h2[p]? = some (.lst all) then rq p all is b (k + 1) xs s2 h2 else .er
      | .bk s2 h2 => .nx s2 h2
      | c => c
end HL
namespace L2
open PySem PySem.Spec PyProof.Rows
open HL (W SO Sh Sg OR DE DT DA DS Fn)
section
variable {X : Cx} {pins : List (Addr × Obj)} {σ : St} {H : Hp} {s : Shared} {h' : Heap}
theorem av.turnT {t' : Nat} {e it a : Addr} {o : HO} (I : av X pins σ H s) (fe : iN X pins H e) (fi : iN X pins H it) (k : ∀ b u, b ≠ e → b ≠ it → s.heap.get? b = some u → h'.get? b = some u) (hp : s.heap.objs.size ≤ a) (new : cv X.prog X.w (upd H a o) h' a o) :
    av X pins σ (upd H a o) { s with heap := h', toks := t' } := by
  have hn := I.hok.fresh hp
  obtain ⟨e0, e1, e2, e3, e4, e5⟩ := fe
  obtain ⟨i0, i1, i2, i3, i4, i5⟩ := fi
  have nc : ∀ {b : Addr}, b ∉ [e, it] → b ≠ e ∧ b ≠ it := fun {b} hb => ⟨fun z => hb (by simp [z]), fun z => hb (by simp [z])⟩
  have na : ∀ {b : Addr} {u : Obj}, s.heap.get? b = some u → b ≠ a := fun {b u} q z => absurd (Nat.lt_of_lt_of_le (Heap.lt_size q) (by rw [z]; exact hp)) (Nat.lt_irrefl _)
  have nb : ∀ {b : Addr} {u : HO}, H b = some u → b ≠ a := fun {b u} q z => by rw [z, hn] at q; cases q
  refine I.step (g' := s.gens) (d' := s.drawn) (ch := [e, it]) (fun b hb => ?_) (fun b u _ _ hc q _ => k b u (nc hc).1 (nc hc).2 q) (fun b u _ _ hc q _ => ⟨u.slots, k b u (nc hc).1 (nc hc).2 q⟩) (fun b u _ q n => by rw [aH (na q)]; exact n)
    (fun b u hc q => ⟨u, k b u (nc hc).1 (nc hc).2 q⟩) (fun b xs q => by rw [aH (nb q)]; exact q) (fun b u v q => by rw [aH (nb q)]; exact q) (fun b ps q => ⟨#[], by rw [aH (nb q), q]; simp⟩) (fun m hm => ?_) (fun b u q => ?_) I.bare
  · rcases List.mem_cons.mp hb with z | z
    · subst z; exact ⟨e3, e1, e4, e5⟩
    · have z := List.mem_singleton.mp z
      subst z; exact ⟨i3, i1, i4, i5⟩
  · obtain ⟨u, es, ep, ho, r⟩ := hm
    exact ⟨u, es, ep, k _ u (Ne.symm e1) (Ne.symm i1) ho, r⟩
  · by_cases z : b = a
    · subst z; rw [aX] at q; cases q; exact new
    · rw [aH z] at q
      have ne : ∀ {c : Addr} {v : HO}, H c = some v → c ≠ e ∧ c ≠ it := fun {c v} p => ⟨(fun z => by rw [z, e0] at p; cases p), (fun z => by rw [z, i0] at p; cases p)⟩
      refine (I.hok b u q).stay (fun c v hc p => ?_) (fun c p => by rw [aH (nb p)]; exact p) fun c xs p => by rw [aH (nb p)]; exact p
      rcases hc with hc | hc
      · rw [hc] at p ⊢; exact k b v (ne q).1 (ne q).2 p
      · exact k c v (ne hc).1 (ne hc).2 p
theorem av.turn2 {t' : Nat} {e it : Addr} (I : av X pins σ H s) (fe : iN X pins H e) (fi : iN X pins H it) (k : ∀ b u, b ≠ e → b ≠ it → s.heap.get? b = some u → h'.get? b = some u) : av X pins σ H { s with heap := h', toks := t' } := by
  obtain ⟨e0, e1, e2, e3, e4, e5⟩ := fe
  obtain ⟨i0, i1, i2, i3, i4, i5⟩ := fi
  have nc : ∀ {b : Addr}, b ∉ [e, it] → b ≠ e ∧ b ≠ it := fun {b} hb => ⟨fun z => hb (by simp [z]), fun z => hb (by simp [z])⟩
  refine I.step (g' := s.gens) (d' := s.drawn) (ch := [e, it]) (fun b hb => ?_) (fun b u _ _ hc q _ => k b u (nc hc).1 (nc hc).2 q) (fun b u _ _ hc q _ => ⟨u.slots, k b u (nc hc).1 (nc hc).2 q⟩) (fun b u _ q n => n)
    (fun b u hc q => ⟨u, k b u (nc hc).1 (nc hc).2 q⟩) (fun b xs q => q) (fun b u v q => q) (fun b ps q => ⟨#[], by rw [q]; simp⟩) (fun m hm => ?_) (fun b u q => ?_) I.bare
  · rcases List.mem_cons.mp hb with z | z
    · subst z; exact ⟨e3, e1, e4, e5⟩
    · have z := List.mem_singleton.mp z
      subst z; exact ⟨i3, i1, i4, i5⟩
  · obtain ⟨u, es, ep, ho, r⟩ := hm
    exact ⟨u, es, ep, k _ u (Ne.symm e1) (Ne.symm i1) ho, r⟩
  · have ne : ∀ {c : Addr} {v : HO}, H c = some v → c ≠ e ∧ c ≠ it := fun {c v} p => ⟨(fun z => by rw [z, e0] at p; cases p), (fun z => by rw [z, i0] at p; cases p)⟩
    refine (I.hok b u q).stay (fun c v hc p => ?_) (fun c p => p) fun c xs p => p
    rcases hc with hc | hc
    · rw [hc] at p ⊢; exact k b v (ne q).1 (ne q).2 p
    · exact k c v (ne hc).1 (ne hc).2 p
end
def FW (a : Addr) : It :=
  ⟨fun i H => ∃ xs x, H a = some (.lst xs) ∧ xs[i]? = some x, fun i H v H' => ∃ T x, v = .ref T ∧ H T = none ∧ H' = upd H T (.tup [.int (i : Int), x]) ∧ ∀ xs, H a = some (.lst xs) → xs[i]? = some x, fun i H => ∃ xs, H a = some (.lst xs) ∧ xs.length ≤ i⟩
theorem tP {P : Program} {w : World} {K : PySem.W.Frag} {elts : List Expr} {ctx : Nat} {tp : Pos} (a it e : Addr) (hei : e ≠ it) : yW P w K (.Tuple elts ctx tp) (FW a) [e, it] e (fun i h => (∃ old, IsEnum h e it i old) ∧ h.IsListIter it a i) where
  mem := by simp
  obj := fun i h st b hb => by
    obtain ⟨⟨old, he⟩, hi⟩ := st
    rcases List.mem_cons.mp hb with z | z
    · subst z
      exact ⟨_, he, fun v z => by have z' : Data.fields _ = Data.cell v := z; cases z'⟩
    · have z := List.mem_singleton.mp z
      subst z
      obtain ⟨o, q, c, d⟩ := hi
      exact ⟨o, q, fun v z => by rw [d] at z; cases z⟩
  keep := fun i h h' st k => ⟨⟨_, k e (by simp) _ st.1.choose_spec⟩, st.2.at fun o q => k it (by simp) o q⟩
  item := by
    intro X hP hw hK hc i pins s σ H E I hf st hg
    subst hP hw hK
    obtain ⟨⟨old, he⟩, hit⟩ := st
    obtain ⟨xs, x, hH, hx⟩ := hg
    obtain ⟨z, its, n, rv, hl, q⟩ := I.lstM hH
    obtain ⟨u, hu, ru⟩ := rv.get hx
    have fe := hf e (by simp)
    have fi := hf it (by simp)
    have isl : s.heap.IsList a its.toArray := ⟨_, q, rfl, n, rfl⟩
    refine wpAny_pyNext_enum_item he hit isl (x := u) (by simpa using hu) hei fun h' ho hit' hT hsz hk => ?_
    have hel : e < s.heap.objs.size := Heap.lt_size he
    refine ⟨_, rfl, wpAny_letOwnedTupleGo_enum ho fun h2 he2 hs2 => ?_⟩
    have hT2 : h2.get? s.heap.objs.size = some { cls := .type "tuple", data := .seq #[.int i s.toks, u] } := (hs2.2 _ (Nat.ne_of_gt hel)).trans hT
    have fr := I.hok.fresh (Nat.le_refl s.heap.objs.size)
    have I2 : av X pins σ (upd H s.heap.objs.size (.tup [.int (i : Int), x])) { s with heap := h2, toks := s.toks + 1 } := by
      refine I.turnT (t' := s.toks + 1) fe fi (fun b u hb hb2 z => ?_) (Nat.le_refl _) ?_
      · exact (hs2.2 b hb).trans (hk b u hb hb2 z)
      · exact ⟨by show 2 ≤ sizeLine; decide, [.int i s.toks, u], .cons ⟨_, rfl⟩ (.cons ru .nil), ⟨_, hT2, rfl, _, rfl⟩⟩
    refine ⟨.ref s.heap.objs.size, _, I2, rfl, ⟨_, x, rfl, fr, rfl, fun ys hy => ?_⟩, ⟨⟨_, he2⟩, hit'.at fun o z => (hs2.2 it hei.symm).trans z⟩, fun b hb => ?_⟩
    · rw [hH] at hy; cases hy; exact hx
    · have hb' : b ≠ s.heap.objs.size := by
        have : b < s.heap.objs.size := by
          rcases List.mem_cons.mp hb with z | z
          · rw [z]; exact hel
          · rw [List.mem_singleton.mp z]
            obtain ⟨o, q, _⟩ := hit
            exact Heap.lt_size q
        exact Nat.ne_of_lt this
      rw [aH hb']
      exact (hf b hb).1
  done := by
    intro X hP hw hK hc i pins s σ H E I hf st hg
    subst hP hw hK
    obtain ⟨⟨old, he⟩, hit⟩ := st
    obtain ⟨xs, hH, hx⟩ := hg
    obtain ⟨z, its, n, rv, hl, q⟩ := I.lstM hH
    have isl : s.heap.IsList a its.toArray := ⟨_, q, rfl, n, rfl⟩
    exact wpAny_pyNext_enum_end (I.ok.hd hc) he hit isl (by simp; omega) fun h' eb => ⟨rfl, I.turn2 (t' := s.toks) (hf e (by simp)) (hf it (by simp)) fun b u _ hb2 z => eb b u hb2 z⟩
  self := fun _ _ _ _ _ st h => wpAny_pyIter_enum st.1.choose_spec h
section
variable {X : Cx} {γ : Str → Addr} {a : Expr} {da : DE} {pos : Pos}
end
end L2
namespace L2
open PySem PySem.Spec PyProof.Rows PySem.W
structure Gs (K : PySem.W.Frag) (C : Addr) : Prop where
  eq : findIn K (.ref C) "__eq__" = some (some (.builtin "object.__eq__"))
  ob : subIn K (.ref C) (.type "object") = some true
section
variable {prog : Program} {w : World} {A : Around} {E : Value → Shared → Prop} {s : Shared} {K : PySem.W.Frag} {x y C : Addr} {ox oy : Obj} {odx ody : Option Obj}
end
section
open AutoSeq1 (wpAny_loadPart')
end
section
variable {X : Cx} {γ : Str → Addr} {a b c e o f i : Expr} {da db dc de d1 d2 di : HL.DE} {pos pos' apos cpos p1 p2 : Pos}
end
section
variable {X : Cx} {K : PySem.W.Frag} {γ : Str → Addr} {a b c e o f i : Expr} {da db dc de d1 d2 di : HL.DE} {pos pos' apos cpos p1 p2 : Pos}
end
end L2
namespace HL
end HL
namespace L2
open PySem PySem.Spec PyProof.Rows
open HL (W SO Sh Sg OR DE DT DA DS Fn)
section
variable {X : Cx} {K : PySem.W.Frag} {γ : Str → Addr} {a b e : Expr} {da db : DE} {pos p1 p2 pos2 : Pos}
theorem bP.ext {ρ : Nat → Addr} {h : Sh} {H H' : Hp} (S : bP K γ ρ h H) (E : oZ H H') : bP K γ ρ h H' where
  ob := fun i u e => (S.ob i u e).at fun z => E _ (by cases q : H (ρ i) with | none => exact absurd q z | some _ => rfl)
  inj := S.inj
  wf := S.wf
end
end L2
namespace L2
open PySem PySem.Spec PyProof.Rows
section
variable {X : Cx} {pins : List (Addr × Obj)} {σ : St} {H : Hp} {s : Shared} {h' : Heap} {a : Addr}
theorem av.slots {ch : List Addr} {t' : Nat} (I : av X pins σ H s)
    (hch : ∀ c ∈ ch, X.s₀.heap.get? c = none ∧ (∀ p ∈ X.pn ++ pins, p.1 ≠ c) ∧ c ≠ X.env.locals ∧ ∀ y d, X.env.cells.lookup y = some d → d ≠ c)
    (k : ∀ b o, s.heap.get? b = some o → b ∉ qd X.stack → b ∉ ch → h'.get? b = some o)
    (sl : ∀ b o, s.heap.get? b = some o → b ∈ qd X.stack → ∃ l, h'.get? b = some { o with slots := l })
    (th : ∀ c ∈ ch, (∃ o, s.heap.get? c = some o) → ∃ o', h'.get? c = some o')
    (ok : i7 X.prog X.w H h') : av X pins σ H { s with heap := h', toks := t' } := by
  have any : ∀ b o, s.heap.get? b = some o → b ∉ ch → ∃ l, h'.get? b = some { o with slots := l } := fun b o e n => by
    by_cases z : b ∈ qd X.stack
    · exact sl b o e z
    · exact ⟨o.slots, k b o e z n⟩
  have cel : ∀ c v, c ∉ ch → s.heap.IsCell c v → h'.IsCell c v := fun c v n ⟨o, e, d⟩ => by
    obtain ⟨l, e'⟩ := any c o e n
    exact ⟨_, e', d⟩
  have nch : X.env.locals ∉ ch := fun z => (hch _ z).2.2.1 rfl
  have nce : ∀ y d, X.env.cells.lookup y = some d → d ∉ ch := fun y d e z => (hch d z).2.2.2 y d e rfl
  have old : ∀ b o, X.s₀.heap.get? b = some o → b ∉ ch := fun b o e z => by have := (hch b z).1; rw [e] at this; cases this
  refine ⟨I.ok, I.os, I.bare, ⟨?_, ?_, I.base.free, ?_, I.base.tups, I.base.frzs, I.base.tbls⟩, ?_, ?_, I.free, I.freeC, ?_, ok, I.len⟩
  · intro b o e n hf hx
    refine k b o (I.base.keep b o e n hf hx) (fun z => ?_) (old b o e)
    rcases List.mem_cons.mp (I.stkSub b z) with q | q
    · exact Nat.lt_irrefl _ (Nat.lt_of_lt_of_le (q ▸ Heap.lt_size e) I.ok.above)
    · exact hf q
  · intro b o e n hf hx
    obtain ⟨l, e1⟩ := I.base.slot b o e n hf hx
    obtain ⟨l2, e2⟩ := any b _ e1 (old b o e)
    exact ⟨l2, e2⟩
  · intro b o e hx
    obtain ⟨o1, e1⟩ := I.base.there b o e hx
    obtain ⟨l2, e2⟩ := any b o1 e1 (old b o e)
    exact ⟨_, e2⟩
  · obtain ⟨m, ⟨o, es, ep, e, hd, hk, hn⟩, hl⟩ := I.loc
    obtain ⟨l, e'⟩ := any _ o e nch
    refine ⟨m, ⟨_, es, ep, e', hd, hk, hn⟩, fun i x v e1 e2 vis => ?_⟩
    obtain ⟨u, r, lk⟩ := hl i x v e1 e2 vis
    refine ⟨u, r, ?_⟩
    rcases lk with ⟨q1, q2⟩ | ⟨q1, c, q2, q3⟩
    · exact .inl ⟨q1, q2⟩
    · exact .inr ⟨q1, c, q2, cel c _ (nce x c q2) q3⟩
  · intro x c e
    obtain ⟨v, q⟩ := I.cell x c e
    exact ⟨v, cel c v (nce x c e) q⟩
  · intro p hp
    obtain ⟨e, n, n1, n2, n3⟩ := I.pin p hp
    refine ⟨k _ _ e (fun z => ?_) (fun z => (hch _ z).2.1 p hp rfl), n, n1, n2, n3⟩
    rcases List.mem_cons.mp (I.stkSub _ z) with q | q
    · exact n1 q
    · exact n2 q
theorem i7.excChg {P : Program} {w : World} {h : Heap} {C : Addr} {dx : Option Addr} {fs : List (Str × V)} {o : Obj} {vs' : Array Value} (x : i7 P w H h) (e : H a = some (.exc C dx fs)) (k : ∀ b u, b ≠ a → H b ≠ none → h.get? b = some u → h'.get? b = some u)
    (ho : h.get? a = some o) (ha : h'.get? a = some { o with data := .fields vs' }) : i7 P w H h' := fun b u q => by
  by_cases hb : b = a
  · subst hb
    rw [e] at q
    cases q
    obtain ⟨o1, vs, e1, c1, d1, f1, l1, w1, mA, n1, r1, i1⟩ := x b _ e
    rw [ho] at e1
    cases e1
    refine ⟨_, vs', ha, c1, d1, rfl, l1, w1, mA, ?_, r1, i1⟩
    cases dx with
    | none => exact n1
    | some d =>
      obtain ⟨od, es, ep, q1, q2⟩ := n1
      obtain ⟨hd, hne⟩ := w1 d rfl
      exact ⟨od, es, ep, k d od hne (by rw [hd]; exact fun z => by cases z) q1, q2⟩
  · refine (x b u q).stay (fun c v z q1 => ?_) (fun _ z => z) fun _ _ z => z
    rcases z with z | z
    · subst z
      exact k c v hb (by rw [q]; exact fun z => by cases z) q1
    · by_cases hc : c = a
      · subst hc; rw [e] at z; cases z
      · exact k c v hc (by rw [z]; exact fun z => by cases z) q1
def xm (X : Cx) (pins : List (Addr × Obj)) (H : Hp) (h : Heap) (a : Addr) : Prop := X.s₀.heap.get? a = none ∧ ∃ o vs, h.get? a = some o ∧ o.data = .fields vs ∧ 1 < vs.size ∧
  (vs[1]? = some .none ∨ ∃ T oT ts, vs[1]? = some (.ref T) ∧ X.s₀.heap.get? T = none ∧ T ≠ a ∧ (∀ p ∈ X.pn ++ pins, p.1 ≠ T) ∧ H T = none ∧ h.get? T = some oT ∧ oT.data = .fields ts ∧ 3 < ts.size)
theorem av.notFld (I : av X pins σ H s) {T : Addr} {oT : Obj} {ts : Array Value} (e : s.heap.get? T = some oT) (d : oT.data = .fields ts) : T ≠ X.env.locals ∧ (∀ y c, X.env.cells.lookup y = some c → c ≠ T) ∧ T ∉ qd X.stack := by
  refine ⟨fun z => ?_, fun y c q z => ?_, fun z => ?_⟩
  · obtain ⟨m, ⟨o, es, ep, e2, hd, _⟩, _⟩ := I.loc
    rw [← z, e] at e2; cases e2
    rw [d] at hd; cases hd
  · obtain ⟨v, o, e2, hd⟩ := I.cell y c q
    rw [z, e] at e2; cases e2
    rw [d] at hd; cases hd
  · obtain ⟨_, o, e2, hd⟩ := I.stack.mem z
    rw [e] at e2; cases e2
    exact hd _ d
theorem iA {M : Model} {A : Around} {E : Value → Shared → Prop} {s : Shared} {a : Addr} {o : Obj} {vs : Array Value} {i : Nat} {x : Value} {Q : Unit → Shared → Prop} (e : s.heap.get? a = some o) (d : o.data = .fields vs) (hi : i < vs.size)
    (h : ∀ h', (∀ b, b ≠ a → h'.get? b = s.heap.get? b) → h'.get? a = some { o with data := .fields (vs.setIfInBounds i x) } → Q () { s with heap := h' }) : wpAny M A (setField (.ref a) i x) Q E s := by
  unfold setField updateField
  refine wpAny_bind (wpAny_load e ?_)
  rw [d]
  show wpAny M A (if i < vs.size then _ else _) _ _ _
  rw [if_pos hi]
  refine wpAny_update e (h _ (fun b hb => Heap.get?_update_other _ _ (Ne.symm hb)) ?_)
  have e2 : Obj.mapFields (fun x_1 => x_1.setIfInBounds i x) o = { o with data := .fields (vs.setIfInBounds i x) } := by
    obtain ⟨c, dd, da, sl⟩ := o
    cases d
    rfl
  rw [Heap.get?_update_self _ e (by rw [e2]; rfl), e2]
theorem iB {M : Model} {A : Around} {E : Value → Shared → Prop} {s : Shared} {a : Addr} {o : Obj} {vs : Array Value} {i : Nat} {x : Value} {Q : Value → Shared → Prop} (e : s.heap.get? a = some o) (d : o.data = .fields vs) (hx : vs[i]? = some x) (h : Q x s) : wpAny M A (field (.ref a) i) Q E s := by
  unfold field
  refine wpAny_bind (wpAny_fieldsOf e d ?_)
  rw [hx]
  exact wpAny_pure h
theorem av.entry {A : Around} {E : Value → Shared → Prop} {Q : Unit → Shared → Prop} {M : Model} {C : Addr} {dx : Option Addr} {fs : List (Str × V)} {o : Obj} {vs : Array Value} {head : Value} {hn : Bool} (I : av X pins σ H s) (hA : A.frames = some X.stack) (hst : X.stack = X.env :: X.outer ∧ X.env.frame = some X.env.locals)
    (e : H a = some (.exc C dx fs)) (ha : X.s₀.heap.get? a = none) (eo : s.heap.get? a = some o) (d : o.data = .fields vs) (hs : 1 < vs.size)
    (h : ∀ s', av X pins σ H s' → xm X pins H s'.heap a → Q () s') :
    wpAny M A (do
      let fr ← frameOf X.env
      let pl ← entryPlaceOf X.env.locals hn
      let x ← EntryCells.newEntry head fr .none (rawInt X.env.locals) .none pl
      setField (.ref a) 1 x) Q E s := by
  have hf : s.heap.FunFrames X.base (X.env :: X.outer) := hst.1 ▸ I.stack
  have na := I.notFld eo d
  refine wpAny_bind (wpAny_frameOf_fun (hst.1 ▸ hA) hf hst.2 fun h1 so => ?_)
  refine wpAny_bind (wpAny_entryPlaceOf fun pl hp => ?_)
  unfold EntryCells.newEntry newFields
  generalize hl : ([head, .ref X.env.locals, .none, rawInt X.env.locals, .none] ++ if pl.isEmpty = true then List.replicate 6 Value.none else pl) = l
  have ln : l.length = 11 := by
    rw [← hl]
    rcases hp with rfl | ⟨_, _, _, _, _, _, _, rfl⟩ <;> rfl
  have es : h1.get? a = some o := by rw [so.2.1 a (by rw [hst.1] at na; exact na.2.2), eo]
  refine wpAny_bind (wpAny_newObj_type ?_ (by show l.toArray.size ≤ sizeLine + 2; rw [List.size_toArray, ln, sizeLine_eq]; decide))
  refine iA (o := o) (vs := vs) (Heap.get?_push_of_some _ es) d hs fun h3 k3 e3 => ?_
  have kk : ∀ b u, s.heap.get? b = some u → b ∉ qd X.stack → b ≠ a → h3.get? b = some u := fun b u q n1 n2 => by
    rw [k3 b n2]
    exact Heap.get?_push_of_some _ (by rw [so.2.1 b (by rw [hst.1] at n1; exact n1), q])
  have lt : ∀ b u, s.heap.get? b = some u → b ≠ h1.objs.size := fun b u q z => by
    have := Heap.lt_size q
    rw [← so.1, ← z] at this
    exact Nat.lt_irrefl _ this
  refine h { s with heap := h3 } (I.slots (t' := s.toks) (ch := [a]) ?_ (fun b u q n1 n2 => kk b u q n1 fun z => n2 (List.mem_singleton.mpr z)) ?_ ?_ ?_) ⟨ha, _, _, e3, rfl, by rw [Array.size_setIfInBounds]; exact hs, .inr ⟨h1.objs.size, { cls := .type "traceback", data := .fields l.toArray }, l.toArray, ?_, ?_, ?_, ?_, ?_, ?_, rfl, ?_⟩⟩
  · intro c hc
    rw [List.mem_singleton.mp hc]
    refine ⟨ha, ?_, na.1, na.2.1⟩
    intro p hp z
    have := (I.pin p hp).2.1
    rw [z, e] at this; cases this
  · intro b u q z
    obtain ⟨sl, q2⟩ := so.2.2 b u q
    refine ⟨sl, ?_⟩
    rw [k3 b (fun y => na.2.2 (y ▸ z))]
    exact Heap.get?_push_of_some _ q2
  · intro c hc _
    rw [List.mem_singleton.mp hc]
    exact ⟨_, e3⟩
  · exact I.hok.excChg e (fun b u n1 n2 q => kk b u q (fun z => n2 (I.stkFree b z)) n1) eo e3
  · rw [Array.getElem?_setIfInBounds]; simp [hs]
  · exact Heap.get?_none_of_le (by rw [so.1]; exact I.sz)
  · exact fun z => lt a o eo z.symm
  · exact fun p hp z => lt _ _ (I.pin p hp).1 z
  · exact I.hok.fresh (Nat.le_of_eq so.1.symm)
  · rw [k3 _ (fun z => lt a o eo z.symm)]
    exact Heap.get?_push_size _ rfl
  · rw [List.size_toArray, ln]; decide
theorem av.record {T : Addr} {oT : Obj} {ts : Array Value} {x : Value} (I : av X pins σ H s) (hT : X.s₀.heap.get? T = none) (hp : ∀ p ∈ X.pn ++ pins, p.1 ≠ T) (hn : H T = none) (eT : s.heap.get? T = some oT) (dT : oT.data = .fields ts)
    (k : ∀ b, b ≠ T → h'.get? b = s.heap.get? b) (e' : h'.get? T = some { oT with data := .fields (ts.setIfInBounds 3 x) }) : av X pins σ H { s with heap := h' } := by
  have nT := I.notFld eT dT
  refine I.slots (t' := s.toks) (ch := [T]) ?_ (fun b u q n1 n2 => by rw [k b fun z => n2 (List.mem_singleton.mpr z)]; exact q) (fun b u q z => ⟨u.slots, by rw [k b fun y => nT.2.2 (y ▸ z)]; exact q⟩) (fun c hc _ => by rw [List.mem_singleton.mp hc]; exact ⟨_, e'⟩) ?_
  · intro c hc
    rw [List.mem_singleton.mp hc]
    exact ⟨hT, hp, nT.1, nT.2.1⟩
  · intro b u q
    refine (I.hok b u q).stay (fun c v z q1 => ?_) (fun _ z => z) fun _ _ z => z
    have : c ≠ T := by
      rintro rfl
      rcases z with z | z
      · subst z; rw [hn] at q; cases q
      · rw [hn] at z; cases z
    rw [k c this]; exact q1
theorem xm.record {T : Addr} {oT : Obj} {ts : Array Value} {x : Value} {h : Heap} (t : xm X pins H h a) (hTa : T ≠ a) (eT : h.get? T = some oT) (dT : oT.data = .fields ts)
    (k : ∀ b, b ≠ T → h'.get? b = h.get? b) (e' : h'.get? T = some { oT with data := .fields (ts.setIfInBounds 3 x) }) : xm X pins H h' a := by
  obtain ⟨ha, o, vs, eo, d, hs, z⟩ := t
  refine ⟨ha, o, vs, by rw [k a fun y => hTa y.symm]; exact eo, d, hs, ?_⟩
  rcases z with z | ⟨T', oT', ts', z1, z2, z3, z4, z5, z6, z7, z8⟩
  · exact .inl z
  · by_cases y : T' = T
    · subst y
      exact .inr ⟨T', _, _, z1, z2, z3, z4, z5, e', rfl, by rw [eT] at z6; cases z6; rw [dT] at z7; cases z7; rw [Array.size_setIfInBounds]; exact z8⟩
    · exact .inr ⟨T', oT', ts', z1, z2, z3, z4, z5, by rw [k T' y]; exact z6, z7, z8⟩
theorem av.flight {A : Around} {E : Value → Shared → Prop} {Q : Unit → Shared → Prop} {M : Model} {fr : Option Addr} (I : av X pins σ H s) (t : xm X pins H s.heap a) (h : ∀ s', av X pins σ H s' → xm X pins H s'.heap a → Q () s') : wpAny M A (setFlight (.ref a) fr) Q E s := by
  obtain ⟨ha, o, vs, eo, d, hs, z⟩ := id t
  unfold setFlight
  rcases z with z | ⟨T, oT, ts, z1, z2, z3, z4, z5, z6, z7, z8⟩
  · refine wpAny_bind (iB eo d z ?_)
    exact wpAny_pure (h s I t)
  · refine wpAny_bind (iB eo d z1 ?_)
    refine iA z6 z7 z8 fun h3 k3 e3 => h _ (I.record z2 z4 z5 z6 z7 k3 e3) (t.record z3 z6 z7 k3 e3)
theorem av.noted {A : Around} {E : Value → Shared → Prop} {Q : Unit → Shared → Prop} {M : Model} {C : Addr} {dx : Option Addr} {fs : List (Str × V)} (I : av X pins σ H s) (hA : A.frames = some X.stack) (hst : X.stack = X.env :: X.outer ∧ X.env.frame = some X.env.locals) (e : H a = some (.exc C dx fs)) (t : xm X pins H s.heap a)
    (h : ∀ s', av X pins σ H s' → xm X pins H s'.heap a → Q () s') : wpAny M A (noteFrame (.ref a) X.env) Q E s := by
  obtain ⟨ha, o, vs, eo, d, hs, z⟩ := id t
  unfold noteFrame
  rw [hst.2]
  simp only
  rcases z with z | ⟨T, oT, ts, z1, z2, z3, z4, z5, z6, z7, z8⟩
  · refine wpAny_bind (iB eo d z ?_)
    exact I.entry hA hst e ha eo d hs h
  · refine wpAny_bind (iB eo d z1 ?_)
    obtain ⟨x3, q3⟩ : ∃ x3, ts[3]? = some x3 := ⟨_, Array.getElem?_eq_getElem z8⟩
    show wpAny M A (do let f3 ← field (.ref T) 3; if (f3 == rawInt ↑X.env.locals) = true then pure () else _) Q E s
    refine wpAny_bind (iB z6 z7 q3 ?_)
    split
    · exact wpAny_pure (h s I t)
    · refine wpAny_bind (iA z6 z7 z8 fun h3 k3 e3 => ?_)
      exact (I.record z2 z4 z5 z6 z7 k3 e3).entry hA hst e ha (by show h3.get? a = _; rw [k3 a fun y => z3 y.symm]; exact eo) d hs h
end
end L2
namespace L2
open PySem PySem.Spec PySem.W PyProof.Rows
section
variable {X : Cx} {pins : List (Addr × Obj)} {σ : St} {H : Hp} {s : Shared} {h' : Heap} {a : Addr}
theorem av.gone (I : av X pins σ H s) (hx : X.ex = []) {b : Addr} (n : s.heap.get? b = none) : X.s₀.heap.get? b = none := by
  cases e : X.s₀.heap.get? b with
  | none => rfl
  | some o =>
    obtain ⟨o', q⟩ := I.base.there b o e (by rw [hx]; exact List.not_mem_nil)
    rw [n] at q; cases q
def xn (X : Cx) (Ψ : V → Hp → Prop) : Prop := ∀ (pins : List (Addr × Obj)) (σ : St) (H : Hp) (s : Shared) (a C : Addr) (dx : Option Addr) (fs : List (Str × V)), av X pins σ H s → H a = some (.exc C dx fs) → xm X pins H s.heap a → Ψ (.ref a) H → X.xe (.ref a) s
def Cf (P : Program) (w : World) : tK := fun outer H s E e s' => ∃ (a C : Addr) (dx : Option Addr) (fs : List (Str × V)) (H' : Hp), e = .ref a ∧ s'.os = s.os ∧ AllBare s'.gens ∧ Un (qd outer) [] H H' s.heap s'.heap ∧ i7 P w H' s'.heap ∧ H' a = some (.exc C dx fs) ∧
  (s.heap.get? a = none ∧ ∃ o vs, s'.heap.get? a = some o ∧ o.data = .fields vs ∧ 1 < vs.size ∧ (vs[1]? = some .none ∨ ∃ T oT ts, vs[1]? = some (.ref T) ∧ s.heap.get? T = none ∧ T ≠ a ∧ H' T = none ∧ s'.heap.get? T = some oT ∧ oT.data = .fields ts ∧ 3 < ts.size)) ∧ E (.ref a) none H'
def Ef (Ψ : V → Hp → Prop) : XK := fun e _ H' => ∃ a, e = .ref a ∧ Ψ (.ref a) H'
theorem xn.passes {Ψ : V → Hp → Prop} (T : xn X Ψ) (hx : X.ex = []) : jw (Cf X.prog X.w) X (Ef Ψ) := by
  rintro pins σ H s e s' I ⟨a, C, dx, fs, H', rfl, os, ba, un, ok, ea, ⟨ha, o, vs, eo, d, hs, z⟩, a', e', hΨ⟩
  cases e'
  obtain ⟨v, H'', I', _, rfl⟩ := I.after (Q := fun _ H'' => H'' = H') (u := .none) (s' := s') ⟨.non, H', os, ba, un, ok, rfl, rfl⟩
  have up : ∀ b, s.heap.get? b = none → X.s₀.heap.get? b = none := fun b n => I.gone hx n
  refine T pins σ _ s' a C dx fs I' ea ⟨up a ha, o, vs, eo, d, hs, ?_⟩ hΨ
  rcases z with z | ⟨T, oT, ts, z1, z2, z3, z4, z5, z6, z7⟩
  · exact .inl z
  · refine .inr ⟨T, oT, ts, z1, up T z2, z3, fun p hp q => ?_, z4, z5, z6, z7⟩
    have := (I.pin p hp).1
    rw [q, z2] at this; cases this
theorem uT {h : Heap} {bmB l : List Value} {v : Value} (T : OwnTail h bmB l) (hv : bmB.contains v = true) : l.contains v = true := by
  induction T with
  | base => exact hv
  | own _ _ _ _ ih => rw [List.contains_cons, ih]; simp
def xD (C : Addr) (Ψ : V → Hp → Prop) (t : TA) : TS := fun _ σ H => t σ H fun vs H1 => vs.length ≤ sizeLine ∧ ∀ e, H1 e = none → Ψ (.ref e) (upd H1 e (.exc C none []))
theorem ud {Ψ : V → Hp → Prop} {C : Addr} {x : Str} {p cpos pos : Pos} {e : Expr} {es : List Expr} {t : TA} (O : y0 X.K X.mg x C) (hg : Gl X x) (hc : X.calm = true) (hx : X.ex = []) (T : xn X Ψ) (ha : PA X (e :: es) t) (hdb : (x == ("__debug__" : Str)) = false := by decide)
    (he : starEach (e :: es) X.env = (false, eval e X.env) :: starEach es X.env := by rfl) (hpl : (backTo cpos (starEach es X.env)).any (·.1) = false := by rfl) : PS X (.Raise (some (.Call (.Name x p) (e :: es) [] cpos)) none pos) (xD C Ψ t) := by
  intro pins s σ H D I h
  rw [arm_exec_Raise]
  obtain ⟨bm, N, nm, qn, bs, hdct, sn, sub, ab, col, dd, k0, k1, k2, k3, k5, mN, hC, hN, hni, Tl⟩ := qj I.ok.mod.kin O.ex
  refine wpAny_bind (wpAny_standAt ?_)
  refine wpAny_raiseStmt_made_sub (C := C) (nm := nm) (q := qn) (N := N) (bs := bs) (bm := bm) (hdct := hdct) (sn := sn) (sub := sub) (ab := ab) (col := col) (dd := dd) (k0 := k0) (k1 := k1) (k2 := k2) (k3 := k3) (k5 := k5) (newId := "ValueError.__new__") (uT Tl (by decide)) (I.ok.hd hc) ?_
  show wpAny _ _ (do let v ← eval (.Call (.Name x p) (e :: es) [] cpos) X.env; standAt pos; pure v) _ _ _
  refine wpAny_bind ?_
  refine wpAny_Call_Name_kw (jQ I hg O.at_ ?_ hdb)
  refine PySem.W.callWith_K (h₀ := X.base) I.ok.mod.kin O.kp (cE (ha cpos pins s σ H _ I h) fun us s1 ⟨vs, H1, I1, r, hl, q⟩ => ⟨I1.kIn, ?_⟩) he hpl
  obtain ⟨bm', N', nm', qn', bs', hdct', sn', sub', ab', col', dd', k0', k1', k2', k3', k5', mN', hC', hN', hni', T'⟩ := qj I1.kIn O.ex
  have I1' := I1
  obtain ⟨hp, g, d, tk, os⟩ := s1
  refine wpAny_call_exc_subT PySem.F.excBase_ValueError T' hC' hN' hni' (fun h' ea m => ?_) (by show us.length ≤ sizeLine; rw [← r.length]; exact hl)
  obtain ⟨hn, I2⟩ := I1'.excMade m
  obtain ⟨tt, e1, e2, e3⟩ := m.there
  refine wpAny_bind (wpAny_standAt (wpAny_pure ⟨ea, tt, rfl, ?_, e1, ?_⟩))
  · exact I2.bk _ _ hC
  · exact T pins σ _ _ ea C none [] I2 aX ⟨I1'.gone hx m.new, _, _, e1, rfl, Nat.le_of_ble_eq_true rfl, .inl rfl⟩ (q ea hn)
end
end L2
namespace L2
open PySem PySem.Spec PySem.W PyProof.Rows
section
variable {X : Cx} {pins : List (Addr × Obj)} {σ : St} {H : Hp} {s : Shared} {h' : Heap} {a : Addr}
abbrev Cx.pinned (X : Cx) (E : Value → Shared → Prop) (pn : List (Addr × Obj)) : Cx := { X with xe := E, pn := pn }
abbrev Cx.marked (X : Cx) (v : Value) : Cx := { X with A := X.A.mark (some v), calm := false, xe := fun _ _ => False }
theorem av.pin2 {E : Value → Shared → Prop} (I : av X pins σ H s) : av (X.pinned E (X.pn ++ pins)) [] σ H s :=
  ⟨⟨I.ok.mod, I.ok.kind, I.ok.glob, I.ok.blt, I.ok.above, I.ok.inj, I.ok.has, I.ok.cab, I.ok.hd, I.ok.frames, I.ok.stk, I.ok.exf, I.ok.bs, I.ok.bsz, I.ok.noex, I.ok.exfs, I.ok.funs, I.ok.frf⟩, I.os, I.bare, I.base, I.loc, I.cell, I.free, I.freeC, fun p hp => I.pin p (by rw [List.append_nil] at hp; exact hp), I.hok, I.len⟩
theorem av.unpin {E : Value → Shared → Prop} {ps : List (Addr × Obj)} (I : av (X.pinned E (X.pn ++ pins)) ps σ H s) : av X pins σ H s :=
  ⟨⟨I.ok.mod, I.ok.kind, I.ok.glob, I.ok.blt, I.ok.above, I.ok.inj, I.ok.has, I.ok.cab, I.ok.hd, I.ok.frames, I.ok.stk, I.ok.exf, I.ok.bs, I.ok.bsz, I.ok.noex, I.ok.exfs, I.ok.funs, I.ok.frf⟩, I.os, I.bare, I.base, I.loc, I.cell, I.free, I.freeC, fun p hp => I.pin p (List.mem_append_left _ hp), I.hok, I.len⟩
theorem SP.unpin {E : Value → Shared → Prop} {D : kZ} {f : Flow} {s' : Shared} (h : SP (X.pinned E (X.pn ++ pins)) [] D f s') : SP X pins D f s' := by
  cases f with
  | next => obtain ⟨σ', H', I, q⟩ := h; exact ⟨σ', H', I.unpin, q⟩
  | brk => obtain ⟨σ', H', I, q⟩ := h; exact ⟨σ', H', I.unpin, q⟩
  | cont => obtain ⟨σ', H', I, q⟩ := h; exact ⟨σ', H', I.unpin, q⟩
  | ret u => obtain ⟨v, σ', H', I, r, q⟩ := h; exact ⟨v, σ', H', I.unpin, r, q⟩
theorem av.forget (I : av X pins σ H s) : av X pins (List.replicate X.N.length none) H s := by
  refine ⟨I.ok, I.os, I.bare, I.base, ?_, I.cell, I.free, I.freeC, I.pin, I.hok, List.length_replicate⟩
  obtain ⟨m, hn, _⟩ := I.loc
  refine ⟨m, hn, fun i x v _ e => ?_⟩
  rw [List.getElem?_replicate] at e
  split at e <;> cases e
theorem av.mark {v : Value} (I : av X pins σ H s) : av (X.marked v) pins σ H s :=
  ⟨⟨I.ok.mod, I.ok.kind, I.ok.glob, I.ok.blt, I.ok.above, I.ok.inj, I.ok.has, I.ok.cab, (fun z => by cases z), I.ok.frames, I.ok.stk, I.ok.exf, I.ok.bs, I.ok.bsz, I.ok.noex, I.ok.exfs, I.ok.funs, I.ok.frf⟩, I.os, I.bare, I.base, I.loc, I.cell, I.free, I.freeC, I.pin, I.hok, I.len⟩
theorem av.unmark {v : Value} (ok : X.Ok) (I : av (X.marked v) pins σ H s) : av X pins σ H s := ⟨ok, I.os, I.bare, I.base, I.loc, I.cell, I.free, I.freeC, I.pin, I.hok, I.len⟩
theorem av.nameGoes {M : Model} {A : Around} {E : Value → Shared → Prop} {n : Str} {pos : Pos} {Q : Unit → Shared → Prop} (I : av X pins σ H s) (hk : X.env.kindOf n = some .local) (h : ∀ s', av X pins (List.replicate X.N.length none) H s' → Q () s') : wpAny M A (do bindName X.env n .none; unbindBehindTheSuite X.env n pos) Q E s := by
  obtain ⟨m, hn, _⟩ := id I.loc
  obtain ⟨ol, es, ep, el, hd, _⟩ := id hn
  have nc : ∀ c v, s.heap.IsCell c v → c ≠ X.env.locals := fun c v ⟨o, e, d⟩ z => by
    rw [z, el] at e; cases e
    rw [hd] at d; cases d
  refine wpAny_nameGoes_keeps hk hn (by rw [I.ok.kind]; rfl) fun h2 v n2 sb => h _ ?_
  have k : ∀ b o, b ≠ X.env.locals → s.heap.get? b = some o → h2.get? b = some o := fun b o z e => by rw [sb.2 b z]; exact e
  refine ⟨I.ok, I.os, I.bare, ⟨fun b o e n f x => ?_, fun b o e n f x => ?_, I.base.free, fun b o e x => ?_, I.base.tups, I.base.frzs, I.base.tbls⟩, ⟨_, n2, fun i x v _ e => ?_⟩, fun x c e => ?_, I.free, I.freeC, fun p hp => ?_, ?_, List.length_replicate⟩
  · exact k b o (fun z => Nat.lt_irrefl _ (Nat.lt_of_lt_of_le (z ▸ Heap.lt_size e) I.ok.above)) (I.base.keep b o e n f x)
  · obtain ⟨sl, q⟩ := I.base.slot b o e n f x
    exact ⟨sl, k b _ (fun z => Nat.lt_irrefl _ (Nat.lt_of_lt_of_le (z ▸ Heap.lt_size e) I.ok.above)) q⟩
  · obtain ⟨o', q⟩ := I.base.there b o e x
    exact ⟨o', k b _ (fun z => Nat.lt_irrefl _ (Nat.lt_of_lt_of_le (z ▸ Heap.lt_size e) I.ok.above)) q⟩
  · rw [List.getElem?_replicate] at e
    split at e <;> cases e
  · obtain ⟨v, q⟩ := I.cell x c e
    obtain ⟨o, e1, d1⟩ := id q
    exact ⟨v, o, k c o (nc c v q) e1, d1⟩
  · obtain ⟨e, n, n1, n2, n3⟩ := I.pin p hp
    exact ⟨k _ _ n1 e, n, n1, n2, n3⟩
  · intro b u q
    refine (I.hok b u q).stay (fun c v z q1 => k c v ?_ q1) (fun _ z => z) fun _ _ z => z
    rintro rfl
    have fr := I.free
    rcases z with z | z
    · rw [z, q] at fr; cases fr
    · rw [z] at fr; cases fr
def hΨ (X : Cx) (B : Addr) (i : Nat) (th : TS) (D : kZ) : V → Hp → Prop := fun v H' => ∃ a C dx fs, v = .ref a ∧ H' a = some (.exc C dx fs) ∧ exmOne X.K (.ref C) (.ref B) = some true ∧ th { nx := fun _ _ => False, rt := D.rt } ((List.replicate X.N.length none).set i (some v)) H'
theorem AD {body suite : List Stmt} {b0 : Stmt} {cx n : Str} {np hpos pos : Pos} {i : Nat} {B : Addr} {tb : (V → Hp → Prop) → TS} {th : TS} (hst : X.stack = X.env :: X.outer ∧ X.env.frame = some X.env.locals) (hg : Gl X cx) (hB : X.mg cx = some (.ref B)) (hN : X.N.Nodup) (hi : X.N[i]? = some n)
    (hk : X.env.kindOf n = some .local) (hl : xa X.env.scope n) (hf : X.fn n = true ∨ X.env.scope.names.lookup n = some .local)
    (hb : ∀ E' pn' Ψ, xn (X.pinned E' pn') Ψ → m9 (X.pinned E' pn') body (tb Ψ)) (hh : ∀ a : Addr, m9 (X.marked (.ref a)) (b0 :: suite) th) (hdb : (cx == ("__debug__" : Str)) = false := by decide) :
    PS X (.Try body [.ExceptHandler (some (.Name cx np)) (some n) (b0 :: suite) hpos] [] [] pos) (fun D σ H => tb (hΨ X B i th D) D σ H) := by
  intro pins s σ H D I h
  refine wpAny_Try_except ?_
  let E' : Value → Shared → Prop := fun e s₁ => wpAny (model X.prog X.w) X.A (noteFrame e X.env) (fun _ s₂ => wpAny (model X.prog X.w) X.A (setFlight e none) (fun _ s₃ => wpAny (model X.prog X.w) X.A (handleBy e X.env [.ExceptHandler (some (.Name cx np)) (some n) (b0 :: suite) hpos]) (SP X pins D) X.xe s₃) X.xe s₂) X.xe s₁
  have thr : xn (X.pinned E' (X.pn ++ pins)) (hΨ X B i th D) := by
    rintro ps σ1 H1 s1 a C dx fs I1 e1 t1 ⟨a', C', dx', fs', ea, e1', hm, hth⟩
    cases ea
    rw [e1] at e1'; cases e1'
    refine I1.noted I1.ok.frames hst e1 t1 fun s2 I2 t2 => I2.flight t2 fun s3 I3 t3 => ?_
    have J : av X pins (List.replicate X.N.length none) H1 s3 := I3.unpin.forget
    refine wpAny_handleBy_cons ?_ (by intro z; cases z)
    have J' : av (X.marked (.ref a)) pins (List.replicate X.N.length none) H1 s3 := J.mark
    refine codeAny_handlers_test (jQ J' hg hB ?_ hdb)
    obtain ⟨ox, od, Ja, _⟩ := qh J' e1
    refine exm_one J'.kIn Ja.type hm _ _ _ s3 (fun b o q => q) ?_
    show codeAny _ _ _ _ s3
    have t3' : xm (X.marked (.ref a)) pins H1 s3.heap a := by
      obtain ⟨ha, o, vs, eo, d, hs, z⟩ := t3
      refine ⟨ha, o, vs, eo, d, hs, ?_⟩
      rcases z with z | ⟨T, oT, ts, z1, z2, z3, zp, z4, z5, z6, z7⟩
      · exact .inl z
      · exact .inr ⟨T, oT, ts, z1, z2, z3, fun p hp => zp p (List.mem_append_left _ hp), z4, z5, z6, z7⟩
    refine codeAny_handlers_suite_as (J'.flight t3' fun s4 J4 t4 => ?_)
    refine lF (X := X.marked (.ref a)) (v := .ref a) J4 hN hi hl rfl (fun s5 J5 => ?_) hf
    refine wpAny_mono (hh a pins s5 _ H1 _ J5 hth) (fun f s6 q => ?_) fun _ _ z => z.elim
    cases f with
    | ret u =>
      obtain ⟨v, σ', H', J6, r, q⟩ := q
      exact (av.unmark J.ok J6).nameGoes hk fun s7 J7 => ⟨v, _, H', J7, r, q⟩
    | next => obtain ⟨_, _, _, z⟩ := q; exact z.elim
    | brk => obtain ⟨_, _, _, z⟩ := q; exact z.elim
    | cont => obtain ⟨_, _, _, z⟩ := q; exact z.elim
  refine wpAny_mono (hb E' _ _ thr [] s σ H D I.pin2 h) (fun f s1 q => ?_) fun e s1 z => z
  have q := q.unpin
  cases f with
  | next =>
    obtain ⟨σ', H', J, q⟩ := q
    exact sO pins s1 σ' H' D J q
  | brk => exact q
  | cont => exact q
  | ret u => exact q
end
end L2
namespace HL
open PySem (Str)
def lJ (c : Str) (as : DA) : DS := fun s h => match as s h with
  | .ok vs h1 => if vs.length ≤ gT then .ex h1.length (h1 ++ [.exc c []]) else .er
  | _ => .er
def xj (d : DS) : DS := fun s h => match d s h with
  | .ex _ _ => .er
  | c => c
def xi (d : DT) : DT := fun s h => match d s h with
  | .ex _ _ => .er
  | c => c
def uL (d : DA) : DA := fun s h => match d s h with
  | .ex _ _ => .er
  | c => c
end HL
namespace L2
open PySem PySem.Spec PySem.W PyProof.Rows
open HL (W SO Sh Sg OR DE DT DA DS Fn)
def XQ (K : PySem.W.Frag) (γ : Str → Addr) (ρ : Nat → Addr) (h : Sh) (a : Nat) (h1 : Sh) (Ψ : V → Hp → Prop) : Prop := ∀ ρ' H', cI h ρ h1 ρ' → bP K γ ρ' h1 H' → a < h1.length → Ψ (.ref (ρ' a)) H'
def eX (K : PySem.W.Frag) (γ : Str → Addr) (d : DE) (Ψ : V → Hp → Prop) (σ : St) (H : Hp) : Prop := ∃ ρ s h a h1, o7 K γ ρ s h σ H ∧ d s h = .ex a h1 ∧ XQ K γ ρ h a h1 Ψ
def EE (K : PySem.W.Frag) (γ : Str → Addr) (d : DS) (Ψ : V → Hp → Prop) (σ : St) (H : Hp) : Prop := ∃ ρ s h a h1, o7 K γ ρ s h σ H ∧ d s h = .ex a h1 ∧ XQ K γ ρ h a h1 Ψ
abbrev QX (γ : Str → Addr) (X : Cx) (Ψ : V → Hp → Prop) (e : Expr) (d : DE) : Prop := PE X e (fun σ H _ => eX X.K γ d Ψ σ H)
abbrev yY (γ : Str → Addr) (X : Cx) (Ψ : V → Hp → Prop) (b : List Stmt) (d : DS) : Prop := m9 X b (fun _ σ H => EE X.K γ d Ψ σ H)
abbrev Ei (γ : Str → Addr) (X : Cx) (Ψ : V → Hp → Prop) (b : Stmt) (d : DS) : Prop := PS X b (fun _ σ H => EE X.K γ d Ψ σ H)
section
variable {X : Cx} {γ : Str → Addr} {Ψ : V → Hp → Prop} {e : Expr} {es : List Expr} {d : DA} {da db : DS} {pos : Pos}
theorem XQ.later {K : PySem.W.Frag} {ρ ρ1 : Nat → Addr} {h h1 h2 : Sh} {a : Nat} (x : XQ K γ ρ h a h2 Ψ) (n : cI h ρ h1 ρ1) : XQ K γ ρ1 h1 a h2 Ψ := fun ρ' H' n' => x ρ' H' (n.trans n')
theorem z0 : yY γ X Ψ [] HL.ku := fun pins s σ H D I ⟨ρ, t, h, a, h1, S, e, x⟩ => by cases e
theorem y7 {b : List Stmt} : yY γ X Ψ b (HL.xj da) := fun pins s σ H D I ⟨ρ, t, h, a, h1, S, e, x⟩ => by
  unfold HL.xj at e
  split at e
  · cases e
  · rename_i c z
    exact absurd e (z _ _)
theorem vd {b : List Stmt} (h : rL γ X b da) : rL γ X b (HL.xj da) := fun pins s σ H D I ⟨ρ, t, hh, S, x⟩ => h pins s σ H D I ⟨ρ, t, hh, S, by
  unfold HL.xj at x
  split at x
  · exact x.elim
  · exact x⟩
theorem lB {b : Stmt} (h : Ei γ X Ψ b da) : yY γ X Ψ [b] da := sN h
theorem rP {b : Stmt} {r : List Stmt} (hn : QS γ X b da) (h1 : Ei γ X Ψ b da) (h2 : yY γ X Ψ r db) : yY γ X Ψ (b :: r) (HL.aI da db) := by
  have c : PS X b (fun D σ H => eS X.K γ da D σ H ∨ EE X.K γ da Ψ σ H) := fun pins s σ H D I z => z.elim (hn pins s σ H D I) (h1 pins s σ H D I)
  intro pins s σ H D I ⟨ρ, t, h, a, hh, S, e, x⟩
  refine p6 c h2 pins s σ H D I ?_
  unfold HL.aI at e
  cases q : da t h with
  | nx s1 h1 =>
    rw [q] at e
    refine .inl ⟨ρ, t, h, S, ?_⟩
    rw [q]
    exact fun ρ1 H1 n1 S1 w1 => ⟨ρ1, s1, h1, a, hh, ⟨S1, w1, rfl⟩, e, x.later n1⟩
  | ex a1 h1 => rw [q] at e; cases e; exact .inr ⟨ρ, t, h, a, hh, S, q, x⟩
  | rt => rw [q] at e; cases e
  | bk => rw [q] at e; cases e
  | ct => rw [q] at e; cases e
  | er => rw [q] at e; cases e
theorem zk {c : Expr} {dc : DT} (h : QT γ X c dc) : QT γ X c (HL.xi dc) := fun pins s σ H Q I ⟨ρ, t, hh, S, x⟩ => h pins s σ H Q I ⟨ρ, t, hh, S, by
  unfold HL.xi at x
  split at x
  · exact x.elim
  · exact x⟩
theorem Cg {c : Expr} {a b : List Stmt} {dc : DT} (hc : QT γ X c dc) (ha : yY γ X Ψ a da) (hb : yY γ X Ψ b db) : Ei γ X Ψ (.If c a b pos) (HL.fO (HL.xi dc) da db) := by
  intro pins s σ H D I ⟨ρ, t, h, a1, hh, S, e, x⟩
  refine zq hc ha hb pins s σ H D I ?_
  unfold HL.fO HL.xi at e
  refine ⟨ρ, t, h, S, ?_⟩
  cases q : dc t h with
  | ok k h1 =>
    rw [q] at e
    intro ρ1 H1 n1 S1 _
    have T1 := S.next n1 S1
    cases k with
    | true => exact ⟨ρ1, t, h1, a1, hh, T1, e, x.later n1⟩
    | false => exact ⟨ρ1, t, h1, a1, hh, T1, e, x.later n1⟩
  | ex => rw [q] at e; cases e
  | er => rw [q] at e; cases e
theorem xr {x : Str} {p cpos : Pos} (O : y0 X.K X.mg x (γ x)) (hg : Gl X x) (hc : X.calm = true) (hx : X.ex = []) (T : xn X Ψ) (ha : QA γ X (e :: es) d) (hdb : (x == ("__debug__" : Str)) = false := by decide)
    (he : starEach (e :: es) X.env = (false, eval e X.env) :: starEach es X.env := by rfl) (hpl : (backTo cpos (starEach es X.env)).any (·.1) = false := by rfl) : Ei γ X Ψ (.Raise (some (.Call (.Name x p) (e :: es) [] cpos)) none pos) (HL.lJ x d) := by
  intro pins s σ H D I ⟨ρ, t, h, a1, hh, S, ee, xx⟩
  refine ud O hg hc hx T ha hdb he hpl pins s σ H D I ⟨ρ, t, h, S, ?_⟩
  unfold HL.lJ at ee
  cases q : d t h with
  | ok vs h1 =>
    rw [q] at ee
    simp only at ee
    split at ee
    · rename_i hl
      cases ee
      intro ρ1 H1 n1 S1 w1
      refine ⟨by rw [List.length_map]; exact cL hl, fun ea hn => ?_⟩
      have S2 : bP X.K γ (mH ρ1 h1.length ea) (h1 ++ [.exc x []]) (upd H1 ea (.exc (γ x) none [])) := S1.push (o := .exc x []) (fun q hq => by cases hq) (oZ.upd _ hn) hn ⟨none, aX⟩
      have z := xx _ _ (n1.trans (cI.push h1 ρ1 (.exc x []) ea)) S2 (by simp)
      rw [eg] at z
      exact z
    · cases ee
  | ex => rw [q] at ee; cases ee
  | er => rw [q] at ee; cases ee
theorem vf {x : Option Expr} {c : Str} : QS γ X (.Raise x none pos) (HL.lJ c d) := fun pins s σ H D I ⟨ρ, t, h, S, z⟩ => by
  unfold HL.lJ at z
  split at z
  · split at z <;> exact z.elim
  · exact z.elim
def uY (K : PySem.W.Frag) (γ : Str → Addr) (p : Nat) (f : Fn) : Sp := fun vs H _ E => vs.length = p ∧ ∃ ρ h us a h1, bP K γ ρ h H ∧ ja h.length us ∧ vs = us.map (ay γ ρ) ∧ f us h = .ex a h1 ∧ XQ K γ ρ h a h1 fun v H' => ∃ b, v = .ref b ∧ E (.ref b) none H'
structure mF (P : Program) (w : World) (K : PySem.W.Frag) (mg : Str → Option Value) (base : Heap) (k : Nat) (C : Addr) (m : Str) (ps : List Str) (sp : Sp) : Prop where
  ex : ∃ f fd, i9 P w K mg base (Cf P w) k f fd ps sp ∧ findIn K (.ref C) m = some (some (.ref f)) ∧ isFn K (.ref f) = true ∧ keepIn K (.ref f) = true ∧ ed K fd ps []
theorem Co {P : Program} {w : World} {K : PySem.W.Frag} {mg : Str → Option Value} {base : Heap} {N : List Str} {qual : Str} {scope : Scope} {f : Addr} {cd : Value} {A : Around} {outer : List Env} {s0 : Shared} {H0 : Hp} {E : XK} : xn (kn (Cf P w) P w K mg base N qual scope f cd A outer s0 H0 E) (fun v H' => ∃ b, v = .ref b ∧ E (.ref b) none H') := by
  rintro pins σ H s a C dx fs I e t ⟨b, eb, hΨ⟩
  cases eb
  show wpAny _ _ (leaving _ (.ref a)) _ _ s
  unfold leaving
  refine wpAny_bind (I.noted I.ok.frames ⟨rfl, rfl⟩ e t fun s1 I1 t1 => I1.flight t1 fun s2 I2 t2 => ?_)
  obtain ⟨ha, o, vs, eo, d, hs, z⟩ := t2
  refine ⟨a, C, dx, fs, H, rfl, I2.os, I2.bare, I2.base, I2.hok, e, ⟨ha, o, vs, eo, d, hs, ?_⟩, hΨ⟩
  rcases z with z | ⟨T, oT, ts, z1, z2, z3, _, z4, z5, z6, z7⟩
  · exact .inl z
  · exact .inr ⟨T, oT, ts, z1, z2, z3, z4, z5, z6, z7⟩
theorem bB.xdef {P : Program} {w : World} {K : PySem.W.Frag} {mg : Str → Option Value} {base : Heap} {γ : Str → Addr} {C : Addr} {m qual : Str} {st : Stmt} {N ps : List Str} {k p n : Nat} {bd : DS} (F : bB K C m qual st ps) (S : aN N ps (ah st)) (hp : ps.length = p) (hn : N.length = n)
    (hbody : ∀ (f : Addr) (cdv : Value) (A : Around) (outer : List Env) (s : Shared) (H : Hp) (E : XK) (Ψ : V → Hp → Prop), bx k (A.deeper (envOfC qual (ah st) s.heap.objs.size f cdv)) → xn (kn (Cf P w) P w K mg base N qual (ah st) f cdv A outer s H E) Ψ →
      yY γ (kn (Cf P w) P w K mg base N qual (ah st) f cdv A outer s H E) Ψ (bj st) bd) : mF P w K mg base (k + 1) C m ps (uY K γ p (HL.fnOf p n bd)) := by
  obtain ⟨f, oc, od, dV, kV, doc, pm, an, cdv, ct, osl, lk, hcd, kp, fi, isf, hb⟩ := F.ex
  refine ⟨f, _, wb lk hcd S (fun vs H Q E h => h.1.trans hp.symm) fun A outer s H vs Q E hr hsp => ⟨_, hbody f cdv A outer s H E _ hr Co, ?_⟩, fi, isf, kp, hb⟩
  obtain ⟨_, ρ, hh, us, a, h1, S, wu, e, ex, x⟩ := hsp
  rw [e]
  subst hn
  unfold HL.fnOf at ex
  split at ex
  · refine ⟨ρ, HL.start N.length us, hh, a, h1, ⟨S, pk wu, lO N us⟩, ?_, x⟩
    cases q : bd (HL.start N.length us) hh with
    | nx => rw [q] at ex; cases ex
    | rt => rw [q] at ex; cases ex
    | bk => rw [q] at ex; cases ex
    | ct => rw [q] at ex; cases ex
    | ex => rw [q] at ex; cases ex; rfl
    | er => rw [q] at ex; cases ex
  · cases ex
end
end L2
namespace L2
open PySem PySem.Spec PySem.W PyProof.Rows
open HL (W)
def BC (K : PySem.W.Frag) (cs : List (Str × Addr × List W)) : Bool :=
  (cs.all fun p => cs.all fun q => PySem.W.kitOne K (.ref p.2.1) (.ref q.2.1) == some (p.2.2.contains (.gl q.1))) &&
  (cs.all fun p => HL.qK.all fun b => PySem.W.kitOne K (.ref p.2.1) (.type b) == some (p.2.2.contains (.ty b))) &&
  (cs.all fun q => ("NoneType" :: HL.qK).all fun a => PySem.W.kitOne K (.type a) (.ref q.2.1) == some false)
theorem ux {K : PySem.W.Frag} {γ : Str → Addr} {cs : List (Str × Addr × List W)} (hγ : ∀ p ∈ cs, γ p.1 = p.2.1) (hi : ∀ p ∈ cs, p.2.2.contains (.ty "ValueError") = false → tJ K p.2.1) (hx : ∀ p ∈ cs, p.2.2.contains (.ty "ValueError") = true → nM K p.2.1) (hb : BC K cs = true) : kN K γ (cs.map fun p => (p.1, p.2.2)) := by
  unfold BC at hb
  simp only [Bool.and_eq_true] at hb
  obtain ⟨⟨h1, h2⟩, h3⟩ := hb
  have mem : ∀ c l, (cs.map fun p => (p.1, p.2.2)).lookup c = some l → ∃ a, (c, a, l) ∈ cs ∧ γ c = a := fun c l e => by
    obtain ⟨p, hp, q⟩ := List.mem_map.mp (mj e)
    obtain ⟨x, a, m⟩ := p
    cases q
    exact ⟨a, hp, hγ _ hp⟩
  refine ⟨?_, ?_, ?_, ?_⟩
  · intro c l e
    obtain ⟨a, hp, ga⟩ := mem c l e
    rw [ga]
    exact ⟨fun z => hi _ hp z, fun z => hx _ hp z⟩
  · intro c l e x m e2
    obtain ⟨a, hp, ga⟩ := mem c l e
    obtain ⟨b, hq, gb⟩ := mem x m e2
    rw [ga, gb]
    exact beq_iff_eq.mp (List.all_eq_true.mp (List.all_eq_true.mp h1 _ hp) _ hq)
  · intro c l e b hb
    obtain ⟨a, hp, ga⟩ := mem c l e
    rw [ga]
    exact beq_iff_eq.mp (List.all_eq_true.mp (List.all_eq_true.mp h2 _ hp) b hb)
  · intro x m e a ha
    obtain ⟨b, hq, gb⟩ := mem x m e
    rw [gb]
    exact beq_iff_eq.mp (List.all_eq_true.mp (List.all_eq_true.mp h3 _ hq) a ha)
end L2
namespace HL
open PySem (Str)
def pM (body : DS) (n i : Nat) (cs : List Str) (hd : DS) : DS := fun s h => match body s h with
  | .ex a h1 => (match h1[a]? with
    | some (.exc c _) => if cs.contains c = true then (match hd ((List.replicate n none).set i (some (.ref a))) h1 with
      | .rt v h2 => .rt v h2
      | _ => .er) else .er
    | _ => .er)
  | c => c
def Em (d : DE) : Prop := ∀ s h a h', d s h ≠ .ex a h'
theorem jN (i : Nat) : Em (ae i) := fun s h a h' e => by
  unfold ae at e
  split at e <;> cases e
end HL
namespace HL
open PySem (Str)
end HL
namespace HL
end HL
namespace L2
open PySem PySem.Spec PyProof.Rows
open HL (W SO Sh Sg OR DE DT DA DS Fn)
structure wZ (k : Nat) (A : Around) : Prop where
  dp : A.depth + 3 * k + 5 < recursionLimit
  un : A.units + 16 * k + 200 < cLine
structure Ew (P : Program) (w : World) (K : PySem.W.Frag) (mg : Str → Option Value) (base : Heap) (CX : tK) (k : Nat) (f : Addr) (fd : FuncData) (ps : List Str) (sp : Sp) : Prop where
  len : ∀ vs H Q E, sp vs H Q E → vs.length = ps.length
  run : ∀ (A : Around) (outer : List Env) (s : Shared) (H : Hp) (args : Args) (us : List Value) (vs : List V) (Q : VK) (E : XK), wZ k A → mG P w K mg base A outer s H → BindsTo s fd args (ps.zip us) → aF vs us → sp vs H Q E →
    codeAny (model P w) A (.call (.ref f) args) (CR CX outer P w H s Q E) s
section
variable {X : Cx} {CX : tK} {k : Nat} {f C : Addr} {fd : FuncData} {ps : List Str} {sp : Sp} {dvs : List V} {ds : List Value} {E : XK} {x m : Str} {p pos apos : Pos} {e o : Expr} {es : List Expr} {ta : TE} {t : TA}
end
section
variable {P : Program} {w : World} {K : PySem.W.Frag} {mg : Str → Option Value} {base : Heap}
structure Gu (P : Program) (w : World) (K : PySem.W.Frag) (mg : Str → Option Value) (base : Heap) (k : Nat) (x : Str) (ps : List Str) (sp : Sp) : Prop where
  ex : ∃ f fd, Ew P w K mg base tL k f fd ps sp ∧ mg x = some (.ref f) ∧ PySem.W.keepIn K (.ref f) = true ∧ ed K fd ps []
end
section
variable {X : Cx} {γ : Str → Addr} {a b c e : Expr} {da db dc de : DE} {pos : Pos}
end
section
variable {P : Program} {w : World} {K : PySem.W.Frag} {mg : Str → Option Value} {base : Heap} {γ : Str → Addr}
end
theorem bx.q {k : Nat} {A : Around} (r : bx k A) : wZ k A := ⟨r.dp, r.un⟩
end L2
namespace L2
open PySem PySem.Spec PySem.W PyProof.Rows
open HL (W SO Sh Sg OR DE DT DA DS Fn)
theorem bx.marked {k : Nat} {A : Around} {v : Option Value} (r : bx k A) : wZ k (A.mark v) := ⟨r.dp, r.un⟩
section
variable {X : Cx} {γ : Str → Addr} {Ψ : V → Hp → Prop} {e o : Expr} {es : List Expr} {d : DA} {d1 : DE} {da db : DS} {pos apos : Pos} {m : Str}
theorem nv (h : QA γ X es d) : QA γ X es (HL.uL d) := fun p pins s σ H Q I ⟨ρ, t, hh, S, x⟩ => h p pins s σ H Q I ⟨ρ, t, hh, S, by
  unfold HL.uL at x
  split at x
  · exact x.elim
  · exact x⟩
theorem nQ {de : DE} (h : QX γ X Ψ e de) (hs : swapsWith e none pos.line X.env = pure false := by rfl) : Ei γ X Ψ (.Expr e pos) (HL.eN de) := (sP h hs).imp fun D σ H ⟨ρ, s, hh, a, h1, S, ee, x⟩ => by
  refine ⟨ρ, s, hh, a, h1, S, ?_, x⟩
  unfold HL.eN at ee
  cases q : de s hh with
  | ok v h2 => rw [q] at ee; cases ee
  | ex => rw [q] at ee; cases ee; rfl
  | er => rw [q] at ee; cases ee
theorem nP {c : Str} {k p n : Nat} {bd : DS} {ps : List Str} {pl : Sem Bool} (hc : nN X.K (γ c)) (F : mF X.prog X.w X.K X.mg X.base k (γ c) m ps (uY X.K γ p (HL.fnOf p n bd))) (hr : bx k X.A) (hx : X.ex = []) (T : xn X Ψ) (n1 : HL.Em d1) (he : QE γ X o d1) (ha : QA γ X (e :: es) d)
    (hst : starEach (e :: es) X.env = (false, eval e X.env) :: starEach es X.env := by rfl) (hpl : (backTo pos (starEach es X.env)).any (·.1) = false := by rfl)
    (ht : eval (.Call (.Attribute o m apos) (e :: es) [] pos) X.env = (do
      let ov ← eval o X.env
      standAt apos.atName
      let (f, first) ← holding [ov] (getMethod ov m pl)
      callWith pos f first (backTo pos (starEach (e :: es) X.env)) (backToKw pos (keywordEach [] X.env))) := by rfl) :
    QX γ X Ψ (.Call (.Attribute o m apos) (e :: es) [] pos) (HL.bG [(c, HL.fnOf p n bd)] m d1 (HL.uL d)) := by
  obtain ⟨g, fd, F, a, nf, kp, b⟩ := F.ex
  refine (ya (E := Ef Ψ) (pl := pl) he hc ⟨a, nf, kp⟩ F hr b .nil (T.passes hx) ha hst hpl ht).imp fun σ H Q z => ?_
  obtain ⟨ρ, s, h, ea, hh, S, ee, xx⟩ := z
  unfold HL.bG HL.uL at ee
  refine ⟨ρ, s, h, S, ?_⟩
  cases q : d1 s h with
  | ok v h1 =>
    rw [q] at ee
    simp only [HL.R.bind] at ee
    intro ρ1 H1 m1 S1 w1
    split at ee
    · rename_i f ef
      cases v with
      | ref i =>
        simp only [HL.mw] at ef
        split at ef
        · rename_i c' fs qo
          split at ef
          · rename_i hl
            by_cases z : c' = c
            · subst z
              simp only [List.lookup, beq_self_eq_true, Option.some.injEq] at ef
              subst ef
              obtain ⟨dx, ob⟩ := S1.ob i _ qo
              refine ⟨ρ1 i, dx, i8 γ ρ1 fs, rfl, ob, by rw [hW, hl]; rfl, ρ1, s, h1, S.next m1 S1, ?_⟩
              cases q2 : d s h1 with
              | ok us h2 =>
                rw [q2] at ee
                simp only at ee
                intro ρ2 H2 m2 S2 w2
                have wi : wf h2.length (.ref i) := w1.mono m2.le
                have lp : (.ref i :: us : List W).length = p := by
                  unfold HL.fnOf at ee
                  split at ee
                  · assumption
                  · cases ee
                refine ⟨?_, ρ2, h2, .ref i :: us, ea, hh, S2, ?_, ?_, ee, fun ρ' H' n' S' la => ⟨ρ' ea, rfl, ρ' ea, rfl, xx ρ' H' ((m1.trans m2).trans n') S' la⟩⟩
                · rw [← lp]; simp
                · intro y hy
                  rcases List.mem_cons.mp hy with r | r
                  · rw [r]; exact wi
                  · exact w2 y r
                · rw [List.map_cons, List.append_nil, show ay γ ρ2 (.ref i) = ay γ ρ1 (.ref i) from (dD w1 m2.ag).symm]
              | ex a2 h2 => rw [q2] at ee; cases ee
              | er => rw [q2] at ee; cases ee
            · have z' : (c' == c) = false := by simpa using z
              simp only [List.lookup, z'] at ef
              cases ef
          · cases ef
        · cases ef
      | _ => cases ef
    · cases ee
  | ex a2 h2 => exact absurd q (n1 s h a2 h2)
  | er => rw [q] at ee; cases ee
theorem xO {body suite : List Stmt} {b0 : Stmt} {cx n : Str} {np hpos : Pos} {i : Nat} {B : Addr} {cs : List Str} {hd : DS} (hst : X.stack = X.env :: X.outer ∧ X.env.frame = some X.env.locals) (hg : Gl X cx) (hB : X.mg cx = some (.ref B)) (hN : X.N.Nodup) (hi : X.N[i]? = some n)
    (hk : X.env.kindOf n = some .local) (hl : xa X.env.scope n) (hf : X.fn n = true ∨ X.env.scope.names.lookup n = some .local)
    (hbN : ∀ pn', rL γ (X.pinned (fun _ _ => False) pn') body db) (hbR : ∀ E' pn' Ψ, xn (X.pinned E' pn') Ψ → yY γ (X.pinned E' pn') Ψ body db) (hh : ∀ a : Addr, rL γ (X.marked (.ref a)) (b0 :: suite) hd)
    (hm : ∀ c, cs.contains c = true → exmOne X.K (.ref (γ c)) (.ref B) = some true) (hdb : (cx == ("__debug__" : Str)) = false := by decide) :
    QS γ X (.Try body [.ExceptHandler (some (.Name cx np)) (some n) (b0 :: suite) hpos] [] [] pos) (HL.pM db X.N.length i cs hd) := by
  refine (AD (tb := fun Ψ D σ H => eS X.K γ db D σ H ∨ EE X.K γ db Ψ σ H) (th := eS X.K γ hd) hst hg hB hN hi hk hl hf (fun E' pn' Ψ T pins s σ H D I z => z.elim ((hbN pn').nox pins s σ H D I) (hbR E' pn' Ψ T pins s σ H D I)) hh hdb).imp fun D σ H z => ?_
  obtain ⟨ρ, s, h, S, z⟩ := z
  unfold HL.pM at z
  cases q : db s h with
  | ex a h1 =>
    rw [q] at z
    simp only at z
    refine .inr ⟨ρ, s, h, a, h1, S, q, fun ρ' H' n' S' la => ?_⟩
    cases q1 : h1[a]? with
    | none => rw [q1] at z; exact z.elim
    | some o =>
      rw [q1] at z
      cases o with
      | exc c fs =>
        simp only at z
        split at z
        · rename_i hc
          obtain ⟨dx, ob⟩ := S'.ob a _ q1
          refine ⟨ρ' a, γ c, dx, _, rfl, ob, hm c hc, ρ', (List.replicate X.N.length none).set i (some (.ref a)), h1, ⟨S', ?_, ?_⟩, ?_⟩
          · exact nR (fun y hy => by cases (List.mem_replicate.mp hy).2) la
          · rw [jD]
            unfold gB
            rw [List.map_replicate]
            rfl
          · cases q2 : hd ((List.replicate X.N.length none).set i (some (.ref a))) h1 with
            | rt v h2 =>
              rw [q2] at z
              exact fun ρ2 H2 n2 => z ρ2 H2 (n'.trans n2)
            | _ => rw [q2] at z; exact z.elim
        · exact z.elim
      | _ => exact z.elim
  | _ => rw [q] at z; exact .inl ⟨ρ, s, h, S, by rw [q]; exact z⟩
end
end L2
namespace L2
open PySem PySem.Spec PySem.W PyProof.Rows
open HL (W SO Sh Sg OR DE DT DA DS Fn)
structure Gj (P : Program) (w : World) (K : PySem.W.Frag) (mg : Str → Option Value) (base : Heap) (k : Nat) (x : Str) (ps : List Str) (sp : Sp) : Prop where
  ex : ∃ f fd, i9 P w K mg base (Cf P w) k f fd ps sp ∧ mg x = some (.ref f) ∧ keepIn K (.ref f) = true ∧ ed K fd ps []
section
variable {X : Cx} {γ : Str → Addr} {Ψ : V → Hp → Prop} {e o : Expr} {es : List Expr} {d : DA} {d1 de : DE} {da db : DS} {pos pos' : Pos}
end
end L2
namespace HL
open PySem (Str)
end HL
namespace L2
open PySem PySem.Spec PyProof.Rows
open HL (W SO Sh Sg OR DE DT DA DS Fn)
section
variable {X : Cx} {γ : Str → Addr} {a b c e : Expr} {ta tb : TE} {da db dc de : DE} {pos : Pos} {dz : List Expr}
end
end L2
namespace HL
def j7 (o : DE) (lo hi : DO) (e : DE) : DS := fun s h => match ((e s h).bind fun v h => (o s h).bind fun x h => (lo s h).bind fun l h => (hi s h).bind fun u h => (match x, v, l, u with
    | .ref p, .ref q, some a, some c => (match h[p]?, h[q]? with
      | some (.lst xs), some (.lst ys) => if p ≠ q ∧ 0 ≤ a ∧ a ≤ c ∧ c ≤ (xs.length : Int) ∧ xs.length + ys.length ≤ gT then R.ok W.non (h.set p (.lst (xs.take a.toNat ++ ys ++ xs.drop c.toNat))) else .er
      | _, _ => .er)
    | _, _, _, _ => .er)) with
  | .ok _ h => .nx s h
  | .ex e h => .ex e h
  | .er => .er
end HL
namespace L2
open PySem PySem.Spec PySem.W PyProof.Rows
open HL (W SO Sh Sg OR DE DT DA DS Fn)
section
variable {X : Cx} {γ : Str → Addr} {o e : Expr} {lo hi : Option Expr} {to te : TE} {tl th : TO} {pos p2 p3 : Pos}
def Gf (to : TE) (tl th : TO) : TG := fun v σ H Q => to σ H fun x H1 => tl σ H1 fun l H2 => th σ H2 fun u H3 => ∃ la b xs ys a c, x = .ref la ∧ v = .ref b ∧ l = some a ∧ u = some c ∧ H3 la = some (.lst xs) ∧ H3 b = some (.lst ys) ∧ la ≠ b ∧ 0 ≤ a ∧ a ≤ c ∧ c ≤ (xs.length : Int) ∧ xs.length + ys.length ≤ sizeLine ∧ Q σ (upd H3 la (.lst (xs.take a.toNat ++ ys ++ xs.drop c.toNat)))
theorem vC (ho : PE X o to) (hl : PO X lo tl) (hu : PO X hi th)
    (ha : ∀ v, assign (.Subscript o (.Slice lo hi none p2) p3) X.env v = (do
      let ov ← holding [v] (eval o X.env)
      let iv ← holding [v, ov] (eval (.Slice lo hi none p2) X.env)
      standAt p3
      holding [v, ov, iv] (setItem ov iv v)
      release [iv, v, ov] []) := by intro _; rfl) : PG X (.Subscript o (.Slice lo hi none p2) p3) (Gf to tl th) := by
  intro pins s σ H v u Q I r h
  rw [ha]
  refine wpAny_bind (wpAny_holding (cE (ho pins s σ H _ I h) fun ov s1 ⟨x, H1, I1, r1, q1⟩ => ?_))
  refine wpAny_bind (wpAny_holding ?_)
  refine wpAny_Slice (cE (hl pins s1 σ H1 _ I1 q1) fun vl s2 ⟨l, H2, I2, pl, q2⟩ => cE (hu pins s2 σ H2 _ I2 q2) fun vu s3 ⟨uu, H3, I3, pu, q3⟩ => ?_)
  rw [evalPart_none]
  refine wpAny_pure ?_
  have I4 : av X pins σ H3 { s3 with heap := s3.heap.push { cls := .type "slice", data := .fields #[vl, vu, .none] } } := I3.kept (t' := s3.toks) fun b ob q => Heap.get?_push_of_some _ q
  obtain ⟨la, b, xs, ys, a, c, rfl, rfl, rfl, rfl, hH, hB, hne, h0, hac, hc, hz, q⟩ := q3
  cases r1
  cases r
  refine wpAny_bind (wpAny_standAt (wpAny_bind (wpAny_holding ?_)))
  refine tZ I4 hH hB hne (Heap.IsSliceOf.new ..) (by cases pl; exact ⟨_, rfl⟩) (by cases pu; exact ⟨_, rfl⟩) h0 hac hc hz fun s5 I5 => ?_
  exact wpAny_release ⟨σ, _, I5, q⟩
variable {d1 de : DE} {dl dh : HL.DO}
theorem ve (he : QE γ X e de) (ho : QE γ X o d1) (hl : QO γ X lo dl) (hu : QO γ X hi dh)
    (ha : ∀ v, assign (.Subscript o (.Slice lo hi none p2) p3) X.env v = (do
      let ov ← holding [v] (eval o X.env)
      let iv ← holding [v, ov] (eval (.Slice lo hi none p2) X.env)
      standAt p3
      holding [v, ov, iv] (setItem ov iv v)
      release [iv, v, ov] []) := by intro _; rfl)
    (hs : swapsWithSole [.Subscript o (.Slice lo hi none p2) p3] e pos.line X.env = pure false := by rfl) (hw : swappedStores [.Subscript o (.Slice lo hi none p2) p3] e X.env = pure none := by rfl)
    (h1 : (assignEach [.Subscript o (.Slice lo hi none p2) p3] X.env).map (·.2) = [assign (.Subscript o (.Slice lo hi none p2) p3) X.env] := by rfl) : QS γ X (.Assign [.Subscript o (.Slice lo hi none p2) p3] e pos) (HL.j7 d1 dl dh de) :=
  (vp he (vC ho hl hu ha) hs hw h1).imp fun D σ H ⟨ρ, s, h, S, x⟩ => by
  unfold HL.j7 at x
  refine ⟨ρ, s, h, S, ?_⟩
  cases q : de s h with
  | ok v h1 =>
    rw [q] at x
    intro ρ1 H1 n1 S1 w1
    have T1 := S.next n1 S1
    refine ⟨ρ1, s, h1, T1, ?_⟩
    simp only [HL.R.bind] at x
    cases q2 : d1 s h1 with
    | ok xo h2 =>
      rw [q2] at x
      intro ρ2 H2 n2 S2 w2
      have T2 := T1.next n2 S2
      refine ⟨ρ2, s, h2, T2, ?_⟩
      simp only at x
      cases q3 : dl s h2 with
      | ok l h3 =>
        rw [q3] at x
        intro ρ3 H3 n3 S3 w3
        have T3 := T2.next n3 S3
        refine ⟨ρ3, s, h3, T3, ?_⟩
        simp only at x
        cases q4 : dh s h3 with
        | ok u h4 =>
          rw [q4] at x
          intro ρ4 H4 n4 S4 w4
          have T4 := T3.next n4 S4
          simp only at x
          cases xo with
          | ref pp =>
            cases v with
            | ref qq =>
              cases l with
              | some a =>
                cases u with
                | some c =>
                  simp only at x
                  cases k1 : h4[pp]? with
                  | some ob =>
                    cases ob with
                    | lst xs =>
                      cases k2 : h4[qq]? with
                      | some ob2 =>
                        cases ob2 with
                        | lst ys =>
                          rw [k1, k2] at x
                          simp only at x
                          by_cases hh : pp ≠ qq ∧ 0 ≤ a ∧ a ≤ c ∧ c ≤ (xs.length : Int) ∧ xs.length + ys.length ≤ HL.gT
                          · rw [if_pos hh] at x
                            obtain ⟨hne, h0, hac, hc, hz⟩ := hh
                            have o1 := S4.ob pp _ k1
                            have o2 := S4.ob qq _ k2
                            have e1 : ρ2 pp = ρ4 pp := (n3.trans n4).ag pp w2
                            have e2 : ρ1 qq = ρ4 qq := ((n2.trans n3).trans n4).ag qq w1
                            refine ⟨ρ2 pp, ρ1 qq, xs.map (ay γ ρ4), ys.map (ay γ ρ4), a, c, rfl, rfl, rfl, rfl, by rw [e1]; exact o1, by rw [e2]; exact o2, ?_, h0, hac, by rw [List.length_map]; exact hc, by rw [List.length_map, List.length_map]; exact cL hz, ?_⟩
                            · rw [e1, e2]; exact fun z => hne (S4.inj pp qq _ _ k1 k2 rfl rfl z)
                            · have S5 : bP X.K γ ρ4 (h4.set pp (.lst (xs.take a.toNat ++ ys ++ xs.drop c.toNat))) (upd H4 (ρ4 pp) (.lst ((xs.take a.toNat ++ ys ++ xs.drop c.toNat).map (ay γ ρ4)))) := S4.chg k1 rfl rfl (by
                                intro y hy
                                rcases List.mem_append.mp hy with z | z
                                · rcases List.mem_append.mp z with z | z
                                  · exact S4.wf pp _ k1 y (List.mem_of_mem_take z)
                                  · exact S4.wf qq _ k2 y z
                                · exact S4.wf pp _ k1 y (List.mem_of_mem_drop z)) aX
                              have z := x ρ4 _ ((((n1.trans n2).trans n3).trans n4).trans (cI.chg _ _ _ _)) S5 (by rw [List.length_set]; exact T4.ws)
                              rw [← T4.eq] at z
                              rw [List.map_append, List.map_append, List.map_take, List.map_drop] at z
                              rw [e1]
                              exact z
                          · rw [if_neg hh] at x; exact x.elim
                        | _ => rw [k1, k2] at x; exact x.elim
                      | none => rw [k1, k2] at x; exact x.elim
                    | _ => rw [k1] at x; exact x.elim
                  | none => rw [k1] at x; exact x.elim
                | none => exact x.elim
              | none => exact x.elim
            | _ => exact x.elim
          | _ => exact x.elim
        | ex => rw [q4] at x; exact x.elim
        | er => rw [q4] at x; exact x.elim
      | ex => rw [q3] at x; exact x.elim
      | er => rw [q3] at x; exact x.elim
    | ex => rw [q2] at x; exact x.elim
    | er => rw [q2] at x; exact x.elim
  | ex => rw [q] at x; exact x.elim
  | er => rw [q] at x; exact x.elim
end
end L2
namespace HL
open PySem (Str)
def rp (p : Nat) (all : List W) (is : List Nat) (b : DS) : Nat → List W → DS
  | _, [], s, h => .nx s h
  | k, x :: xs, s, h => match jR is (.ref h.length) s (h ++ [.tup [.int (k : Int), x]]) with
    | none => .er
    | some s1 => match b s1 (h ++ [.tup [.int (k : Int), x]]) with
      | .nx s2 h2 => if h2[p]? = some (.tup all) then rp p all is b (k + 1) xs s2 h2 else .er
      | .ct s2 h2 => if h2[p]? = some (.tup all) then rp p all is b (k + 1) xs s2 h2 else .er
      | .bk s2 h2 => .nx s2 h2
      | c => c
def lL (a : DE) (is : List Nat) (b : DS) : DS := fun s h => match a s h with
  | .ok (.ref i) h => (match h[i]? with
    | some (.lst xs) => rq i xs is b 0 xs s h
    | some (.tup xs) => rp i xs is b 0 xs s h
    | _ => .er)
  | _ => .er
end HL
namespace L2
open PySem PySem.Spec PyProof.Rows
open HL (W SO Sh Sg OR DE DT DA DS Fn)
section
variable {prog : Program} {w : World} {A : Around} {E : Value → Shared → Prop} {s : Shared} {it t : Addr} {i : Nat} {items : Array Value}
theorem IsTupIter.at' {h h' : Heap} (x : IsTupIter h it t i) (k : ∀ o, h.get? it = some o → h'.get? it = some o) : IsTupIter h' it t i := let ⟨o, ho, r⟩ := x; ⟨o, k o ho, r⟩
theorem IsTup.at' {h h' : Heap} (x : IsTup h t items) (k : ∀ o, h.get? t = some o → h'.get? t = some o) : IsTup h' t items := let ⟨o, ho, r⟩ := x; ⟨o, k o ho, r⟩
theorem q9 {x : Value} {Q : Value → Shared → Prop} (ht : IsTupIter s.heap it t i) (hl : IsTup s.heap t items) (hx : items[i]? = some x)
    (q : ∀ h', IsTupIter h' it t (i + 1) → Heap.SameBut it s.heap h' → Q x { s with heap := h' }) : wpAny (model prog w) A (Builtin.SmallTypes.nextOf (.ref it)) Q E s := by
  obtain ⟨o, ho, hc, hd⟩ := id ht
  obtain ⟨u, hu, _, n, du⟩ := hl
  unfold Builtin.SmallTypes.nextOf
  refine wpAny_bind (wpAny_callSpecial?_slot (name := Str.ofString "__next__") ht.typeIs slot_tupleiter_next (wpAny_call_entry slot_tupleiter_next ht.typeIs entry_tupleiter_next ?_ (args_tupleiter_next _)))
  show wpAny _ _ (field (.ref it) 0 >>= _) _ _ s
  refine wpAny_bind (wpAny_field ho hd (x := .ref t) rfl ?_)
  show wpAny _ _ (if (Value.ref t == Value.none) = true then _ else _) _ _ s
  rw [if_neg (show ¬ ((Value.ref t == Value.none) = true) from Bool.false_ne_true)]
  show wpAny _ _ (field (.ref it) 1 >>= _) _ _ s
  refine wpAny_bind (wpAny_field ho hd (x := .int i 0) rfl ?_)
  show wpAny _ _ (seqItems? (.ref t) >>= _) _ _ s
  refine wpAny_bind (wpAny_seqItems hu du ?_)
  simp only [Int.toNat_natCast, hx]
  refine wpAny_bind (wpAny_setField ho hd (by simp) (wpAny_pure ⟨x, rfl, wpAny_pure (q _ ?_ (Heap.SameBut.update ..))⟩))
  exact ⟨_, Heap.get?_update_self _ ho (Obj.isFreed_of_fields (Obj.data_mapFields hd _)), (Obj.cls_mapFields ..).trans hc, by rw [Obj.data_mapFields hd]; simp [rawInt]⟩
theorem uq {Q : Value → Shared → Prop} (hh : A.handled = none) (ht : IsTupIter s.heap it t i) (hl : IsTup s.heap t items) (hx : items[i]? = none)
    (q : ∀ h' e, Heap.ExtBut it s.heap h' → (∃ o, h'.get? e = some o ∧ o.cls = .type "StopIteration") → E (.ref e) { s with heap := h' }) : wpAny (model prog w) A (Builtin.SmallTypes.nextOf (.ref it)) Q E s := by
  obtain ⟨o, ho, hc, hd⟩ := id ht
  obtain ⟨u, hu, _, n, du⟩ := hl
  unfold Builtin.SmallTypes.nextOf
  refine wpAny_bind (wpAny_callSpecial?_slot (name := Str.ofString "__next__") ht.typeIs slot_tupleiter_next (wpAny_call_entry slot_tupleiter_next ht.typeIs entry_tupleiter_next ?_ (args_tupleiter_next _)))
  show wpAny _ _ (field (.ref it) 0 >>= _) _ _ s
  refine wpAny_bind (wpAny_field ho hd (x := .ref t) rfl ?_)
  show wpAny _ _ (if (Value.ref t == Value.none) = true then _ else _) _ _ s
  rw [if_neg (show ¬ ((Value.ref t == Value.none) = true) from Bool.false_ne_true)]
  show wpAny _ _ (field (.ref it) 1 >>= _) _ _ s
  refine wpAny_bind (wpAny_field ho hd (x := .int i 0) rfl ?_)
  show wpAny _ _ (seqItems? (.ref t) >>= _) _ _ s
  refine wpAny_bind (wpAny_seqItems hu du ?_)
  simp only [Int.toNat_natCast, hx]
  refine wpAny_bind (wpAny_rule (wpAny_bind (wpAny_setField ho hd (by simp) ?_)))
  show wpAny _ _ (newExc (.type "StopIteration") [] >>= _) _ _ _
  refine wpAny_bind ?_
  simp only [newExc, newTuple]
  refine wpAny_bind (wpAny_newObj_type ?_ (by size_fits))
  refine wpAny_bind (m := firstArgMember _ _) (wpAny_of_eq (a := Value.none) (by first | rfl | (simp only [firstArgMember]; rfl)) ?_)
  refine wpAny_newObj_type ?_ (by size_fits)
  simp only [raiseNew]
  refine wpAny_bind (wpAny_handled ?_)
  first | rw [show A.in1.handled = none from hh] | rw [hh]
  refine wpAny_bind (wpAny_pure (wpAny_throw ?_))
  exact q _ _ (((Heap.SameBut.update ..).extBut.push _).push _) ⟨_, Heap.get?_push_size _ rfl, rfl⟩
theorem wz (hh : A.handled = none) (it t : Addr) (hne : t ≠ it) (items : Array Value) : Draws prog w A it [it, t] items.size (fun i v => items[i]? = some v) (fun i h => IsTupIter h it t i ∧ IsTup h t items) where
  live := fun _ _ st => let ⟨o, ho, _⟩ := st.1; ⟨o, ho⟩
  frame := fun _ _ _ st k => ⟨IsTupIter.at' st.1 fun o e => k it (by simp) o e, IsTup.at' st.2 fun o e => k t (by simp) o e⟩
  item := fun i s Q E hi st q => q9 st.1 st.2 (x := items[i]) (by simp [hi]) fun h' a b => q _ h' s.toks (by simp [hi]) ⟨a, IsTup.at' st.2 fun o e => b.extBut t o hne e⟩ b
  done := fun s Q E st q => uq hh st.1 st.2 (by simp) q
theorem rd (l : Addr) (items : Array Value) (n : Nat) (dct : Option Addr) (sl : Array (Option Value)) : Meets (Builtin.«enumerate.__new__» ⟨[.type "enumerate", .ref l], []⟩) (fun _ R s => s.heap.get? l = some { cls := .type "tuple", dict := dct, data := .seq items n, slots := sl } ∧
      R (.ok (.ret (.ref (s.heap.push { cls := .type "tuple_iterator", data := .fields #[.ref l, .int 0 0] }).objs.size))) { s with heap := (s.heap.push { cls := .type "tuple_iterator", data := .fields #[.ref l, .int 0 0] }).push { cls := .type "enumerate", data := .fields #[.none, .bool false, .ref s.heap.objs.size, rawInt 0, .none, .none] } }) :=
  .of_wp fun prog w A R s h => by
    obtain ⟨hp, g, d, tk, os⟩ := s; obtain ⟨hl, h⟩ := h
    have hsub := sub_enumerate
    have hL : IsTup (Shared.heap ⟨hp, g, d, tk, os⟩) l items := ⟨_, hl, rfl, n, rfl⟩
    wp_walk using AutoSeq1.wpAny_loadPart' hl
    refine wpAny_stack_any fun st => wpAny_pure ?_
    split
    · rename_i c _ _ _ _ _
      cases (c == Value.type "enumerate") <;> (wp_walk using AutoSeq1.wpAny_loadPart' hl, iter_tuple hL; exact ⟨_, rfl, h⟩)
    · (wp_walk using AutoSeq1.wpAny_loadPart' hl, iter_tuple hL; exact ⟨_, rfl, h⟩)
theorem rG {l : Addr} {Q : Value → Shared → Prop} (hL : IsTup s.heap l items)
    (q : ∀ h', IsEnum h' (s.heap.objs.size + 1) s.heap.objs.size 0 .none → IsTupIter h' s.heap.objs.size l 0 → h'.objs.size = s.heap.objs.size + 2 → (∀ b o, s.heap.get? b = some o → h'.get? b = some o) → Q (.ref (s.heap.objs.size + 1)) { s with heap := h' }) :
    wpAny (model prog w) A (call (.type "enumerate") [.ref l]) Q E s := by
  obtain ⟨⟨c, dct, dt, sl⟩, hl, hc, n, hd⟩ := hL
  replace hc : c = .type "tuple" := hc
  replace hd : dt = .seq items n := hd
  subst hc hd
  refine callType_new F.called_enumerate (by decide) (F.typeCall_enumerate_1 _) (F.newCall_enumerate_1 _) (fun obj => F.args_object_init_2 obj _) F.entry_enumerate_new (rd l items n dct sl) ⟨hl, ?_⟩
  have hz : (s.heap.push { cls := .type "tuple_iterator", data := .fields #[.ref l, .int 0 0] }).objs.size = s.heap.objs.size + 1 := Heap.size_push ..
  show _ ∧ _
  rw [hz]
  have he : IsEnum ((s.heap.push { cls := .type "tuple_iterator", data := .fields #[.ref l, .int 0 0] }).push { cls := .type "enumerate", data := .fields #[.none, .bool false, .ref s.heap.objs.size, rawInt 0, .none, .none] }) (s.heap.objs.size + 1) s.heap.objs.size 0 .none := by
    have := Heap.get?_push_size (s.heap.push { cls := .type "tuple_iterator", data := .fields #[.ref l, .int 0 0] }) (o := { cls := .type "enumerate", data := .fields #[.none, .bool false, .ref s.heap.objs.size, rawInt 0, .none, .none] }) rfl
    rw [hz] at this; exact this
  refine ⟨⟨_, he, rfl⟩, q _ he ⟨_, Heap.get?_push_of_some _ (Heap.get?_push_size _ rfl), rfl, rfl⟩ (by rw [Heap.size_push, hz]) fun b o x => Heap.get?_push_of_some _ (Heap.get?_push_of_some _ x)⟩
end
end L2
namespace L2
open PySem PySem.Spec PyProof.Rows
open HL (W SO Sh Sg OR DE DT DA DS Fn)
def FX (K : PySem.W.Frag) (a : Addr) : It :=
  ⟨fun i H => ∃ xs x, iw K H a xs ∧ xs[i]? = some x, fun i H v H' => ∃ T x, v = .ref T ∧ H T = none ∧ H' = upd H T (.tup [.int (i : Int), x]) ∧ ∀ xs, iw K H a xs → xs[i]? = some x, fun i H => ∃ xs, iw K H a xs ∧ xs.length = i⟩
theorem qN {P : Program} {w : World} {K : PySem.W.Frag} {elts : List Expr} {ctx : Nat} {tp : Pos} (a it e : Addr) (hei : e ≠ it) : yW P w K (.Tuple elts ctx tp) (FX K a) [e, it] e (fun i h => (∃ old, IsEnum h e it i old) ∧ IsTupIter h it a i) where
  mem := by simp
  obj := fun i h st b hb => by
    obtain ⟨⟨old, he⟩, hi⟩ := st
    rcases List.mem_cons.mp hb with z | z
    · subst z
      exact ⟨_, he, fun v z => by have z' : Data.fields _ = Data.cell v := z; cases z'⟩
    · have z := List.mem_singleton.mp z
      subst z
      obtain ⟨o, q, c, d⟩ := hi
      exact ⟨o, q, fun v z => by rw [d] at z; cases z⟩
  keep := fun i h h' st k => ⟨⟨_, k e (by simp) _ st.1.choose_spec⟩, IsTupIter.at' st.2 fun o q => k it (by simp) o q⟩
  item := by
    intro X hP hw hK hc i pins s σ H E I hf st hg
    subst hP hw hK
    obtain ⟨⟨old, he⟩, hit⟩ := st
    obtain ⟨xs, x, hH, hx⟩ := hg
    obtain ⟨its, rv, isl, hz⟩ := I.tuple hH
    obtain ⟨u, hu, ru⟩ := rv.get hx
    have fe := hf e (by simp)
    have fi := hf it (by simp)
    have hu' : its.toArray[i]? = some u := by simpa using hu
    have hlt : i < its.toArray.size := (Array.getElem?_eq_some_iff.mp hu').1
    have tn : ∀ (b : Addr) (n : String), n ≠ "tuple" → (∃ o, s.heap.get? b = some o ∧ o.cls = .type n) → a ≠ b := fun b n hn ⟨o, q, c⟩ z => by
      obtain ⟨o', q', c', _⟩ := isl
      rw [z, q] at q'; cases q'
      rw [c] at c'; injection c' with c'
      exact hn c'
    have hai : a ≠ it := by
      obtain ⟨o, q, c, _⟩ := id hit
      exact tn it "tuple_iterator" (by decide) ⟨o, q, c⟩
    have hae : a ≠ e := tn e "enumerate" (by decide) ⟨_, he, rfl⟩
    refine wpAny_pyNext_enum_itemD (wz (A := X.A.in1) (show X.A.in1.handled = none from I.ok.hd hc) it a hai its.toArray) he ⟨hit, isl⟩ hlt hei (by simp; exact ⟨hei, fun z => hae z.symm⟩) fun x' h' tk hP ho hst' hT hsz hk => ?_
    obtain ⟨hit', isl'⟩ := hst'
    have ex : x' = u := Option.some.inj (hP.symm.trans hu')
    subst ex
    have hel : e < s.heap.objs.size := Heap.lt_size he
    refine ⟨_, rfl, wpAny_letOwnedTupleGo_enum ho fun h2 he2 hs2 => ?_⟩
    have hT2 : h2.get? s.heap.objs.size = some { cls := .type "tuple", data := .seq #[.int i tk, x'] } := (hs2.2 _ (Nat.ne_of_gt hel)).trans hT
    have fr := I.hok.fresh (Nat.le_refl s.heap.objs.size)
    have I2 : av X pins σ (upd H s.heap.objs.size (.tup [.int (i : Int), x])) { s with heap := h2, toks := tk + 1 } := by
      refine I.turnT (t' := tk + 1) fe fi (fun b u hb hb2 z => ?_) (Nat.le_refl _) ?_
      · exact (hs2.2 b hb).trans (hk b u hb hb2 z)
      · exact ⟨by show 2 ≤ sizeLine; decide, [.int i tk, x'], .cons ⟨_, rfl⟩ (.cons ru .nil), ⟨_, hT2, rfl, _, rfl⟩⟩
    refine ⟨.ref s.heap.objs.size, _, I2, rfl, ⟨_, x, rfl, fr, rfl, fun ys hy => ?_⟩, ⟨⟨_, he2⟩, IsTupIter.at' hit' fun o z => (hs2.2 it hei.symm).trans z⟩, fun b hb => ?_⟩
    · rw [I.tuple_inj hy hH]; exact hx
    · have hb' : b ≠ s.heap.objs.size := by
        have : b < s.heap.objs.size := by
          rcases List.mem_cons.mp hb with z | z
          · rw [z]; exact hel
          · rw [List.mem_singleton.mp z]
            obtain ⟨o, q, _⟩ := hit
            exact Heap.lt_size q
        exact Nat.ne_of_lt this
      rw [aH hb']
      exact (hf b hb).1
  done := by
    intro X hP hw hK hc i pins s σ H E I hf st hg
    subst hP hw hK
    obtain ⟨⟨old, he⟩, hit⟩ := st
    obtain ⟨xs, hH, hx⟩ := hg
    obtain ⟨its, rv, isl, hz⟩ := I.tuple hH
    have hai : a ≠ it := fun z => by
      obtain ⟨o, q, c, _⟩ := id hit
      obtain ⟨o', q', c', _⟩ := isl
      rw [z, q] at q'; cases q'
      rw [c] at c'; injection c' with c'
      exact absurd c' (by decide)
    have hn : i = its.toArray.size := by rw [List.size_toArray, ← rv.length]; exact hx.symm
    exact wpAny_pyNext_enum_endD (wz (A := X.A.in1) (show X.A.in1.handled = none from I.ok.hd hc) it a hai its.toArray) he ⟨hn ▸ hit, isl⟩ fun h' eb => ⟨rfl, I.turn2 (t' := s.toks) (hf e (by simp)) (hf it (by simp)) fun b u _ hb2 z => eb b u hb2 z⟩
  self := fun _ _ _ _ _ st h => wpAny_pyIter_enum st.1.choose_spec h
section
variable {X : Cx} {γ : Str → Addr} {a : Expr} {da : DE} {pos : Pos}
def DL (K : PySem.W.Frag) (ta : TA) : TI := fun σ H R => ta σ H fun vs H1 => ∃ l xs, vs = [.ref l] ∧ (H1 l = some (.lst xs) ∧ R (FW l) H1 ∨ iw K H1 l xs ∧ R (FX K l) H1)
theorem vB {elts : List Expr} {ctx : Nat} {tp p : Pos} {ta : TA} (hg : Gl X "enumerate") (hm : X.mg "enumerate" = none) (ha : PA X [a] ta) (hs : starEach [a] X.env = [(false, eval a X.env)] := by rfl) : PI X (.Tuple elts ctx tp) (.Call (.Name "enumerate" p) [a] [] pos) (DL X.K ta) := by
  intro pins s σ H R I h
  refine Call_ (mm I hg hm PyProof.Rows.boot_enumerate (PyProof.Rows.callWith_type1 (cE (ha pos pins s σ H _ I h) fun us s1 ⟨vs, H1, I1, r1, q1⟩ => ?_) hs rfl))
  obtain ⟨l, xs, e, q1⟩ := q1
  subst e
  cases r1 with
  | cons r rr =>
    cases rr
    cases r
    have fp : ∀ b ∈ [s1.heap.objs.size + 1, s1.heap.objs.size], iN X pins H1 b := fun b hb => by
      have hb' : s1.heap.objs.size ≤ b := by
        rcases List.mem_cons.mp hb with z | z
        · rw [z]; exact Nat.le_succ _
        · rw [List.mem_singleton.mp z]; exact Nat.le_refl _
      exact I1.fpOk hb' (I1.hok.fresh hb')
    rcases q1 with ⟨hH, q⟩ | ⟨hH, q⟩
    · obtain ⟨z, its, n, rv, hl, ql⟩ := I1.lstM hH
      refine call_enumerate_1 ql fun h' he hit hsz hk => ?_
      refine wpAny_pyIter_enum he ?_
      exact ⟨s1.heap.objs.size + 1, [s1.heap.objs.size + 1, s1.heap.objs.size], _, _, H1, rfl, I1.kept (t' := s1.toks) hk, tP l s1.heap.objs.size (s1.heap.objs.size + 1) (Nat.succ_ne_self _), ⟨⟨_, he⟩, hit⟩, fp, q⟩
    · obtain ⟨its, rv, isl, hz⟩ := I1.tuple hH
      refine rG isl fun h' he hit hsz hk => ?_
      refine wpAny_pyIter_enum he ?_
      exact ⟨s1.heap.objs.size + 1, [s1.heap.objs.size + 1, s1.heap.objs.size], _, _, H1, rfl, I1.kept (t' := s1.toks) hk, qN l s1.heap.objs.size (s1.heap.objs.size + 1) (Nat.succ_ne_self _), ⟨⟨_, he⟩, hit⟩, fp, q⟩
theorem yE {is : List Nat} {bd : DS} (D : kZ) (σ : St) (H : Hp) (x : eS X.K γ (HL.lL da is bd) D σ H) : Am (DL X.K (eA X.K γ (HL.aa da HL.aj))) (eG X.K γ (HL.jR is)) (eS X.K γ bd) D σ H := by
  obtain ⟨ρ, s, h, S, x⟩ := x
  unfold HL.lL at x
  refine ⟨ρ, s, h, S, ?_⟩
  unfold HL.aa HL.aj
  cases q : da s h with
  | ex => rw [q] at x; exact x.elim
  | er => rw [q] at x; exact x.elim
  | ok v h1 =>
    rw [q] at x
    simp only [HL.R.bind]
    intro ρ1 H1 n1 S1 w1
    have T1 := S.next n1 S1
    cases v with
    | ref p =>
      simp only at x
      cases q1 : h1[p]? with
      | none => rw [q1] at x; exact x.elim
      | some ob =>
        rw [q1] at x
        cases ob with
        | lst ys =>
          simp only at x
          have wp : p < h1.length := w1 _ (List.mem_cons_self ..)
          refine ⟨ρ1 p, ys.map (ay γ ρ1), rfl, .inl ⟨S1.ob p _ q1, ?_⟩⟩
          let St' : Nat → St → Hp → Prop := fun i σ' H' => i ≤ ys.length ∧ ∃ ρ2 s2 h2, o7 X.K γ ρ2 s2 h2 σ' H' ∧ cI h1 ρ1 h2 ρ2 ∧ h2[p]? = some (.lst ys) ∧ bU X.K γ ρ2 h2 (HL.rq p ys is bd i (ys.drop i) s2 h2) D
          refine ⟨fun i m σ' H' => m = ys.length - i ∧ St' i σ' H', ⟨_, rfl, Nat.zero_le _, ρ1, s, h1, T1, cI.refl _ _, q1, bU.later x n1⟩, ?_⟩
          rintro i m σ' H' ⟨rfl, hi, ρ2, s2, h2, T2, n2, st2, g2⟩
          have oH := T2.hp.ob p _ st2
          rw [← n2.ag p wp] at oH
          have oH : H' (ρ1 p) = some (.lst (ys.map (ay γ ρ2))) := oH
          cases e : ys[i]? with
          | none =>
            have hl : ys.length ≤ i := List.getElem?_eq_none_iff.mp e
            rw [List.drop_eq_nil_of_le hl] at g2
            refine .inl ⟨⟨_, oH, by rw [List.length_map]; exact hl⟩, ?_⟩
            have z := g2 ρ2 H' (cI.refl _ _) T2.hp T2.ws
            rw [T2.eq]; exact z
          | some y =>
            obtain ⟨hlt, ey⟩ := List.getElem?_eq_some_iff.mp e
            have e2 : (ys.map (ay γ ρ2))[i]? = some (ay γ ρ2 y) := by rw [List.getElem?_map, e]; rfl
            refine .inr ⟨⟨_, _, oH, e2⟩, St' (i + 1), fun σ3 H3 z => ⟨_, by omega, rfl, z⟩, fun v H3 hv => ?_⟩
            obtain ⟨T, xv, rfl, hT, rfl, hx⟩ := hv
            have ex : xv = ay γ ρ2 y := Option.some.inj ((hx _ oH).symm.trans e2)
            subst ex
            have wy : wf h2.length y := T2.hp.wf p _ st2 y (List.mem_of_getElem? e)
            have wt : xh h2.length (.tup [.int (i : Int), y]) := by
              intro z hz
              rcases List.mem_cons.mp hz with z1 | z1
              · rw [z1]; trivial
              · rw [List.mem_singleton.mp z1]; exact wy
            have S3 : bP X.K γ (mH ρ2 h2.length T) (h2 ++ [.tup [.int (i : Int), y]]) (upd H' T (.tup [.int (i : Int), ay γ ρ2 y])) := T2.hp.push wt (oZ.upd _ hT) hT (.inl (.inl aX))
            have n3 := cI.push h2 ρ2 (.tup [.int (i : Int), y]) T
            have T3 := T2.next n3 S3
            rw [List.drop_eq_getElem_cons hlt, ey] at g2
            unfold HL.rq at g2
            cases q3 : HL.jR is (.ref h2.length) s2 (h2 ++ [.tup [.int (i : Int), y]]) with
            | none => rw [q3] at g2; exact g2.elim
            | some s3 =>
              rw [q3] at g2
              simp only at g2
              refine ⟨mH ρ2 h2.length T, s2, _, .ref h2.length, T3, (congrArg V.ref (eg _ _ _)).symm, (show h2.length < (h2 ++ [_]).length by simp), s3, q3, fun w3 => ⟨mH ρ2 h2.length T, s3, _, ⟨S3, w3, rfl⟩, ?_⟩⟩
              have n23 := n2.trans n3
              cases q4 : bd s3 (h2 ++ [.tup [.int (i : Int), y]]) with
              | nx s4 h4 =>
                rw [q4] at g2
                simp only at g2
                split at g2
                · rename_i st4
                  exact fun ρ4 H4 n4 S4 w4 => ⟨hlt, ρ4, s4, h4, ⟨S4, w4, rfl⟩, n23.trans n4, st4, bU.later (bU.later g2 n3) n4⟩
                · exact g2.elim
              | ct s4 h4 =>
                rw [q4] at g2
                simp only at g2
                split at g2
                · rename_i st4
                  exact fun ρ4 H4 n4 S4 w4 => ⟨hlt, ρ4, s4, h4, ⟨S4, w4, rfl⟩, n23.trans n4, st4, bU.later (bU.later g2 n3) n4⟩
                · exact g2.elim
              | bk s4 h4 => rw [q4] at g2; exact bU.later (c := .bk s4 h4) (D := { D with bk := D.nx }) g2 n3
              | rt v4 h4 => rw [q4] at g2; exact bU.later (c := .rt v4 h4) g2 n3
              | ex => rw [q4] at g2; exact g2.elim
              | er => rw [q4] at g2; exact g2.elim
        | tup ys =>
          simp only at x
          have wp : p < h1.length := w1 _ (List.mem_cons_self ..)
          refine ⟨ρ1 p, ys.map (ay γ ρ1), rfl, .inr ⟨S1.ob p _ q1, ?_⟩⟩
          let St' : Nat → St → Hp → Prop := fun i σ' H' => i ≤ ys.length ∧ ∃ ρ2 s2 h2, o7 X.K γ ρ2 s2 h2 σ' H' ∧ cI h1 ρ1 h2 ρ2 ∧ h2[p]? = some (.tup ys) ∧ bU X.K γ ρ2 h2 (HL.rp p ys is bd i (ys.drop i) s2 h2) D
          refine ⟨fun i m σ' H' => m = ys.length - i ∧ St' i σ' H', ⟨_, rfl, Nat.zero_le _, ρ1, s, h1, T1, cI.refl _ _, q1, bU.later x n1⟩, ?_⟩
          rintro i m σ' H' ⟨rfl, hi, ρ2, s2, h2, T2, n2, st2, g2⟩
          have oH := T2.hp.ob p _ st2
          rw [← n2.ag p wp] at oH
          have oH : iw X.K H' (ρ1 p) (ys.map (ay γ ρ2)) := oH
          cases e : ys[i]? with
          | none =>
            have hl : ys.length ≤ i := List.getElem?_eq_none_iff.mp e
            rw [List.drop_eq_nil_of_le hl] at g2
            refine .inl ⟨⟨_, oH, by rw [List.length_map]; omega⟩, ?_⟩
            have z := g2 ρ2 H' (cI.refl _ _) T2.hp T2.ws
            rw [T2.eq]; exact z
          | some y =>
            obtain ⟨hlt, ey⟩ := List.getElem?_eq_some_iff.mp e
            have e2 : (ys.map (ay γ ρ2))[i]? = some (ay γ ρ2 y) := by rw [List.getElem?_map, e]; rfl
            refine .inr ⟨⟨_, _, oH, e2⟩, St' (i + 1), fun σ3 H3 z => ⟨_, by omega, rfl, z⟩, fun v H3 hv => ?_⟩
            obtain ⟨T, xv, rfl, hT, rfl, hx⟩ := hv
            have ex : xv = ay γ ρ2 y := Option.some.inj ((hx _ oH).symm.trans e2)
            subst ex
            have wy : wf h2.length y := T2.hp.wf p _ st2 y (List.mem_of_getElem? e)
            have wt : xh h2.length (.tup [.int (i : Int), y]) := by
              intro z hz
              rcases List.mem_cons.mp hz with z1 | z1
              · rw [z1]; trivial
              · rw [List.mem_singleton.mp z1]; exact wy
            have S3 : bP X.K γ (mH ρ2 h2.length T) (h2 ++ [.tup [.int (i : Int), y]]) (upd H' T (.tup [.int (i : Int), ay γ ρ2 y])) := T2.hp.push wt (oZ.upd _ hT) hT (.inl (.inl aX))
            have n3 := cI.push h2 ρ2 (.tup [.int (i : Int), y]) T
            have T3 := T2.next n3 S3
            rw [List.drop_eq_getElem_cons hlt, ey] at g2
            unfold HL.rp at g2
            cases q3 : HL.jR is (.ref h2.length) s2 (h2 ++ [.tup [.int (i : Int), y]]) with
            | none => rw [q3] at g2; exact g2.elim
            | some s3 =>
              rw [q3] at g2
              simp only at g2
              refine ⟨mH ρ2 h2.length T, s2, _, .ref h2.length, T3, (congrArg V.ref (eg _ _ _)).symm, (show h2.length < (h2 ++ [_]).length by simp), s3, q3, fun w3 => ⟨mH ρ2 h2.length T, s3, _, ⟨S3, w3, rfl⟩, ?_⟩⟩
              have n23 := n2.trans n3
              cases q4 : bd s3 (h2 ++ [.tup [.int (i : Int), y]]) with
              | nx s4 h4 =>
                rw [q4] at g2
                simp only at g2
                split at g2
                · rename_i st4
                  exact fun ρ4 H4 n4 S4 w4 => ⟨hlt, ρ4, s4, h4, ⟨S4, w4, rfl⟩, n23.trans n4, st4, bU.later (bU.later g2 n3) n4⟩
                · exact g2.elim
              | ct s4 h4 =>
                rw [q4] at g2
                simp only at g2
                split at g2
                · rename_i st4
                  exact fun ρ4 H4 n4 S4 w4 => ⟨hlt, ρ4, s4, h4, ⟨S4, w4, rfl⟩, n23.trans n4, st4, bU.later (bU.later g2 n3) n4⟩
                · exact g2.elim
              | bk s4 h4 => rw [q4] at g2; exact bU.later (c := .bk s4 h4) (D := { D with bk := D.nx }) g2 n3
              | rt v4 h4 => rw [q4] at g2; exact bU.later (c := .rt v4 h4) g2 n3
              | ex => rw [q4] at g2; exact g2.elim
              | er => rw [q4] at g2; exact g2.elim
        | _ => exact x.elim
    | _ => exact x.elim
theorem xP {elts : List Expr} {ctx : Nat} {tp p cpos : Pos} {body : List Stmt} {is : List Nat} {bd : DS} (hp : PassesOwn (model X.prog X.w) X.A X.env X.xe) (hc : X.calm = true) (hg : Gl X "enumerate") (hm : X.mg "enumerate" = none) (ha : QE γ X a da) (ht : QG γ X (.Tuple elts ctx tp) (HL.jR is)) (hb : rL γ X body bd)
    (hs : ∀ x, foldedSetIterable (.Call (.Name "enumerate" p) [a] [] cpos) X.env x = pure x := by intro _; rfl) (h1 : starEach [a] X.env = [(false, eval a X.env)] := by rfl) : QS γ X (.For (.Tuple elts ctx tp) (.Call (.Name "enumerate" p) [a] [] cpos) body [] pos) (HL.lL da is bd) :=
  (vo hp hc (vB hg hm (af ha ak h1) h1) ht hb hs).imp yE
end
end L2
namespace K41
open HL
open PySem (Str)
def cQ : CT := [("MillError", [.gl "MillError", .ty "ValueError"]), ("NoLine", [.gl "NoLine", .gl "MillError", .ty "ValueError"]), ("NoPlace", [.gl "NoPlace", .gl "MillError", .ty "ValueError"]), ("NoSets", [.gl "NoSets", .gl "MillError", .ty "ValueError"]), ("Slow", [.gl "Slow"])]
def iL : List SO := []
def gr : DS := (aI (bD 2 (aE bt (aE bK (dC (.int 7919)) (ae 1)) (dC (.int 11))))
    (aI (fO (dT (aE xl (ae 0) (dB ju aj))) (aI (bD 2 (aE bt (aE bt (ae 2) (aE bK (aE o4 (ae 0) (aE fj (ae 1) (dB fb (aa (ae 0) aj)))) (dC (.int 48271)))) (aE bK (dC (.int 96810)) (ae 1))))
    (bD 2 (aE bt (ae 2) (aE bK (aE fP (ae 1) (dB fb (aa (ae 0) aj))) (dC (.int 7919)))))) ku)
    (aI (bD 3 (aE fj (ae 2) (dC (.int 2147483647))))
    (aI (bD 3 (aE fj (aE bK (ae 3) (ae 3)) (dC (.int 2147483629))))
    (bS (aE fj (aE bt (aE bt (aE bK (ae 3) (ae 3)) (aE bK (dC (.int 69621)) (ae 3))) (ae 1)) (dC (.int 2147483587))))))))
abbrev bh : Fn := fnOf 2 4 gr
def gk : DS := (bS (aE o4 (dB ju (aa (aE fj (ae 0) (dC (.int 65536))) (aa (dC (.int 65535)) (aa (dC (.int 0)) aj)))) (aE fP (aE fj (aE fP (ae 0) (dC (.int 65536))) (dC (.int 9))) (dC (.int 4)))))
abbrev f9 : Fn := fnOf 1 1 gk
def fz : DS := (bS (iJ (cc (ae 2)) 1 [0, 1] (d7 0) kr (aS f9 (aa (aS bh (aa (ae 1) (aa (aE bt (ae 2) (ae 0)) aj))) aj))))
abbrev bY : Fn := fnOf 3 3 fz
def gv : DS := (aI (gW ["Slow"] "cells" (ae 0) (dB bQ (aa (ae 1) aj)))
    (aI (gW ["Slow"] "lines_told" (ae 0) (dC (.int 0)))
    (gW ["Slow"] "lines_put" (ae 0) (dC (.int 0)))))
abbrev eU : Fn := fnOf 2 2 gv
def eH : DS := (aI (fO (dT (aE Dw (aE fj (ae 0) (dC (.int 6))) (dC (.int 0)))) (bS (aE fj (aE fP (ae 0) (dC (.int 6))) (ae 1))) ku)
    (bS (aE o4 (dB ju (aa (ae 1) (aa (aE bt (ae 1) (aE fj (aE fP (ae 0) (dC (.int 60))) (dC (.int 9)))) (aa (aE oI (D9 uk (dC (.int 1))) (aE fj (aE fP (ae 0) (dC (.int 60))) (dC (.int 70)))) (aa (dC (.bl true)) (aa (dC (.bl false)) (aa (dC .non) (aa (dC (.str "0")) (aa (dB qA (aa (dC (.int 1)) aj)) (aa (aE yp (dC (.int 10)) (dC (.int 20))) aj)))))))))) (aE fj (aE fP (ae 0) (dC (.int 6))) (dC (.int 9))))))
abbrev cM : Fn := fnOf 2 2 eH
def fB : DS := (bS (iK (dB (b7 cQ) (aa (ae 0) (aa (dC (.ty "int")) aj))) (iK (oS (dB (b7 cQ) (aa (ae 0) (aa (dC (.ty "bool")) aj)))) (h8 B6 FI (dC (.int 0)) (ae 0) (ae 1)))))
abbrev cB : Fn := fnOf 2 2 fB
def gj : DS := (bS (iK (dB (b7 cQ) (aa (ae 0) (aa (dC (.ty "int")) aj))) (oS (dB (b7 cQ) (aa (ae 0) (aa (dC (.ty "bool")) aj))))))
abbrev f7 : Fn := fnOf 1 1 gj
def gi : DS := (bS (iK (aS f7 (aa (ae 0) aj)) (h8 B6 B6 (ae 1) (ae 0) (ae 2))))
abbrev bN : Fn := fnOf 3 3 gi
def bf : DS := (fO (xi (dZ (dT (aS bN (aa (ae 1) (aa (dC (.int 0)) (aa (aE oI (aE fP (dB fb (aa (e9 ["Slow"] "cells" (ae 0)) aj)) (dC (.int 4))) (dC (.int 1))) aj))))))) (lJ "NoLine" (aa (dC (.str "there is no such line")) aj)) ku)
abbrev ai : Fn := fnOf 2 2 bf
def cY : DS := (aI (eN (bG [("Slow", ai)] "refuse_no_line" (ae 0) (uL (aa (ae 1) aj))))
    (xj (aI (gW ["Slow"] "lines_told" (ae 0) (aE bt (e9 ["Slow"] "lines_told" (ae 0)) (dC (.int 1))))
    (bS (dB bZ (aa (Cc (e9 ["Slow"] "cells" (ae 0)) (cN (aE bK (dC (.int 4)) (ae 1))) (cN (aE bt (aE bK (dC (.int 4)) (ae 1)) (dC (.int 4))))) aj))))))
abbrev bz : Fn := fnOf 2 2 cY
def rZ : List (Str × Fn) := [("Slow", bz)]
def bJ : DS := (aI (eN (bG [("Slow", ai)] "refuse_no_line" (ae 0) (uL (aa (ae 1) aj))))
    (xj (aI (gW ["Slow"] "lines_put" (ae 0) (aE bt (e9 ["Slow"] "lines_put" (ae 0)) (dC (.int 1))))
    (lL (ae 2) [3, 4] (j8 (e9 ["Slow"] "cells" (ae 0)) (aE bt (aE bK (dC (.int 4)) (ae 1)) (ae 3)) (ae 4))))))
abbrev aP : Fn := fnOf 3 5 bJ
def fQ : List (Str × Fn) := [("Slow", aP)]
def dM : DS := (aI (pM (fO (xi (dT (aE vO (ae 2) (dC .non)))) (eN (bG [("Slow", bz)] "four" (ae 0) (uL (aa (ae 1) aj)))) (eN (bG [("Slow", aP)] "put_four" (ae 0) (uL (aa (ae 1) (aa (ae 2) aj)))))) 4 3 ["NoLine"] (bS (iK (dB (b7 cQ) (aa (ae 3) (aa (dC (.gl "MillError")) aj))) (oS (dB (b7 cQ) (aa (ae 3) (aa (dB qA (aa (dC (.gl "NoPlace")) (aa (dC (.gl "NoSets")) aj))) aj)))))))
    (bS (dC (.bl false))))
abbrev bT : Fn := fnOf 3 4 dM
def ck : DS := (aI (bD 3 (bG rZ "four" (ae 0) (aa (ae 1) aj)))
    (aI (bD 4 (dB bZ (aa (Cc (ae 2) (cN (aE bK (dC (.int 4)) (ae 1))) (cN (aE bt (aE bK (dC (.int 4)) (ae 1)) (dC (.int 4))))) aj)))
    (bS (iK (dB (b7 cQ) (aa (ae 3) (aa (dC (.ty "tuple")) aj))) (aE vP (ae 3) (ae 4))))))
abbrev aG : Fn := fnOf 3 5 ck
def fA : DS := (bS (iK (dB (b7 cQ) (aa (ae 0) (aa (dC (.ty "int")) aj))) (iK (oS (dB (b7 cQ) (aa (ae 0) (aa (dC (.ty "bool")) aj)))) (aE vP (ae 0) (ae 1)))))
abbrev bO : Fn := fnOf 2 2 fA
def eJ : DS := (bS (e9 ["Slow"] "lines_put" (ae 0)))
abbrev eF : Fn := fnOf 1 1 eJ
def j4 : List (Str × Fn) := [("Slow", eF)]
def fD : DS := (bS (e9 ["Slow"] "lines_told" (ae 0)))
abbrev fy : Fn := fnOf 1 1 fD
def lD : List (Str × Fn) := [("Slow", fy)]
def fC : DS := (bS (dB bQ (aa (e9 ["Slow"] "cells" (ae 0)) aj)))
abbrev dI : Fn := fnOf 1 1 fC
def jz : List (Str × Fn) := [("Slow", dI)]
def gu : DS := (bS (dB fb (aa (e9 ["Slow"] "cells" (ae 0)) aj)))
abbrev gd : Fn := fnOf 1 1 gu
def rY : List (Str × Fn) := [("Slow", gd)]
def dN : DS := (aI (fO (uM (dZ (dT (aS bO (aa (bG lD "reads" (ae 0) aj) (aa (ae 2) aj))))) (dZ (dT (aS bO (aa (bG j4 "writes" (ae 0) aj) (aa (ae 3) aj)))))) (bS (dC (.bl false))) ku)
    (aI (bD 4 (bG jz "whole" (ae 0) aj))
    (aI (fO (uM (dZ (dT (dB (b7 cQ) (aa (ae 4) (aa (dC (.ty "list")) aj))))) (dT (aE xl (ae 4) (ae 1)))) (bS (dC (.bl false))) ku)
    (aI (eN (Cd kB hV (ae 4) (aa (dC (.int 7)) aj)))
    (aI (j8 (ae 4) (dC (.int 0)) (dC (.int 70000)))
    (bS (iK (aE vP (bG jz "whole" (ae 0) aj) (ae 1)) (aS bO (aa (bG rY "size" (ae 0) aj) (aa (dB fb (aa (ae 1) aj)) aj))))))))))
abbrev cu : Fn := fnOf 4 5 dN
def tH : DS := (aI (bD 1 (aE bt (dC (.int 1)) (aE fj (aS bh (aa (ae 0) (aa (dC (.int 1)) aj))) (dC (.int 16)))))
    (aI (bD 2 (aS bY (aa (ae 0) (aa (dC (.int 100)) (aa (aE bK (dC (.int 4)) (ae 1)) aj)))))
    (aI (bD 3 (aE o4 (dB ju (aa (dB bQ (aa (ae 2) aj)) (aa (dB bZ (aa (ae 2) aj)) aj))) (aE fj (aS bh (aa (ae 0) (aa (dC (.int 2)) aj))) (dC (.int 2)))))
    (aI (bD 4 (rB "Slow" eU [] (aa (ae 3) aj)))
    (aI (fO (dT (dB (b7 cQ) (aa (ae 3) (aa (dC (.ty "list")) aj)))) (j8 (ae 3) (dC (.int 0)) (dC (.int 70001))) ku)
    (aI (bD 5 (dC (.int 0)))
    (aI (bD 6 (dC (.int 0)))
    (aI (qU (cc (dB kM (aa (aE bt (dB fb (aa (ae 0) aj)) (dC (.int 4))) (aa (dC (.int 20)) aj)))) (d7 7) (aI (bD 8 (aS bh (aa (ae 0) (aa (aE bt (dC (.int 20)) (ae 7)) aj))))
    (aI (bD 9 (aS cM (aa (aE fP (ae 8) (dC (.int 3))) (aa (ae 1) aj))))
    (aI (bD 10 (dC .non))
    (aI (fO (dT (aE Dw (aE fj (ae 8) (dC (.int 3))) (dC (.int 0)))) (bD 10 (dB bZ (aa (aS bY (aa (ae 0) (aa (aE bt (dC (.int 200)) (aE bK (dC (.int 4)) (ae 7))) (aa (dC (.int 4)) aj)))) aj))) ku)
    (aI (fO (dZ (dT (aS cB (aa (ae 9) (aa (ae 1) aj))))) (fO (dZ (dT (aS bT (aa (ae 4) (aa (ae 9) (aa (ae 10) aj)))))) (bS (dC (.bl false))) ku) (fO (dT (aE vO (ae 10) (dC .non))) (aI (bD 5 (aE bt (ae 5) (dC (.int 1))))
    (fO (dZ (dT (aS aG (aa (ae 4) (aa (ae 9) (aa (ae 2) aj)))))) (bS (dC (.bl false))) ku)) (aI (bD 6 (aE bt (ae 6) (dC (.int 1))))
    (aI (bD 11 (aE o4 (dB ju (aa (ae 10) (aa (dB bQ (aa (ae 10) aj)) aj))) (aE fj (aE fP (ae 8) (dC (.int 7))) (dC (.int 2)))))
    (aI (fO (dT (aE hJ (bG fQ "put_four" (ae 4) (aa (ae 9) (aa (ae 11) aj))) (dC .non))) (bS (dC (.bl false))) ku)
    (aI (j7 (ae 2) (cN (aE bK (dC (.int 4)) (ae 9))) (cN (aE bt (aE bK (dC (.int 4)) (ae 9)) (dC (.int 4)))) (dB bQ (aa (ae 10) aj)))
    (fO (dT (dB (b7 cQ) (aa (ae 11) (aa (dC (.ty "list")) aj)))) (j8 (ae 11) (dC (.int 0)) (dC (.int 70002))) ku)))))))
    (fO (dZ (dT (aS cu (aa (ae 4) (aa (ae 2) (aa (ae 5) (aa (ae 6) aj))))))) (bS (dC (.bl false))) ku)))))))
    (bS (dB qB (aa (iJ (cc (ae 1)) 1 [2, 4] (d7 0) kr (aS aG (aa (ae 2) (aa (ae 0) (aa (ae 1) aj))))) aj)))))))))))
abbrev tf : Fn := fnOf 1 12 tH
end K41
namespace K41
open HL
open PySem (Str)
def gh : PS := (fY (jH 2 (cX jG (cX lV (pC (.int 7919)) (aQ 1)) (pC (.int 11))))
    (fY (mU (pT (cX (sL true) (aQ 0) (pL (pO oo ei)))) (fY (jH 2 (cX jG (cX jG (aQ 2) (cX lV (cX xU (aQ 0) (cX gZ (aQ 1) (pB pX (aM (aQ 0) ei)))) (pC (.int 48271)))) (cX lV (pC (.int 96810)) (aQ 1))))
    (jH 2 (cX jG (aQ 2) (cX lV (cX ke (aQ 1) (pB pX (aM (aQ 0) ei))) (pC (.int 7919)))))) vx)
    (fY (jH 3 (cX gZ (aQ 2) (pC (.int 2147483647))))
    (fY (jH 3 (cX gZ (cX lV (aQ 3) (aQ 3)) (pC (.int 2147483629))))
    (eP (cX gZ (cX jG (cX jG (cX lV (aQ 3) (aQ 3)) (cX lV (pC (.int 69621)) (aQ 3))) (aQ 1)) (pC (.int 2147483587))))))))
def cq : PF := gM 2 4 gh
theorem gy : Pf bh cq := kX (show Ps gr gh from (nq (pK 2 (aY gQ ((aY kF ((aR _)).b ((ar 1)).b)).b ((aR _)).b))
    (nq (CI (tT ((aY D6 ((ar 0)).b ((Fj (vM cO))).b)).b) (nq (pK 2 (aY gQ ((aY gQ ((ar 2)).b ((aY kF ((aY BL ((ar 0)).b ((aY gf ((ar 1)).b ((uE tB (bb ((ar 0)).b dO))).b)).b)).b ((aR _)).b)).b)).b ((aY kF ((aR _)).b ((ar 1)).b)).b))
    (pK 2 (aY gQ ((ar 2)).b ((aY kF ((aY kJ ((ar 1)).b ((uE tB (bb ((ar 0)).b dO))).b)).b ((aR _)).b)).b))) CH)
    (nq (pK 3 (aY gf ((ar 2)).b ((aR _)).b))
    (nq (pK 3 (aY gf ((aY kF ((ar 3)).b ((ar 3)).b)).b ((aR _)).b))
    (iD (aY gf ((aY gQ ((aY gQ ((aY kF ((ar 3)).b ((ar 3)).b)).b ((aY kF ((aR _)).b ((ar 3)).b)).b)).b ((ar 1)).b)).b ((aR _)).b)))))))
def eZ : PS := (eP (cX xU (pL (pO oo (aM (cX gZ (aQ 0) (pC (.int 65536))) (aM (pC (.int 65535)) (aM (pC (.int 0)) ei))))) (cX ke (cX gZ (cX ke (aQ 0) (pC (.int 65536))) (pC (.int 9))) (pC (.int 4)))))
def bW : PF := gM 1 1 eZ
theorem qE : Pf f9 bW := kX (show Ps gk eZ from (iD (aY BL ((Fj (vM (aK (aY gf ((ar 0)).b ((aR _)).b) (aK (aR _) (aK (aR _) cO)))))).b ((aY kJ ((aY gf ((aY kJ ((ar 0)).b ((aR _)).b)).b ((aR _)).b)).b ((aR _)).b)).b)))
def jT : PS := (iG (lY (dF (aQ 2)) 1 [0, 1] (g7 0) jm (gN bW (aM (gN cq (aM (aQ 1) (aM (cX jG (aQ 2) (aQ 0)) ei))) ei))))
def jI : PF := gM 3 3 jT
theorem jZ : Pf bY jI := kX (show Ps fz jT from (u6 (Bi (vZ (ar 2)) (BF 0) Ak (eu qE (aK (eu gy (aK (ar 1) (aK (aY gQ ((ar 2)).b ((ar 0)).b) cO))) cO)))))
def je : PS := (fY (mU (pT (cX C0 (cX gZ (aQ 0) (pC (.int 6))) (pC (.int 0)))) (eP (cX gZ (cX ke (aQ 0) (pC (.int 6))) (aQ 1))) vx)
    (eP (cX xU (pL (pO oo (aM (aQ 1) (aM (cX jG (aQ 1) (cX gZ (cX ke (aQ 0) (pC (.int 60))) (pC (.int 9)))) (aM (cX xR (B5 xT (pC (.int 1))) (cX gZ (cX ke (aQ 0) (pC (.int 60))) (pC (.int 70)))) (aM (pC (.bl true)) (aM (pC (.bl false)) (aM (pC .non) (aM (pC (.str "0")) (aM (pB qX (aM (pC (.int 1)) ei)) (aM (cX xS (pC (.int 10)) (pC (.int 20))) ei))))))))))) (cX gZ (cX ke (aQ 0) (pC (.int 6))) (pC (.int 9))))))
def gC : PF := gM 2 2 je
theorem m7 : Pf cM gC := kX (show Ps eH je from (nq (CI (tT ((aY D7 ((aY gf ((ar 0)).b ((aR _)).b)).b ((aR _)).b)).b) (iD (aY gf ((aY kJ ((ar 0)).b ((aR _)).b)).b ((ar 1)).b)) CH)
    (iD (aY BL ((Fj (vM (aK (ar 1) (aK (aY gQ ((ar 1)).b ((aY gf ((aY kJ ((ar 0)).b ((aR _)).b)).b ((aR _)).b)).b) (aK (aY D3 ((Fi D5 ((aR _)).b)).b ((aY gf ((aY kJ ((ar 0)).b ((aR _)).b)).b ((aR _)).b)).b) (aK (D0 _) (aK (D0 _) (aK nG (aK (DY _) (aK (DX (aK (aR _) cO)) (aK (aY D4 ((aR _)).b ((aR _)).b) cO)))))))))))).b ((aY gf ((aY kJ ((ar 0)).b ((aR _)).b)).b ((aR _)).b)).b))))
def jV : PS := (eP (jM (pB (pY cQ) (aM (aQ 0) (aM (pC (.ty "int")) ei))) (jM (qZ (pB (pY cQ) (aM (aQ 0) (aM (pC (.ty "bool")) ei)))) (kf EG FJ (pC (.int 0)) (aQ 0) (aQ 1)))))
def fx : PF := gM 2 2 jV
theorem j0 : Pf cB fx := kX (show Ps fB jV from (iD (kE (uE kG (bb ((ar 0)).b (bb ((qk _)).b dO))) (kE (wq (uE kG (bb ((ar 0)).b (bb ((qk _)).b dO)))) (tm (aR _) (ar 0) (ar 1))))))
def kI : PS := (eP (jM (pB (pY cQ) (aM (aQ 0) (aM (pC (.ty "int")) ei))) (qZ (pB (pY cQ) (aM (aQ 0) (aM (pC (.ty "bool")) ei))))))
def kv : PF := gM 1 1 kI
theorem qD : Pf f7 kv := kX (show Ps gj kI from (iD (kE (uE kG (bb ((ar 0)).b (bb ((qk _)).b dO))) (wq (uE kG (bb ((ar 0)).b (bb ((qk _)).b dO)))))))
def kH : PS := (eP (jM (gN kv (aM (aQ 0) ei)) (kf EG EG (aQ 1) (aQ 0) (aQ 2))))
def cW : PF := gM 3 3 kH
theorem qC : Pf bN cW := kX (show Ps gi kH from (iD (kE (eu qD (aK (ar 0) cO)) (tm (ar 1) (ar 0) (ar 2)))))
def jU : PS := (eP (jM (pB (pY cQ) (aM (aQ 0) (aM (pC (.ty "int")) ei))) (jM (qZ (pB (pY cQ) (aM (aQ 0) (aM (pC (.ty "bool")) ei)))) (cX (sL false) (aQ 0) (aQ 1)))))
def jJ : PF := gM 2 2 jU
theorem h9 : Pf bO jJ := kX (show Ps fA jU from (iD (kE (uE kG (bb ((ar 0)).b (bb ((qk _)).b dO))) (kE (wq (uE kG (bb ((ar 0)).b (bb ((qk _)).b dO)))) (aY BM ((ar 0)).b ((ar 1)).b)))))
def jX : PS := (eP (ui ["Slow"] "lines_told" (aQ 0)))
def jL : PF := gM 1 1 jX
theorem oX : Pf fy jL := kX (show Ps fD jX from (iD (tj (ar 0))))
def vn : List (Str × PF) := [("Slow", jL)]
theorem tS : o6 lD vn := (o6.cons oX o6.nil)
def jf : PS := (eP (ui ["Slow"] "lines_put" (aQ 0)))
def jd : PF := gM 1 1 jf
theorem m8 : Pf eF jd := kX (show Ps eJ jf from (iD (tj (ar 0))))
def ub : List (Str × PF) := [("Slow", jd)]
theorem qO : o6 j4 ub := (o6.cons m8 o6.nil)
def jW : PS := (iG (pO vN (aM (ui ["Slow"] "cells" (aQ 0)) ei)))
def jK : PF := gM 1 1 jW
theorem oW : Pf dI jK := kX (show Ps fC jW from (u6 (Bh (bb ((tj (ar 0))).b dO))))
def vk : List (Str × PF) := [("Slow", jK)]
theorem tR : o6 jz vk := (o6.cons oW o6.nil)
def kK : PS := (eP (pB pX (aM (ui ["Slow"] "cells" (aQ 0)) ei)))
def kx : PF := gM 1 1 kK
theorem qF : Pf gd kx := kX (show Ps gu kK from (iD (uE tB (bb ((tj (ar 0))).b dO))))
def xW : List (Str × PF) := [("Slow", kx)]
theorem uS : o6 rY xW := (o6.cons qF o6.nil)
end K41
namespace K41
open PySem L2
seal PS PE PA m9 PT PI PG PW PO
def ni (i : Nat) : Stmt := PySem.Challenge.pw_rowmill_k41_slow_memory.main.body.getD i (.Pass ⟨0, 0, 0, 0⟩)
abbrev fU : Stmt := ni 12
theorem cz : aN ["_law_script", "_law_k", "_law_cell_here", "_law_more"] ["_law_script", "_law_k"] (ah fU) := ⟨rfl, rfl, rfl, by decide +kernel, rfl, by decide +kernel, by decide +kernel⟩
abbrev fT : Stmt := ni 13
theorem nZ : aN ["_law_cell_here"] ["_law_cell_here"] (ah fT) := ⟨rfl, rfl, rfl, by decide +kernel, rfl, by decide +kernel, by decide +kernel⟩
abbrev fq : Stmt := ni 14
theorem mO : aN ["_law_script", "_law_k", "_law_many"] ["_law_script", "_law_k", "_law_many"] (ah fq) := ⟨rfl, rfl, rfl, by decide +kernel, rfl, by decide +kernel, by decide +kernel⟩
abbrev fW : Stmt := fZ (ni 10) 0
theorem oe : aN ["self", "words"] ["self", "words"] (ah fW) := ⟨rfl, rfl, rfl, by decide +kernel, rfl, by decide +kernel, by decide +kernel⟩
abbrev eB : Stmt := ni 15
theorem lH : aN ["_law_cell_here", "_law_lines"] ["_law_cell_here", "_law_lines"] (ah eB) := ⟨rfl, rfl, rfl, by decide +kernel, rfl, by decide +kernel, by decide +kernel⟩
abbrev fu : Stmt := ni 16
theorem mQ : aN ["_law_number_here", "_law_lines"] ["_law_number_here", "_law_lines"] (ah fu) := ⟨rfl, rfl, rfl, by decide +kernel, rfl, by decide +kernel, by decide +kernel⟩
abbrev fS : Stmt := ni 7
theorem nY : aN ["thing"] ["thing"] (ah fS) := ⟨rfl, rfl, rfl, by decide +kernel, rfl, by decide +kernel, by decide +kernel⟩
abbrev fR : Stmt := ni 8
theorem nX : aN ["thing", "low", "high"] ["thing", "low", "high"] (ah fR) := ⟨rfl, rfl, rfl, by decide +kernel, rfl, by decide +kernel, by decide +kernel⟩
abbrev bc : Stmt := fZ (ni 10) 1
theorem dk : aN ["self", "k"] ["self", "k"] (ah bc) := ⟨rfl, rfl, rfl, by decide +kernel, rfl, by decide +kernel, by decide +kernel⟩
abbrev eM : Stmt := fZ (ni 10) 2
theorem jB : aN ["self", "k"] ["self", "k"] (ah eM) := ⟨rfl, rfl, rfl, by decide +kernel, rfl, by decide +kernel, by decide +kernel⟩
abbrev b6 : Stmt := fZ (ni 10) 3
theorem cA : aN ["self", "k", "words", "offset", "word"] ["self", "k", "words"] (ah b6) := ⟨rfl, rfl, rfl, by decide +kernel, rfl, by decide +kernel, by decide +kernel⟩
abbrev dm : Stmt := ni 17
theorem il : aN ["_law_slow", "_law_number_here", "_law_words_here", "e"] ["_law_slow", "_law_number_here", "_law_words_here"] (ah dm) := ⟨rfl, rfl, rfl, by decide +kernel, rfl, by decide +kernel, by decide +kernel⟩
abbrev cb : Stmt := ni 19
theorem cT : aN ["_law_slow", "_law_number_here", "_law_words_here", "_law_found", "_law_due"] ["_law_slow", "_law_number_here", "_law_words_here"] (ah cb) := ⟨rfl, rfl, rfl, by decide +kernel, rfl, by decide +kernel, by decide +kernel⟩
abbrev ft : Stmt := ni 18
theorem mP : aN ["_law_found", "_law_due"] ["_law_found", "_law_due"] (ah ft) := ⟨rfl, rfl, rfl, by decide +kernel, rfl, by decide +kernel, by decide +kernel⟩
abbrev eC : Stmt := fZ (ni 10) 6
theorem lI : aN ["self"] ["self"] (ah eC) := ⟨rfl, rfl, rfl, by decide +kernel, rfl, by decide +kernel, by decide +kernel⟩
abbrev fw : Stmt := fZ (ni 10) 5
theorem mS : aN ["self"] ["self"] (ah fw) := ⟨rfl, rfl, rfl, by decide +kernel, rfl, by decide +kernel, by decide +kernel⟩
abbrev fv : Stmt := fZ (ni 10) 7
theorem mR : aN ["self"] ["self"] (ah fv) := ⟨rfl, rfl, rfl, by decide +kernel, rfl, by decide +kernel, by decide +kernel⟩
abbrev fV : Stmt := fZ (ni 10) 8
theorem n0 : aN ["self"] ["self"] (ah fV) := ⟨rfl, rfl, rfl, by decide +kernel, rfl, by decide +kernel, by decide +kernel⟩
abbrev dq : Stmt := ni 20
theorem ip : aN ["_law_slow", "_law_words_here", "_law_told", "_law_put", "_law_found"] ["_law_slow", "_law_words_here", "_law_told", "_law_put"] (ah dq) := ⟨rfl, rfl, rfl, by decide +kernel, rfl, by decide +kernel, by decide +kernel⟩
abbrev si : Stmt := ni 21
theorem cS : aN ["_law_script", "_law_lines", "_law_words_here", "_law_handed", "_law_slow", "_law_told", "_law_put", "_law_k", "_law_cell_here", "_law_number_here", "_law_four", "_law_given"] ["_law_script"] (ah si) := ⟨rfl, rfl, rfl, by decide +kernel, rfl, by decide +kernel, by decide +kernel⟩
structure Txt (w : World) (K : PySem.W.Frag) (γ : Str → Addr) (mg : Str → Option Value) : Prop where
  pd : mg "all" = none
  jj : mg "bool" = none
  eK : mg "enumerate" = none
  lA : mg "int" = none
  aD : mg "isinstance" = none
  iz : mg "len" = none
  ff : mg "list" = none
  o9 : mg "min" = none
  gU : mg "range" = none
  fo : mg "tuple" = none
  isi : kN K γ cQ
  aL : nN K (γ "Slow")
  jO : Fs K mg "Slow" (γ "Slow")
  qa : mg "MillError" = some (.ref (γ "MillError"))
  vV : mg "NoLine" = some (.ref (γ "NoLine"))
  uv : mg "NoPlace" = some (.ref (γ "NoPlace"))
  vU : mg "NoSets" = some (.ref (γ "NoSets"))
  et : qG K γ ["Slow"] "cells"
  eD : qG K γ ["Slow"] "lines_put"
  dH : qG K γ ["Slow"] "lines_told"
  rz : ∀ c, List.contains (["NoLine"] : List Str) c = true → PySem.W.exmOne K (.ref (γ c)) (.ref (γ "NoLine")) = some true
  gK : y0 K mg "NoLine" (γ "NoLine")
section
variable {P : Program} {w : World} {K : PySem.W.Frag} {mg : Str → Option Value} {base : Heap} {γ : Str → Addr}
theorem oC (T : Txt w K γ mg)  (F : aV K mg "_law_cell" fU) : j2 P w K mg base 1 "_law_cell" ["_law_script", "_law_k"] (dY K γ 2 bh) := by
  refine F.qdef (k := 0) cz rfl rfl (fun _ _ _ _ _ _ us hl => match us, hl with | [_, _], _ => rfl) (bd := gr) fun f cdv A outer s H E hr => ?_
  unfold gr
  exact (aA (sset 2 cz.nd (cZ (cH aw (v 1)) aw))
    (aA (fH (r6 (lN hr) (v 0) (pR ak)) (aA (sset 2 cz.nd (cZ (cZ (v 2) (cH (ix (v 0) (fK (v 1) (mz rfl T.iz (af (v 0) ak)))) aw)) (cH aw (v 1))))
    (aC (sset 2 cz.nd (cZ (v 2) (cH (bH (v 1) (mz rfl T.iz (af (v 0) ak))) aw))))) fh)
    (aA (sset 3 cz.nd (fK (v 2) aw))
    (aA (sset 3 cz.nd (fK (cH (v 3) (v 3)) aw))
    (aC (br (fK (cZ (cZ (cH (v 3) (v 3)) (cH aw (v 3))) (v 1)) aw)))))))
theorem oB (T : Txt w K γ mg)  (F : aV K mg "_law_word" fT) : j2 P w K mg base 1 "_law_word" ["_law_cell_here"] (dY K γ 1 f9) := by
  refine F.qdef (k := 0) nZ rfl rfl (fun _ _ _ _ _ _ us hl => match us, hl with | [_], _ => rfl) (bd := gk) fun f cdv A outer s H E hr => ?_
  unfold gk
  exact (aC (br (ix (pR (af (fK (v 0) aw) (af aw (af aw ak)))) (bH (fK (bH (v 0) aw) aw) aw))))
theorem mV (T : Txt w K γ mg) (iV : j2 P w K mg base 1 "_law_word" ["_law_cell_here"] (dY K γ 1 f9)) (bC : j2 P w K mg base 1 "_law_cell" ["_law_script", "_law_k"] (dY K γ 2 bh)) (F : aV K mg "_law_words" fq) : j2 P w K mg base 2 "_law_words" ["_law_script", "_law_k", "_law_many"] (dY K γ 3 bY) := by
  refine F.qdef (k := 1) mO rfl rfl (fun _ _ _ _ _ _ us hl => match us, hl with | [_, _, _], _ => rfl) (bd := fz) fun f cdv A outer s H E hr => ?_
  unfold fz
  exact (aC (br (vg (cs := ["_law_script", "_law_k"]) (ts := ["_law_j"]) (js := [0, 1]) (wK _ rfl rfl rfl rfl (by decide +kernel) (by decide +kernel) rfl) rfl rfl (kd rfl T.gU (v 2)) (fun _ _ _ => (gn 0 (show List.Nodup (["_law_j", "_law_script", "_law_k"] : List Str) by decide +kernel))) (fun _ _ _ => su) (fun _ _ _ => (bX iV (hr.mono (by decide)) (by rfl) (af (bX bC (hr.mono (by decide)) (by rfl) (af (v 1) (af (cZ (v 2) (v 0)) ak))) ak))))))
theorem oF (T : Txt w K γ mg)  (F : bB K (γ "Slow") "__init__" "Slow.__init__" fW ["self", "words"]) : dQ P w K mg base 1 (γ "Slow") "__init__" ["self", "words"] (dY K γ 2 eU) := by
  refine F.qdef (k := 0) oe rfl rfl (bd := gv) fun f cdv A outer s H E hr => ?_
  unfold gv
  exact (aA (lR T.et (v 0) (my rfl T.ff (af (v 1) ak)))
    (aA (lR T.dH (v 0) aw)
    (aC (lR T.eD (v 0) aw))))
theorem ma (T : Txt w K γ mg)  (F : aV K mg "_law_number" eB) : j2 P w K mg base 1 "_law_number" ["_law_cell_here", "_law_lines"] (dY K γ 2 cM) := by
  refine F.qdef (k := 0) lH rfl rfl (fun _ _ _ _ _ _ us hl => match us, hl with | [_, _], _ => rfl) (bd := eH) fun f cdv A outer s H E hr => ?_
  unfold eH
  exact (aA (fH (Cq (fK (v 0) aw) aw) (aC (br (fK (bH (v 0) aw) (v 1)))) fh)
    (aC (br (ix (pR (af (v 1) (af (cZ (v 1) (fK (bH (v 0) aw) aw)) (af (wU (Ci aw) (fK (bH (v 0) aw) aw)) (af om (af om (af ny (af zm (af (zl (af aw ak)) (af (Ee aw aw) ak)))))))))) (fK (bH (v 0) aw) aw)))))
theorem mX (T : Txt w K γ mg)  (F : aV K mg "_law_there" fu) : j2 P w K mg base 1 "_law_there" ["_law_number_here", "_law_lines"] (dY K γ 2 cB) := by
  refine F.qdef (k := 0) mQ rfl rfl (fun _ _ _ _ _ _ us hl => match us, hl with | [_, _], _ => rfl) (bd := fB) fun f cdv A outer s H E hr => ?_
  unfold fB
  exact (aC (br (jF (iq T.isi rfl T.aD (af (v 0) (af (mT rfl T.lA PyProof.Rows.boot_int) ak))) (jF (sv (iq T.isi rfl T.aD (af (v 0) (af (mT rfl T.jj PyProof.Rows.boot_bool) ak)))) (lS (wN aw (v 0) (v 1)))))))
theorem oA (T : Txt w K γ mg)  (F : aV K mg "is_number" fS) : j2 P w K mg base 1 "is_number" ["thing"] (dY K γ 1 f7) := by
  refine F.qdef (k := 0) nY rfl rfl (fun _ _ _ _ _ _ us hl => match us, hl with | [_], _ => rfl) (bd := gj) fun f cdv A outer s H E hr => ?_
  unfold gj
  exact (aC (br (jF (iq T.isi rfl T.aD (af (v 0) (af (mT rfl T.lA PyProof.Rows.boot_int) ak))) (lS (sv (iq T.isi rfl T.aD (af (v 0) (af (mT rfl T.jj PyProof.Rows.boot_bool) ak))))))))
theorem oz (T : Txt w K γ mg) (iU : j2 P w K mg base 1 "is_number" ["thing"] (dY K γ 1 f7)) (F : aV K mg "is_within" fR) : j2 P w K mg base 2 "is_within" ["thing", "low", "high"] (dY K γ 3 bN) := by
  refine F.qdef (k := 1) nX rfl rfl (fun _ _ _ _ _ _ us hl => match us, hl with | [_, _, _], _ => rfl) (bd := gi) fun f cdv A outer s H E hr => ?_
  unfold gi
  exact (aC (br (jF (bX iU (hr.mono (by decide)) (by rfl) (af (v 0) ak)) (lS (uJ (v 1) (v 0) (v 2))))))
theorem hE (T : Txt w K γ mg) (df : j2 P w K mg base 2 "is_within" ["thing", "low", "high"] (dY K γ 3 bN)) (F : bB K (γ "Slow") "refuse_no_line" "Slow.refuse_no_line" bc ["self", "k"]) : dQ P w K mg base 3 (γ "Slow") "refuse_no_line" ["self", "k"] (dY K γ 2 ai) := by
  refine F.qdef (k := 2) dk rfl rfl (bd := bf) fun f cdv A outer s H E hr => ?_
  unfold bf
  exact (aC (fH (zk (gX (lQ (bX df (hr.mono (by decide)) (by rfl) (af (v 1) (af aw (af (wU (bH (mz rfl T.iz (af (jc T.et (v 0)) ak)) aw) aw) ak))))))) (aC vf) fh))
theorem gD (T : Txt w K γ mg) (df : j2 P w K mg base 2 "is_within" ["thing", "low", "high"] (dY K γ 3 bN)) (F : bB K (γ "Slow") "refuse_no_line" "Slow.refuse_no_line" bc ["self", "k"]) : mF P w K mg base 3 (γ "Slow") "refuse_no_line" ["self", "k"] (uY K γ 2 ai) := by
  refine F.xdef (k := 2) dk rfl rfl (bd := bf) fun f cdv A outer s H E Ψ hr Th => ?_
  unfold bf
  exact (lB (Cg (gX (lQ (bX df (hr.mono (by decide)) (by rfl) (af (v 1) (af aw (af (wU (bH (mz rfl T.iz (af (jc T.et (v 0)) ak)) aw) aw) ak)))))) (lB (xr T.gK (by rfl) rfl rfl Th (af zm ak))) z0))
theorem oG (T : Txt w K γ mg) (au : dQ P w K mg base 3 (γ "Slow") "refuse_no_line" ["self", "k"] (dY K γ 2 ai)) (ax : mF P w K mg base 3 (γ "Slow") "refuse_no_line" ["self", "k"] (uY K γ 2 ai)) (F : bB K (γ "Slow") "four" "Slow.four" eM ["self", "k"]) : dQ P w K mg base 4 (γ "Slow") "four" ["self", "k"] (dY K γ 2 bz) := by
  refine F.qdef (k := 3) jB rfl rfl (bd := cY) fun f cdv A outer s H E hr => ?_
  unfold cY
  exact (aA (gY (iE (cC.cons T.aL au (hr.mono (by decide)) cC.nil) (v 0) (nv (af (v 1) ak))))
    (vd (aA (lR T.dH (v 0) (cZ (jc T.dH (v 0)) aw))
    (aC (br (lq rfl T.fo (af (CW (jc T.et (v 0)) (iZ (cH aw (v 1))) (iZ (cZ (cH aw (v 1)) aw))) ak)))))))
theorem md (T : Txt w K γ mg) (au : dQ P w K mg base 3 (γ "Slow") "refuse_no_line" ["self", "k"] (dY K γ 2 ai)) (ax : mF P w K mg base 3 (γ "Slow") "refuse_no_line" ["self", "k"] (uY K γ 2 ai)) (F : bB K (γ "Slow") "four" "Slow.four" eM ["self", "k"]) : mF P w K mg base 4 (γ "Slow") "four" ["self", "k"] (uY K γ 2 bz) := by
  refine F.xdef (k := 3) jB rfl rfl (bd := cY) fun f cdv A outer s H E Ψ hr Th => ?_
  unfold cY
  exact (rP (gY (iE (cC.cons T.aL au (hr.mono (by decide)) cC.nil) (v 0) (nv (af (v 1) ak)))) (nQ (nP T.aL ax (hr.mono (by decide)) rfl Th (HL.jN _) (v 0) (af (v 1) ak)))
    y7)
theorem kg (T : Txt w K γ mg) (au : dQ P w K mg base 3 (γ "Slow") "refuse_no_line" ["self", "k"] (dY K γ 2 ai)) (ax : mF P w K mg base 3 (γ "Slow") "refuse_no_line" ["self", "k"] (uY K γ 2 ai)) (F : bB K (γ "Slow") "put_four" "Slow.put_four" b6 ["self", "k", "words"]) : dQ P w K mg base 4 (γ "Slow") "put_four" ["self", "k", "words"] (dY K γ 3 aP) := by
  refine F.qdef (k := 3) cA rfl rfl (bd := bJ) fun f cdv A outer s H E hr => ?_
  unfold bJ
  exact (aA (gY (iE (cC.cons T.aL au (hr.mono (by decide)) cC.nil) (v 0) (nv (af (v 1) ak))))
    (vd (aA (lR T.eD (v 0) (cZ (jc T.eD (v 0)) aw))
    (aC (xP PassesOwn.never rfl rfl T.eK (v 2) (Ax (is := [3, 4]) rfl (p8 (pn 3 cA.nd) (p8 (pn 4 cA.nd) xZ))) (aC (oj (v 4) (jc T.et (v 0)) (cZ (cH aw (v 1)) (v 3)))))))))
theorem jq (T : Txt w K γ mg) (au : dQ P w K mg base 3 (γ "Slow") "refuse_no_line" ["self", "k"] (dY K γ 2 ai)) (ax : mF P w K mg base 3 (γ "Slow") "refuse_no_line" ["self", "k"] (uY K γ 2 ai)) (F : bB K (γ "Slow") "put_four" "Slow.put_four" b6 ["self", "k", "words"]) : mF P w K mg base 4 (γ "Slow") "put_four" ["self", "k", "words"] (uY K γ 3 aP) := by
  refine F.xdef (k := 3) cA rfl rfl (bd := bJ) fun f cdv A outer s H E Ψ hr Th => ?_
  unfold bJ
  exact (rP (gY (iE (cC.cons T.aL au (hr.mono (by decide)) cC.nil) (v 0) (nv (af (v 1) ak)))) (nQ (nP T.aL ax (hr.mono (by decide)) rfl Th (HL.jN _) (v 0) (af (v 1) ak)))
    y7)
theorem kP (T : Txt w K γ mg) (dg : dQ P w K mg base 4 (γ "Slow") "four" ["self", "k"] (dY K γ 2 bz)) (gH : mF P w K mg base 4 (γ "Slow") "four" ["self", "k"] (uY K γ 2 bz)) (aZ : dQ P w K mg base 4 (γ "Slow") "put_four" ["self", "k", "words"] (dY K γ 3 aP)) (dW : mF P w K mg base 4 (γ "Slow") "put_four" ["self", "k", "words"] (uY K γ 3 aP)) (F : aV K mg "_law_refused" dm) : j2 P w K mg base 5 "_law_refused" ["_law_slow", "_law_number_here", "_law_words_here"] (dY K γ 3 bT) := by
  refine F.qdef (k := 4) il rfl rfl (fun _ _ _ _ _ _ us hl => match us, hl with | [_, _, _], _ => rfl) (bd := dM) fun f cdv A outer s H E hr => ?_
  unfold dM
  exact (aA (xO (cs := ["NoLine"]) ⟨rfl, rfl⟩ rfl T.vV il.nd rfl rfl (Or.inl rfl) (.inl rfl) (fun _ => (aC (fH (zk (Al (v 2) ny)) (aC (gY (iE (cC.cons T.aL dg (hr.mono (by decide)) cC.nil) (v 0) (nv (af (v 1) ak))))) (aC (gY (iE (cC.cons T.aL aZ (hr.mono (by decide)) cC.nil) (v 0) (nv (af (v 1) (af (v 2) ak))))))))) (fun _ _ _ Th => (lB (Cg (Al (v 2) ny) (lB (nQ (nP T.aL gH (hr.mono (by decide)) rfl Th (HL.jN _) (v 0) (af (v 1) ak)))) (lB (nQ (nP T.aL dW (hr.mono (by decide)) rfl Th (HL.jN _) (v 0) (af (v 1) (af (v 2) ak)))))))) (fun _ => (aC (br (jF (iq T.isi rfl T.aD (af (v 3) (af (qW rfl T.qa) ak))) (lS (sv (iq T.isi rfl T.aD (af (v 3) (af (zl (af (qW rfl T.uv) (af (qW rfl T.vU) ak))) ak))))))))) T.rz)
    (aC (br om)))
theorem jo (T : Txt w K γ mg) (dg : dQ P w K mg base 4 (γ "Slow") "four" ["self", "k"] (dY K γ 2 bz)) (F : aV K mg "_law_line_right" cb) : j2 P w K mg base 5 "_law_line_right" ["_law_slow", "_law_number_here", "_law_words_here"] (dY K γ 3 aG) := by
  refine F.qdef (k := 4) cT rfl rfl (fun _ _ _ _ _ _ us hl => match us, hl with | [_, _, _], _ => rfl) (bd := ck) fun f cdv A outer s H E hr => ?_
  unfold ck
  exact (aA (sset 3 cT.nd (iE (cC.cons T.aL dg (hr.mono (by decide)) cC.nil) (v 0) (af (v 1) ak)))
    (aA (sset 4 cT.nd (lq rfl T.fo (af (CW (v 2) (iZ (cH aw (v 1))) (iZ (cZ (cH aw (v 1)) aw))) ak)))
    (aC (br (jF (iq T.isi rfl T.aD (af (v 3) (af (mT rfl T.fo PyProof.Rows.boot_tuple) ak))) (lS (BR (lN hr) (v 3) (v 4))))))))
theorem mW (T : Txt w K γ mg)  (F : aV K mg "_law_whole" ft) : j2 P w K mg base 1 "_law_whole" ["_law_found", "_law_due"] (dY K γ 2 bO) := by
  refine F.qdef (k := 0) mP rfl rfl (fun _ _ _ _ _ _ us hl => match us, hl with | [_, _], _ => rfl) (bd := fA) fun f cdv A outer s H E hr => ?_
  unfold fA
  exact (aC (br (jF (iq T.isi rfl T.aD (af (v 0) (af (mT rfl T.lA PyProof.Rows.boot_int) ak))) (jF (sv (iq T.isi rfl T.aD (af (v 0) (af (mT rfl T.jj PyProof.Rows.boot_bool) ak)))) (lS (BR (lN hr) (v 0) (v 1)))))))
theorem mf (T : Txt w K γ mg)  (F : bB K (γ "Slow") "writes" "Slow.writes" eC ["self"]) : dQ P w K mg base 1 (γ "Slow") "writes" ["self"] (dY K γ 1 eF) := by
  refine F.qdef (k := 0) lI rfl rfl (bd := eJ) fun f cdv A outer s H E hr => ?_
  unfold eJ
  exact (aC (br (jc T.eD (v 0))))
theorem mZ (T : Txt w K γ mg)  (F : bB K (γ "Slow") "reads" "Slow.reads" fw ["self"]) : dQ P w K mg base 1 (γ "Slow") "reads" ["self"] (dY K γ 1 fy) := by
  refine F.qdef (k := 0) mS rfl rfl (bd := fD) fun f cdv A outer s H E hr => ?_
  unfold fD
  exact (aC (br (jc T.dH (v 0))))
theorem mY (T : Txt w K γ mg)  (F : bB K (γ "Slow") "whole" "Slow.whole" fv ["self"]) : dQ P w K mg base 1 (γ "Slow") "whole" ["self"] (dY K γ 1 dI) := by
  refine F.qdef (k := 0) mR rfl rfl (bd := fC) fun f cdv A outer s H E hr => ?_
  unfold fC
  exact (aC (br (my rfl T.ff (af (jc T.et (v 0)) ak))))
theorem oE (T : Txt w K γ mg)  (F : bB K (γ "Slow") "size" "Slow.size" fV ["self"]) : dQ P w K mg base 1 (γ "Slow") "size" ["self"] (dY K γ 1 gd) := by
  refine F.qdef (k := 0) n0 rfl rfl (bd := gu) fun f cdv A outer s H E hr => ?_
  unfold gu
  exact (aC (br (mz rfl T.iz (af (jc T.et (v 0)) ak))))
theorem kQ (T : Txt w K γ mg) (dS : j2 P w K mg base 1 "_law_whole" ["_law_found", "_law_due"] (dY K γ 2 bO)) (gI : dQ P w K mg base 1 (γ "Slow") "writes" ["self"] (dY K γ 1 eF)) (ik : dQ P w K mg base 1 (γ "Slow") "reads" ["self"] (dY K γ 1 fy)) (fE : dQ P w K mg base 1 (γ "Slow") "whole" ["self"] (dY K γ 1 dI)) (iW : dQ P w K mg base 1 (γ "Slow") "size" ["self"] (dY K γ 1 gd)) (F : aV K mg "_law_counted" dq) : j2 P w K mg base 2 "_law_counted" ["_law_slow", "_law_words_here", "_law_told", "_law_put"] (dY K γ 4 cu) := by
  refine F.qdef (k := 1) ip rfl rfl (fun _ _ _ _ _ _ us hl => match us, hl with | [_, _, _, _], _ => rfl) (bd := dN) fun f cdv A outer s H E hr => ?_
  unfold dN
  exact (aA (fH (CU (zj (gX (lQ (bX dS (hr.mono (by decide)) (by rfl) (af (jE (cC.cons T.aL ik (hr.mono (by decide)) cC.nil) (v 0)) (af (v 2) ak))))) (vc (gX (lQ (bX dS (hr.mono (by decide)) (by rfl) (af (jE (cC.cons T.aL gI (hr.mono (by decide)) cC.nil) (v 0)) (af (v 3) ak)))))))) (aC (br om)) fh)
    (aA (sset 4 ip.nd (jE (cC.cons T.aL fE (hr.mono (by decide)) cC.nil) (v 0)))
    (aA (fH (CU (zj (gX (lQ (iq T.isi rfl T.aD (af (v 4) (af (mT rfl T.ff PyProof.Rows.boot_list) ak))))) (vc (r6 (lN hr) (v 4) (v 1))))) (aC (br om)) fh)
    (aA (gY (vh (v 4) aw))
    (aA (oj aw (v 4) aw)
    (aC (br (jF (BR (lN hr) (jE (cC.cons T.aL fE (hr.mono (by decide)) cC.nil) (v 0)) (v 1)) (lS (bX dS (hr.mono (by decide)) (by rfl) (af (jE (cC.cons T.aL iW (hr.mono (by decide)) cC.nil) (v 0)) (af (mz rfl T.iz (af (v 1) ak)) ak))))))))))))
theorem Bf (T : Txt w K γ mg) {ρ : Nat → Addr} (C : jx K γ ρ iL) (bC : ∀ base, j2 P w K mg base 1 "_law_cell" ["_law_script", "_law_k"] (dY K γ 2 bh)) (cD : ∀ base, j2 P w K mg base 2 "_law_words" ["_law_script", "_law_k", "_law_many"] (dY K γ 3 bY)) (fc : ∀ base, dQ P w K mg base 1 (γ "Slow") "__init__" ["self", "words"] (dY K γ 2 eU)) (cP : ∀ base, j2 P w K mg base 1 "_law_number" ["_law_cell_here", "_law_lines"] (dY K γ 2 cM)) (dU : ∀ base, j2 P w K mg base 1 "_law_there" ["_law_number_here", "_law_lines"] (dY K γ 2 cB)) (cw : ∀ base, j2 P w K mg base 5 "_law_refused" ["_law_slow", "_law_number_here", "_law_words_here"] (dY K γ 3 bT)) (bq : ∀ base, j2 P w K mg base 5 "_law_line_right" ["_law_slow", "_law_number_here", "_law_words_here"] (dY K γ 3 aG)) (aZ : ∀ base, dQ P w K mg base 4 (γ "Slow") "put_four" ["self", "k", "words"] (dY K γ 3 aP)) (cy : ∀ base, j2 P w K mg base 2 "_law_counted" ["_law_slow", "_law_words_here", "_law_told", "_law_put"] (dY K γ 4 cu)) (F : aV K mg "law" si) (good : ∀ ns : List Int, ns.length ≤ 63 → ∃ h', tf [.ref iL.length] (iL ++ [.rol (ns.map HL.W.int)]) = .ok (.bl true) h') : xb P w K mg 6 := by
  refine F.qlaw (k := 5) (γ := γ) cS rfl C (fun _ _ _ _ _ _ us hl => match us, hl with | [_], _ => rfl) (bd := tH) (fun base f cdv A outer s H E hr => ?_) good
  replace bC := bC base
  replace cD := cD base
  replace fc := fc base
  replace cP := cP base
  replace dU := dU base
  replace cw := cw base
  replace bq := bq base
  replace aZ := aZ base
  replace cy := cy base
  unfold tH
  exact (aA (sset 1 cS.nd (cZ aw (fK (bX bC (hr.mono (by decide)) (by rfl) (af (v 0) (af aw ak))) aw)))
    (aA (sset 2 cS.nd (bX cD (hr.mono (by decide)) (by rfl) (af (v 0) (af aw (af (cH aw (v 1)) ak)))))
    (aA (sset 3 cS.nd (ix (pR (af (my rfl T.ff (af (v 2) ak)) (af (lq rfl T.fo (af (v 2) ak)) ak))) (fK (bX bC (hr.mono (by decide)) (by rfl) (af (v 0) (af aw ak))) aw)))
    (aA (sset 4 cS.nd (CY (vR T.jO fc (hr.mono (by decide))) (by rfl) (af (v 3) ak)))
    (aA (fH (lQ (iq T.isi rfl T.aD (af (v 3) (af (mT rfl T.ff PyProof.Rows.boot_list) ak)))) (aC (oj aw (v 3) aw)) fh)
    (aA (sset 5 cS.nd aw)
    (aA (sset 6 cS.nd aw)
    (aA (Aw PassesOwn.never rfl (kd rfl T.gU (DV rfl rfl T.o9 (af (cZ (mz rfl T.iz (af (v 0) ak)) aw) (af aw ak)))) (gn 7 cS.nd) (aA (sset 8 cS.nd (bX bC (hr.mono (by decide)) (by rfl) (af (v 0) (af (cZ aw (v 7)) ak))))
    (aA (sset 9 cS.nd (bX cP (hr.mono (by decide)) (by rfl) (af (bH (v 8) aw) (af (v 1) ak))))
    (aA (sset 10 cS.nd ny)
    (aA (fH (Cq (fK (v 8) aw) aw) (aC (sset 10 cS.nd (lq rfl T.fo (af (bX cD (hr.mono (by decide)) (by rfl) (af (v 0) (af (cZ aw (cH aw (v 7))) (af aw ak)))) ak)))) fh)
    (aA (fH (gX (lQ (bX dU (hr.mono (by decide)) (by rfl) (af (v 9) (af (v 1) ak))))) (aC (fH (gX (lQ (bX cw (hr.mono (by decide)) (by rfl) (af (v 4) (af (v 9) (af (v 10) ak)))))) (aC (br om)) fh)) (aC (fH (Al (v 10) ny) (aA (sset 5 cS.nd (cZ (v 5) aw))
    (aC (fH (gX (lQ (bX bq (hr.mono (by decide)) (by rfl) (af (v 4) (af (v 9) (af (v 2) ak)))))) (aC (br om)) fh))) (aA (sset 6 cS.nd (cZ (v 6) aw))
    (aA (sset 11 cS.nd (ix (pR (af (v 10) (af (my rfl T.ff (af (v 10) ak)) ak))) (fK (bH (v 8) aw) aw)))
    (aA (fH (xC (iE (cC.cons T.aL aZ (hr.mono (by decide)) cC.nil) (v 4) (af (v 9) (af (v 11) ak))) ny) (aC (br om)) fh)
    (aA (ve (my rfl T.ff (af (v 10) ak)) (v 2) (iZ (cH aw (v 9))) (iZ (cZ (cH aw (v 9)) aw)))
    (aC (fH (lQ (iq T.isi rfl T.aD (af (v 11) (af (mT rfl T.ff PyProof.Rows.boot_list) ak)))) (aC (oj aw (v 11) aw)) fh)))))))))
    (aC (fH (gX (lQ (bX cy (hr.mono (by decide)) (by rfl) (af (v 4) (af (v 2) (af (v 5) (af (v 6) ak))))))) (aC (br om)) fh))))))))
    (aC (br (DW rfl rfl T.pd (af (vg (cs := ["_law_words_here", "_law_slow"]) (ts := ["_law_number_here"]) (js := [2, 4]) (wK _ rfl rfl rfl rfl (by decide +kernel) (by decide +kernel) rfl) rfl rfl (kd rfl T.gU (v 1)) (fun _ _ _ => (gn 0 (show List.Nodup (["_law_number_here", "_law_words_here", "_law_slow"] : List Str) by decide +kernel))) (fun _ _ _ => su) (fun _ _ _ => (bX bq (hr.mono (by decide)) (by rfl) (af (v 2) (af (v 0) (af (v 1) ak)))))) ak))))))))))))
theorem all (T : Txt w K γ mg) {ρ : Nat → Addr} (C : jx K γ ρ iL) (iR : aV K mg "_law_cell" fU) (iQ : aV K mg "_law_word" fT) (ia : aV K mg "_law_words" fq) (iT : bB K (γ "Slow") "__init__" "Slow.__init__" fW ["self", "words"]) (gF : aV K mg "_law_number" eB) (ie : aV K mg "_law_there" fu) (iP : aV K mg "is_number" fS) (iO : aV K mg "is_within" fR) (bI : bB K (γ "Slow") "refuse_no_line" "Slow.refuse_no_line" bc ["self", "k"]) (gz : bB K (γ "Slow") "four" "Slow.four" eM ["self", "k"]) (cR : bB K (γ "Slow") "put_four" "Slow.put_four" b6 ["self", "k", "words"]) (fM : aV K mg "_law_refused" dm) (dR : aV K mg "_law_line_right" cb) (ib : aV K mg "_law_whole" ft) (gG : bB K (γ "Slow") "writes" "Slow.writes" eC ["self"]) (ij : bB K (γ "Slow") "reads" "Slow.reads" fw ["self"]) (ig : bB K (γ "Slow") "whole" "Slow.whole" fv ["self"]) (iS : bB K (γ "Slow") "size" "Slow.size" fV ["self"]) (fN : aV K mg "_law_counted" dq) (xc : aV K mg "law" si) (good : ∀ ns : List Int, ns.length ≤ 63 → ∃ h', tf [.ref iL.length] (iL ++ [.rol (ns.map HL.W.int)]) = .ok (.bl true) h') : xb P w K mg 6 := by
  have bC := fun base => oC (base := base) (P := P) T  iR
  have iV := fun base => oB (base := base) (P := P) T  iQ
  have cD := fun base => mV (base := base) (P := P) T (iV base) (bC base) ia
  have fc := fun base => oF (base := base) (P := P) T  iT
  have cP := fun base => ma (base := base) (P := P) T  gF
  have dU := fun base => mX (base := base) (P := P) T  ie
  have iU := fun base => oA (base := base) (P := P) T  iP
  have df := fun base => oz (base := base) (P := P) T (iU base) iO
  have au := fun base => hE (base := base) (P := P) T (df base) bI
  have ax := fun base => gD (base := base) (P := P) T (df base) bI
  have dg := fun base => oG (base := base) (P := P) T (au base) (ax base) gz
  have gH := fun base => md (base := base) (P := P) T (au base) (ax base) gz
  have aZ := fun base => kg (base := base) (P := P) T (au base) (ax base) cR
  have dW := fun base => jq (base := base) (P := P) T (au base) (ax base) cR
  have cw := fun base => kP (base := base) (P := P) T (dg base) (gH base) (aZ base) (dW base) fM
  have bq := fun base => jo (base := base) (P := P) T (dg base) dR
  have dS := fun base => mW (base := base) (P := P) T  ib
  have gI := fun base => mf (base := base) (P := P) T  gG
  have ik := fun base => mZ (base := base) (P := P) T  ij
  have fE := fun base => mY (base := base) (P := P) T  ig
  have iW := fun base => oE (base := base) (P := P) T  iS
  have cy := fun base => kQ (base := base) (P := P) T (dS base) (gI base) (ik base) (fE base) (iW base) fN
  exact Bf T C bC cD fc cP dU cw bq aZ cy xc good
end
end K41
namespace K41
open HL
local macro_rules | `(tactic| simp! only [$ls,*]) => `(tactic| simp only [gM, cF, fY, jH, mU, eP, vw, vx, C5, C4, C3, zt, iG, vt, vy, zu, frz, zr, zw, vq, zv, cX, B5, aQ, Di, pC, pT, nz, zo, uc, jm, jM, FG, qZ, FH, kf, pB, pO, pL, ei, aM, gN, vK, vJ, Df, FF, sS, zz, lY, m3, zx, dF, p7, g7, zy, lg, RF.val, oo, qX, gT, pI, pH, pG, qc, qb, pA, rT, pE, pD, pz, px, wR, List.isEmpty_cons, List.isEmpty_nil, lU, dE, lT, cJ, iF, sA, sC, sG, sH, oq, sI, sF, sE, sD, pV, pW, pU, List.map_cons, List.map_nil, List.length_cons, List.length_nil, List.getElem?_cons_zero, List.getElem?_cons_succ, List.getElem?_nil, List.set_cons_zero, List.set_cons_succ, List.replicate, List.cons_append, List.nil_append, List.append_nil, Option.bind_some, Option.map_some, Option.bind_none, Option.map_none, Option.getD_some, if_true, if_false, Nat.reduceSub, Nat.reduceAdd, Nat.reduceLeDiff, Nat.reduceLT, Int.reduceLT, Int.reduceLE, Bool.not_true, Bool.not_false, Bool.false_eq_true, bne_self_eq_false, Bool.bne_true, Bool.bne_false, Bool.true_bne, Bool.false_bne, decide_eq_true_eq, reduceIte, reduceCtorEq, zW, zV, zU, zT, zS, zR, zQ, zP, zO, zN, wX, wW, $ls,*])
open PySem (Str)
theorem aW {g : P → P → Option P} {a b : PE} {δ : Dl} {x y r : P} (h : a δ = some x) (h2 : b δ = some y) (k : g x y = some r) : cX g a b δ = some r := by unfold cX; rw [h]; simp only [Option.bind_some]; rw [h2]; exact k
theorem j9 {e : PE} {δ : Dl} {p : P} (h : e δ = some p) : eP e δ = .rt p := by unfold eP; rw [h]
theorem DH {t : PT} {a b : PS} {δ : Dl} {r : RS} (h : t δ = some true) (k : a δ = r) : mU t a b δ = r := by unfold mU; rw [h]; exact k
theorem DJ {t : PT} {a b : PS} {δ : Dl} {r : RS} (h : t δ = some false) (k : b δ = r) : mU t a b δ = r := by unfold mU; rw [h]; exact k
theorem ky {e : PE} {δ : Dl} {p : P} {b : Bool} (h : e δ = some p) (k : mK p = some b) : pT e δ = some b := by unfold pT; rw [h]; exact k
theorem zB {s t : PT} {δ : Dl} {b : Bool} (h1 : s δ = some false) (h2 : t δ = some b) : uc s t δ = some b := by unfold uc; rw [h1]; exact h2
theorem not_of {s : PT} {δ : Dl} {b : Bool} (h1 : s δ = some b) : nz s δ = some (!b) := by unfold nz; rw [h1]; rfl
theorem cj {g : PF} {a : PA} {δ : Dl} {xs : List P} {r : RF} (h : a δ = some xs) (k : g xs = some r) : gN g a δ = some r.val := by unfold gN; rw [h]; simp only [Option.bind_some]; rw [k]; rfl
theorem bp {a : PE} {r : PA} {δ : Dl} {x : P} {xs : List P} (h : a δ = some x) (k : r δ = some xs) : aM a r δ = some (x :: xs) := by unfold aM; rw [h, k]; rfl
theorem Dj {g : List P → Option P} {a : PA} {δ : Dl} {xs : List P} {r : P} (h : a δ = some xs) (k : g xs = some r) : pB g a δ = some r := by unfold pB; rw [h]; exact k
theorem Dh {o : Dl → Option (List P)} {δ : Dl} {xs : List P} (e : o δ = some xs) : pL o δ = some (.lst xs) := by unfold pL; rw [e]; rfl
theorem Dg {g : List P → Option (List P)} {a : PA} {δ : Dl} {xs r : List P} (h : a δ = some xs) (k : g xs = some r) : pO g a δ = some r := by unfold pO; rw [h]; exact k
theorem jn {a b : PE} {δ : Dl} {r : P} (h : a δ = some (.bl true)) (k : b δ = some r) : jM a b δ = some r := by unfold jM; rw [h]; exact k
theorem AW {a b : PE} {δ : Dl} (h : a δ = some (.bl false)) : jM a b δ = some (.bl false) := by unfold jM; rw [h]; rfl
theorem C6 : xS (.int 10) (.int 20) = some (.int ((10 : Int) ^ 20)) := rfl
theorem vz : (1000 : Int) ≤ (10 : Int) ^ 20 := by decide
def wJ (ns : List Int) (k : Int) : Int := if ns = [] then 7919 * k + 11 else 7919 * k + 11 + ns.getD (k % ns.length).toNat 0 * 48271 + 96810 * k + k / ns.length * 7919
theorem lz (ns : List Int) (k : Int) (hl : ns.length ≤ 63) (h0 : 0 ≤ k) (h1 : k ≤ 100000000) : ∃ v : Int, cq [.rol (ns.map .int), .int k] = some (.v (.int v)) ∧ 0 ≤ v := by
  refine ⟨Bs (wJ ns k) k, ?_, Int.emod_nonneg _ (by decide)⟩
  have c1 : ∀ x : Int, eQ 7919 x = true := fun x => hR (by decide)
  have c2 : ∀ x : Int, eQ x 48271 = true := fun x => sT (by decide)
  have c3 : ∀ x : Int, eQ 96810 x = true := fun x => hR (by decide)
  have c4 : ∀ x : Int, eQ x 7919 = true := fun x => sT (by decide)
  have c5 : ∀ x : Int, eQ 69621 x = true := fun x => hR (by decide)
  have c6 : ∀ x : Int, eQ (x % 2147483647) (x % 2147483647) = true := fun x => hR (by omega)
  have c7 : ∀ x : Int, eQ (x % 2147483629) (x % 2147483629) = true := fun x => hR (by omega)
  by_cases hn : ns = []
  · subst hn
    have q0 := sJ true []
    simp only [List.map_nil, decide_true] at q0
    simp! only [cq, gh, c1, c2, c3, c4, c5, c6, c7, q0, decide_true, bne_self_eq_false]
    simp only [wJ, Bs, if_true]
  · have hp : 0 < ns.length := List.length_pos_iff.mpr hn
    have hp' : (0 : Int) < (ns.length : Int) := by omega
    have hp2 : (ns.length : Int) < 1073741824 := by omega
    have hm0 : 0 ≤ k % (ns.length : Int) := Int.emod_nonneg _ (by omega)
    have hm1 : k % (ns.length : Int) < ns.length := Int.emod_lt_of_pos _ (by omega)
    simp! only [cq, gh, c1, c2, c3, c4, c5, c6, c7, sJ, hn, List.length_map, hp', hp2, wV _ _ hm0 hm1, decide_false]
    simp only [wJ, Bs, hn, if_false]
theorem xt (v : Int) (h0 : 0 ≤ v) : ∃ x : Int, bW [.int v] = some (.v (.int x)) := by
  have d : v / 65536 % 9 / 4 = 0 ∨ v / 65536 % 9 / 4 = 1 ∨ v / 65536 % 9 / 4 = 2 := by omega
  rcases d with d | d | d
  · exact ⟨v % 65536, by simp! only [bW, eZ, d]⟩
  · exact ⟨65535, by simp! only [bW, eZ, d]⟩
  · exact ⟨0, by simp! only [bW, eZ, d]⟩
theorem Gb {a : PE} {δ : Dl} {j : Int} (b : -(2 ^ 62) ≤ j ∧ j < 2 ^ 62) (e : a δ = some (.int j)) : dF a δ = some (jl 0 j.toNat) := by
  unfold dF
  rw [e]
  simp only [b, and_self, if_true]
theorem Gd {a : PE} {δ : Dl} {n : Nat} (b : n ≤ 1000) (e : a δ = some (.int (n : Int))) : dF a δ = some (jl 0 n) :=
  (Gb (by omega) e).trans (congrArg (fun m => some (jl 0 m)) (Int.toNat_natCast n))
def fG (ns : List Int) : P := .rol (ns.map .int)
theorem qv {p : Nat → Int → Prop} : ∀ n : Nat, (∀ j, j < n → ∃ x, p j x) → ∃ f : Nat → Int, ∀ j, j < n → p j (f j) := fun n h =>
  ⟨fun j => if q : j < n then (h j q).choose else 0, fun j q => by simp only [q, dif_pos]; exact (h j q).choose_spec⟩
theorem ph (ns : List Int) (hl : ns.length ≤ 63) (k : Int) (k0 : 0 ≤ k) (k1 : k ≤ 1000) (n : Nat) (hn : n ≤ 100) : ∃ ws : List Int, jI [fG ns, .int k, .int n] = some (.o (ws.map .int)) ∧ ws.length = n := by
  obtain ⟨f, hf⟩ := qv (p := fun j x => gN bW (aM (gN cq (aM (aQ 1) (aM (cX jG (aQ 2) (aQ 0)) ei))) ei) [.val (.int (0 + (j : Int))), .val (fG ns), .val (.int k)] = some (.int x)) n (fun j hj => by
    obtain ⟨v, hv, v0⟩ := lz ns (k + (0 + (j : Int))) hl (by omega) (by omega)
    obtain ⟨x, hx⟩ := xt v v0
    exact ⟨x, cj (r := .v (.int x)) (bp (cj (r := .v (.int v)) (bp rfl (bp (aW rfl rfl (dE _ _)) rfl)) hv) rfl) hx⟩)
  refine ⟨(List.range n).map f, ?_, by rw [List.length_map, List.length_range]⟩
  have cm : (lY (dF (aQ 2)) 1 [0, 1] (g7 0) jm (gN bW (aM (gN cq (aM (aQ 1) (aM (cX jG (aQ 2) (aQ 0)) ei))) ei))) [.val (fG ns), .val (.int k), .val (.int n)] = some (((List.range n).map f).map P.int) := by
    unfold lY
    rw [Gd (by omega) (show aQ 2 [.val (fG ns), .val (.int k), .val (.int n)] = some (.int (n : Int)) from rfl)]
    show jh (g7 0) jm _ (jl 0 n) (.no :: [.val (fG ns), .val (.int k)]) [] = _
    unfold jl
    rw [List.map_map]
    exact yR (fun (k : Nat) => P.int (0 + (k : Int))) (fun j => P.int (f j)) (List.range n) .no (fun j hj => hf j (List.mem_range.mp hj)) (by rw [List.length_range]; omega)
  have ro : ∀ {e : Dl → Option (List P)} {δ : Dl} {r : List P}, e δ = some r → iG e δ = .ro r := fun h => by unfold iG; rw [h]
  exact C7 rfl rfl (ro cm)
end K41
namespace K41
open HL
local macro_rules | `(tactic| simp! only [$ls,*]) => `(tactic| simp only [gM, cF, fY, jH, mU, eP, vw, vx, C5, C4, C3, zt, iG, vt, vy, zu, frz, zr, zw, vq, zv, cX, B5, aQ, Di, pC, pT, nz, zo, uc, jm, jM, FG, qZ, FH, kf, pB, pO, pL, ei, aM, gN, vK, vJ, Df, FF, sS, zz, lY, m3, zx, dF, p7, g7, zy, lg, RF.val, oo, qX, gT, pI, pH, pG, qc, qb, pA, rT, pE, pD, pz, px, wR, List.isEmpty_cons, List.isEmpty_nil, lU, dE, lT, cJ, iF, sA, sC, sG, sH, oq, sI, sF, sE, sD, pV, pW, pU, List.map_cons, List.map_nil, List.length_cons, List.length_nil, List.getElem?_cons_zero, List.getElem?_cons_succ, List.getElem?_nil, List.set_cons_zero, List.set_cons_succ, List.replicate, List.cons_append, List.nil_append, List.append_nil, Option.bind_some, Option.map_some, Option.bind_none, Option.map_none, Option.getD_some, if_true, if_false, Nat.reduceSub, Nat.reduceAdd, Nat.reduceLeDiff, Nat.reduceLT, Int.reduceLT, Int.reduceLE, Bool.not_true, Bool.not_false, Bool.false_eq_true, bne_self_eq_false, Bool.bne_true, Bool.bne_false, Bool.true_bne, Bool.false_bne, decide_eq_true_eq, reduceIte, reduceCtorEq, zW, zV, zU, zT, zS, zR, zQ, zP, zO, zN, wX, wW, $ls,*])
open PySem (Str)
def yZ (N : P) (L : Int) : Prop := (∃ b, N = .bl b) ∨ N = .non ∨ (∃ s, N = .str s) ∨ N = .tup [.int 1] ∨ ∃ j : Int, N = .int j ∧ (j < 0 ∨ L ≤ j)
def At (N : P) (L : Int) : Prop := ∃ j : Nat, N = .int (j : Int) ∧ (j : Int) < L
theorem uo (v L : Int) (h0 : 0 ≤ v) (l1 : 1 ≤ L) (l2 : L ≤ 16) : ∃ N, gC [.int v, .int L] = some (.v N) ∧ (At N L ∨ yZ N L) := by
  have m6 := cJ v 6 (by decide)
  have d6 := iF v 6 (by decide) (by decide)
  have t : pT (cX C0 (cX gZ (aQ 0) (pC (.int 6))) (pC (.int 0))) [.val (.int v), .val (.int L)] = some (decide (0 < v % 6)) := ky (p := .bl (decide (0 < v % 6))) (aW (aW rfl rfl m6) rfl rfl) rfl
  by_cases z : 0 < v % 6
  · rw [decide_eq_true z] at t
    refine ⟨.int (v / 6 % L), nA rfl rfl (Ap (DH t (j9 (aW (aW rfl rfl d6) rfl (cJ _ _ (by omega)))))), .inl ⟨(v / 6 % L).toNat, ?_, ?_⟩⟩
    · have := Int.emod_nonneg (v / 6) (show L ≠ 0 by omega)
      rw [Int.toNat_of_nonneg this]
    · have := Int.emod_nonneg (v / 6) (show L ≠ 0 by omega)
      have := Int.emod_lt_of_pos (v / 6) (show 0 < L by omega)
      omega
  · rw [decide_eq_false z] at t
    have d60 := iF v 60 (by decide) (by decide)
    have a1 : (cX jG (aQ 1) (cX gZ (cX ke (aQ 0) (pC (.int 60))) (pC (.int 9)))) [.val (.int v), .val (.int L)] = some (.int (L + v / 60 % 9)) := aW rfl (aW (aW rfl rfl d60) rfl (cJ _ _ (by decide))) (dE _ _)
    have a2 : (cX xR (B5 xT (pC (.int 1))) (cX gZ (cX ke (aQ 0) (pC (.int 60))) (pC (.int 70)))) [.val (.int v), .val (.int L)] = some (.int (-1 - v / 60 % 70)) := aW (x := .int (-1)) rfl (aW (aW rfl rfl d60) rfl (cJ _ _ (by decide))) (lT _ _)
    have a3 : (cX xS (pC (.int 10)) (pC (.int 20))) [.val (.int v), .val (.int L)] = some (.int ((10 : Int) ^ 20)) := aW rfl rfl C6
    have lst := Dh (Dg (g := oo) (r := [.int L, .int (L + v / 60 % 9), .int (-1 - v / 60 % 70), .bl true, .bl false, .non, .str "0", .tup [.int 1], .int ((10 : Int) ^ 20)]) (bp (a := aQ 1) (δ := [.val (.int v), .val (.int L)]) (x := .int L) rfl (bp a1 (bp a2 (bp (a := pC (.bl true)) rfl (bp (a := pC (.bl false)) rfl (bp (a := pC .non) rfl (bp (a := pC (.str "0")) rfl (bp (a := pB qX (aM (pC (.int 1)) ei)) (x := .tup [.int 1]) rfl (bp a3 (r := ei) rfl))))))))) rfl)
    have ix : (cX gZ (cX ke (aQ 0) (pC (.int 6))) (pC (.int 9))) [.val (.int v), .val (.int L)] = some (.int (v / 6 % 9)) := aW (aW rfl rfl d6) rfl (cJ _ _ (by decide))
    have fin : ∀ N, xU (.lst [.int L, .int (L + v / 60 % 9), .int (-1 - v / 60 % 70), .bl true, .bl false, .non, .str "0", .tup [.int 1], .int ((10 : Int) ^ 20)]) (.int (v / 6 % 9)) = some N → gC [.int v, .int L] = some (.v N) := fun N h => nA rfl rfl (Aq (DJ t rfl) (j9 (aW lst ix h)))
    have c : v / 6 % 9 = 0 ∨ v / 6 % 9 = 1 ∨ v / 6 % 9 = 2 ∨ v / 6 % 9 = 3 ∨ v / 6 % 9 = 4 ∨ v / 6 % 9 = 5 ∨ v / 6 % 9 = 6 ∨ v / 6 % 9 = 7 ∨ v / 6 % 9 = 8 := by omega
    rcases c with c | c | c | c | c | c | c | c | c
    · exact ⟨_, fin _ (by rw [c]; rfl), .inr (.inr (.inr (.inr (.inr ⟨L, rfl, .inr (Int.le_refl _)⟩))))⟩
    · exact ⟨_, fin _ (by rw [c]; rfl), .inr (.inr (.inr (.inr (.inr ⟨_, rfl, .inr (by omega)⟩))))⟩
    · exact ⟨_, fin _ (by rw [c]; rfl), .inr (.inr (.inr (.inr (.inr ⟨_, rfl, .inl (by omega)⟩))))⟩
    · exact ⟨_, fin _ (by rw [c]; rfl), .inr (.inl ⟨_, rfl⟩)⟩
    · exact ⟨_, fin _ (by rw [c]; rfl), .inr (.inl ⟨_, rfl⟩)⟩
    · exact ⟨_, fin _ (by rw [c]; rfl), .inr (.inr (.inl rfl))⟩
    · exact ⟨_, fin _ (by rw [c]; rfl), .inr (.inr (.inr (.inl ⟨_, rfl⟩)))⟩
    · exact ⟨_, fin _ (by rw [c]; rfl), .inr (.inr (.inr (.inr (.inl rfl))))⟩
    · exact ⟨_, fin _ (by rw [c]; rfl), .inr (.inr (.inr (.inr (.inr ⟨_, rfl, .inr (by have := vz; omega)⟩))))⟩
theorem pj (j L : Int) : cW [.int j, .int 0, .int L] = some (.v (.bl (decide (0 ≤ j) && decide (j ≤ L)))) := by
  refine nA rfl rfl (j9 (jn rfl ?_))
  show (if decide ((0 : Int) ≤ j) = true then some (P.bl (decide (j ≤ L))) else some (.bl false)) = _
  cases decide ((0 : Int) ≤ j) <;> rfl
theorem rX (j L : Int) : fx [.int j, .int L] = some (.v (.bl (decide (0 ≤ j) && decide (j < L)))) := by
  refine nA rfl rfl (j9 (jn rfl (jn rfl ?_)))
  show (if decide ((0 : Int) ≤ j) = true then some (P.bl (decide (j < L))) else some (.bl false)) = _
  cases decide ((0 : Int) ≤ j) <;> rfl
theorem uR {N : P} {L : Int} (h : At N L) : fx [N, .int L] = some (.v (.bl true)) := by
  obtain ⟨j, rfl, h⟩ := h
  rw [rX, decide_eq_true (show (0 : Int) ≤ j by omega), decide_eq_true h]; rfl
theorem tQ {N : P} {L : Int} (h : yZ N L) : fx [N, .int L] = some (.v (.bl false)) := by
  rcases h with ⟨b, rfl⟩ | rfl | ⟨s, rfl⟩ | rfl | ⟨j, rfl, h⟩
  · rfl
  · rfl
  · rfl
  · rfl
  · rw [rX]
    rcases h with h | h
    · rw [decide_eq_false (show ¬ (0 : Int) ≤ j by omega)]; rfl
    · rw [decide_eq_false (show ¬ j < L by omega), Bool.and_false]
theorem tN {N : P} {L : Int} (h : At N L) : cW [N, .int 0, .int (L - 1)] = some (.v (.bl true)) := by
  obtain ⟨j, rfl, h⟩ := h
  rw [pj, decide_eq_true (show (0 : Int) ≤ j by omega), decide_eq_true (show (j : Int) ≤ L - 1 by omega)]; rfl
theorem qL {N : P} {L : Int} (h : yZ N L) : cW [N, .int 0, .int (L - 1)] = some (.v (.bl false)) := by
  rcases h with ⟨b, rfl⟩ | rfl | ⟨s, rfl⟩ | rfl | ⟨j, rfl, h⟩
  · exact nA rfl rfl (j9 (AW (by cases b <;> rfl)))
  · rfl
  · rfl
  · rfl
  · rw [pj]
    rcases h with h | h
    · rw [decide_eq_false (show ¬ (0 : Int) ≤ j by omega)]; rfl
    · rw [decide_eq_false (show ¬ j ≤ L - 1 by omega), Bool.and_false]
theorem lC (t : Int) : jJ [.int t, .int t] = some (.v (.bl true)) := by
  refine nA rfl rfl (j9 (jn rfl (jn rfl (aW rfl rfl ?_))))
  rw [oq]; simp
end K41
namespace K41
open HL
open PySem (Str)
structure Mx (T : Nat → Prop) (s : Sg) (h : Sh) (δ : Dl) : Prop where
  lt : ∀ i, T i → i < h.length
  ln : s.length = δ.length
  at_ : ∀ (i : Nat) (sl : Sl), δ[i]? = some sl → sl = .no ∨ ∃ p u, sl = .val p ∧ s[i]? = some (some u) ∧ Dn T h p u
section
variable {T T' : Nat → Prop} {s : Sg} {h h' l : Sh} {δ : Dl}
theorem Dy {m : Nat} {i : Nat} : Tb T (List.replicate m []) i → T i := fun z => z.elim id fun y => (Ow.none y).elim
theorem Mx.env (M : Mx T s h δ) : Env ⟨h.length, fun _ => False, none⟩ T (List.replicate δ.length []) s h δ where
  le := Nat.le_refl _
  old := fun i t => ⟨M.lt i t, id⟩
  ls := M.ln
  lo := List.length_replicate
  one := fun i j a l m e1 e2 m1 m2 => by
    have := List.mem_of_getElem? e1
    rw [(List.mem_replicate.mp this).2] at m1; cases m1
  new := fun a x => (Ow.none x).elim
  at_ := fun i sl e => by
    have hi : i < δ.length := (List.getElem?_eq_some_iff.mp e).1
    have eo : ((List.replicate δ.length ([] : List Nat))[i]?).getD [] = [] := by rw [List.getElem?_replicate, if_pos hi]; rfl
    rw [eo]
    rcases M.at_ i sl e with rfl | ⟨p, u, rfl, g, d⟩
    · rfl
    · exact ⟨rfl, u, by rw [g]; rfl, d.weak fun i t => Dy t⟩
  self := fun c fs w e m => by cases m
theorem Mx.e {d : DE} {p : PE} {r : P} (k : Pe d p) (M : Mx T s h δ) (e : p δ = some r) : ∃ w l, d s h = .ok w (h ++ l) ∧ Dn T (h ++ l) r w := by
  obtain ⟨w, l, a, b⟩ := k _ _ _ _ _ _ _ M.env e
  exact ⟨w, l, a, b.weak fun i t => .inl t⟩
theorem Mx.o {d : DE} {p : Dl → Option (List P)} {r : List P} (k : Po d p) (M : Mx T s h δ) (e : p δ = some r) : ∃ a l us, d s h = .ok (.ref a) (h ++ l) ∧ h.length ≤ a ∧ (h ++ l)[a]? = some (.lst us) ∧ Dns (fun i => T i ∨ i = a) (h ++ l) r us := by
  obtain ⟨a, l, us, e1, e2, e3, e4⟩ := k _ _ _ _ _ _ _ M.env e
  exact ⟨a, l, us, e1, e2, e3, e4.weak fun i t => t.elim (fun z => .inl (.inl z)) .inr⟩
theorem Mx.t {d : DT} {p : PT} {r : Bool} (k : Pt d p) (M : Mx T s h δ) (e : p δ = some r) : ∃ l, d s h = .ok r (h ++ l) := k _ _ _ _ _ _ _ M.env e
theorem Mx.mv (M : Mx T s h δ) (k : ∀ (i : Nat) (u : SO), ¬ T i → h[i]? = some u → h'[i]? = some u ∧ ¬ T' i) (lt : ∀ i, T' i → i < h'.length) : Mx T' s h' δ :=
  ⟨lt, M.ln, fun i sl e => (M.at_ i sl e).imp id fun ⟨p, u, a, b, d⟩ => ⟨p, u, a, b, Dn.mono k p u d⟩⟩
theorem Mx.app (M : Mx T s h δ) : Mx T s (h ++ l) δ := M.mv (fun i u t e => ⟨ao e, t⟩) fun i t => by rw [List.length_append]; have := M.lt i t; omega
theorem Mx.set (M : Mx T s h δ) (i : Nat) {p : P} {w : W} (d : Dn T h p w) : Mx T (s.set i (some w)) h (δ.set i (.val p)) :=
  ⟨M.lt, by rw [List.length_set, List.length_set, M.ln], fun j sl e => by
    rw [List.getElem?_set] at e
    split at e
    · rename_i z; subst z
      split at e
      · rename_i z; cases e
        exact .inr ⟨p, w, rfl, by rw [List.getElem?_set]; simp only [if_true, M.ln, z], d⟩
      · cases e
    · rename_i z
      rw [List.getElem?_set_ne z]; exact M.at_ j sl e⟩
theorem Mx.no (M : Mx T s h δ) (i : Nat) {w : Option W} : Mx T (s.set i w) h (δ.set i .no) :=
  ⟨M.lt, by rw [List.length_set, List.length_set, M.ln], fun j sl e => by
    rw [List.getElem?_set] at e
    split at e
    · split at e
      · cases e; exact .inl rfl
      · cases e
    · rename_i z
      rw [List.getElem?_set_ne z]; exact M.at_ j sl e⟩
theorem Mx.sset {i : Nat} {d : DE} {p : PE} {r : P} (k : Pe d p) (M : Mx T s h δ) (e : p δ = some r) : ∃ w l, bD i d s h = .nx (s.set i (some w)) (h ++ l) ∧ Mx T (s.set i (some w)) (h ++ l) (δ.set i (.val r)) ∧ Dn T (h ++ l) r w := by
  obtain ⟨w, l, a, b⟩ := M.e k e
  exact ⟨w, l, by unfold bD; rw [a], M.app.set i b, b⟩
theorem Mx.start {m : Nat} {ps : List P} {ws : List W} (lt : ∀ i, T i → i < h.length) (d : Dns T h ps ws) : Mx T (start m ws) h (cF m ps) := by
  have E := kl (m := m) lt d
  refine ⟨lt, E.ls, fun i sl e => ?_⟩
  have := E.at_ i sl e
  cases sl with
  | no => exact .inl rfl
  | val p =>
    obtain ⟨_, u, g, d⟩ := this
    refine .inr ⟨p, u, rfl, ?_, d.weak fun i t => .inl t⟩
    cases q : (HL.start m ws)[i]? with
    | none => rw [q] at g; cases g
    | some z => rw [q] at g; exact congrArg some g
  | own xs =>
    exfalso
    have := List.mem_of_getElem? e
    simp [cF] at this
  | obj c fs =>
    exfalso
    have := List.mem_of_getElem? e
    simp [cF] at this
theorem sj {c : DT} {a b : DS} {s s' : Sg} {h h1 h2 : Sh} (e : c s h = .ok true h1) (k : a s h1 = .nx s' h2) : fO c a b s h = .nx s' h2 := by unfold fO; rw [e]; exact k
theorem lM {e : DE} {s : Sg} {h h1 : Sh} {v : W} (k : e s h = .ok v h1) : eN e s h = .nx s h1 := by unfold eN; rw [k]
theorem fX {i : Nat} {e : DE} {s : Sg} {h h1 : Sh} {v : W} (k : e s h = .ok v h1) : bD i e s h = .nx (s.set i (some v)) h1 := by unfold bD; rw [k]
theorem iY {e : DE} {s : Sg} {h h1 : Sh} {v : W} (k : e s h = .ok v h1) : bS e s h = .rt v h1 := by unfold bS; rw [k]
end
theorem nF {p n : Nat} {b : DS} {vs : List W} {h h' : Sh} {v : W} (hp : vs.length = p) (e : b (start n vs) h = .rt v h') : fnOf p n b vs h = .ok v h' := by simp only [fnOf, hp, if_true, e]
theorem wd {p n : Nat} {b : DS} {vs : List W} {h h' : Sh} {s' : Sg} (hp : vs.length = p) (e : b (start n vs) h = .nx s' h') : fnOf p n b vs h = .ok .non h' := by simp only [fnOf, hp, if_true, e]
theorem we {p n : Nat} {b : DS} {vs : List W} {h h' : Sh} {a : Nat} (hp : vs.length = p) (e : b (start n vs) h = .ex a h') : fnOf p n b vs h = .ex a h' := by simp only [fnOf, hp, if_true, e]
theorem aB {a b : DS} {s s' : Sg} {h h' : Sh} (e : a s h = .nx s' h') : aI a b s h = b s' h' := by unfold aI; rw [e]
theorem u4 {a b : DS} {s : Sg} {h h1 : Sh} {k : Nat} (x : a s h = .ex k h1) : aI a b s h = .ex k h1 := by unfold aI; rw [x]
theorem u0 {c : DT} {a b : DS} {s : Sg} {h h1 h2 : Sh} {k : Nat} (e : c s h = .ok true h1) (x : a s h1 = .ex k h2) : fO c a b s h = .ex k h2 := by unfold fO; rw [e]; exact x
theorem jb {c : DT} {a : DS} {s : Sg} {h h1 : Sh} (e : c s h = .ok false h1) : fO c a ku s h = .nx s h1 := by unfold fO; rw [e]; rfl
theorem As {d : DS} {s s' : Sg} {h h1 : Sh} (e : d s h = .nx s' h1) : xj d s h = .nx s' h1 := by unfold xj; rw [e]
theorem Ar {d : DS} {s : Sg} {h h1 : Sh} {v : W} (e : d s h = .rt v h1) : xj d s h = .rt v h1 := by unfold xj; rw [e]
theorem qQ {d : DT} {s : Sg} {h h1 : Sh} {b : Bool} (e : d s h = .ok b h1) : xi d s h = .ok b h1 := by unfold xi; rw [e]
theorem aO {s : Sg} {h : Sh} {i : Nat} {w : W} (e : s[i]? = some (some w)) : ae i s h = .ok w h := by unfold ae; rw [e]
theorem az {a : DE} {r : DA} {s : Sg} {h h1 h2 : Sh} {x : W} {xs : List W} (ha : a s h = .ok x h1) (hr : r s h1 = .ok xs h2) : aa a r s h = .ok (x :: xs) h2 := by
  unfold aa; rw [ha]; simp only [R.bind, hr]
theorem fk {f : List W → Sh → OR} {as : DA} {s : Sg} {h h1 : Sh} {xs : List W} {r : R W} (ha : as s h = .ok xs h1) (hf : (f xs h1).fin h1 = r) : dB f as s h = r := by
  unfold dB; rw [ha]; exact hf
theorem dJ {f : O2} {a b : DE} {s : Sg} {h h1 h2 h3 : Sh} {x y r : W} (ha : a s h = .ok x h1) (hb : b s h1 = .ok y h2) (hf : (f x y h2).fin h2 = .ok r h3) : aE f a b s h = .ok r h3 := by
  unfold aE; rw [ha]; simp only [R.bind, hb, hf]
theorem gR {f : Fn} {as : DA} {s : Sg} {h h1 : Sh} {xs : List W} {r : R W} (ha : as s h = .ok xs h1) (hf : f xs h1 = r) : aS f as s h = r := by
  unfold aS; rw [ha]; exact hf
theorem BX {as : DA} {s : Sg} {h h1 : Sh} {xs : List W} (ha : as s h = .ok xs h1) : uL as s h = .ok xs h1 := by unfold uL; rw [ha]
theorem Bq {c : Str} {f : Fn} {ds : List W} {as : DA} {s : Sg} {h h1 h2 : Sh} {xs : List W} (ha : as s h = .ok xs h1) (hf : f (.ref h1.length :: (xs ++ ds)) (h1 ++ [.ins c []]) = .ok .non h2) : rB c f ds as s h = .ok (.ref h1.length) h2 := by
  unfold rB; rw [ha]; simp only [R.bind, hf, if_true]
theorem bF {h : Sh} {o : SO} : (h ++ [o])[h.length]? = some o := by rw [List.getElem?_append_right (Nat.le_refl _), Nat.sub_self]; rfl
theorem oO {h l : Sh} {o : SO} : (h ++ o :: l)[h.length]? = some o := by rw [List.getElem?_append_right (Nat.le_refl _), Nat.sub_self]; rfl
theorem xG {h l : Sh} {o o' : SO} : (h ++ o :: l).set h.length o' = h ++ o' :: l := by rw [List.set_append_right _ _ (Nat.le_refl _), Nat.sub_self]; rfl
theorem sZ {cs : List Str} {c f : Str} {fs : List (Str × W)} {e : DE} {s : Sg} {h l l2 : Sh} {v : W} (h0 : s[0]? = some (some (.ref h.length))) (he : e s (h ++ .ins c fs :: l) = .ok v (h ++ .ins c fs :: (l ++ l2))) (hc : cs.contains c = true) (hl : fs.length < 1000) : gW cs f (ae 0) e s (h ++ .ins c fs :: l) = .nx s (h ++ .ins c (lW f v fs) :: (l ++ l2)) := by
  unfold gW
  rw [he]
  simp only [R.bind, aO h0, xI, oO, hc, hl, true_and, if_true, xG]
theorem qg {cs : List Str} {c f : Str} {fs : List (Str × W)} {e : DE} {s : Sg} {h l : Sh} {v : W} (h0 : s[0]? = some (some (.ref h.length))) (he : e s (h ++ .ins c fs :: l) = .ok v (h ++ .ins c fs :: l)) (hc : cs.contains c = true) (hl : fs.length < 1000) : gW cs f (ae 0) e s (h ++ .ins c fs :: l) = .nx s (h ++ .ins c (lW f v fs) :: l) := by
  have := sZ (l2 := []) h0 (by rw [List.append_nil]; exact he) hc hl (f := f)
  rw [List.append_nil] at this; exact this
theorem ez {T : Nat → Prop} {h : Sh} : ∀ ns : List Int, Dns T h (ns.map HL.P.int) (ns.map W.int)
  | [] => by simp only [List.map_nil, Dns]
  | a :: r => by simp only [List.map_cons, Dns]; exact ⟨_, _, rfl, by simp only [Dn], ez r⟩
theorem ly {T : Nat → Prop} {h : Sh} : ∀ {ns : List Int} {us : List W}, Dns T h (ns.map HL.P.int) us → us = ns.map W.int
  | [], us, x => by simpa only [List.map_nil, Dns] using x
  | a :: r, us, x => by
    simp only [List.map_cons, Dns] at x
    obtain ⟨u, q, rfl, d, ds⟩ := x
    simp only [Dn] at d
    rw [ly ds, d]; rfl
theorem rk {h : Sh} {o : SO} : (h ++ [o]).length = h.length + 1 := by rw [List.length_append]; rfl
section
variable {T T' : Nat → Prop} {s : Sg} {h h1 h2 : Sh} {δ : Dl}
theorem yB {i : Nat} {c f : Str} {fs : List (Str × W)} {cs : List Str} {v : W} (e : h[i]? = some (.ins c fs)) (hc : cs.contains c = true) (hf : fs.lookup f = some v) : v8 cs f (.ref i) h = some v := by
  simp only [v8, e, hc, if_true, hf]
theorem wg {i : Nat} {c m : Str} {fs : List (Str × W)} {tb : List (Str × Fn)} (e : h[i]? = some (.ins c fs)) (hf : fs.lookup m = none) : mw tb m (.ref i) h = tb.lookup c := by
  simp only [mw, e, hf, if_true]
theorem Mx.get (M : Mx T s h δ) {i : Nat} {p : P} (e : δ[i]? = some (.val p)) : ∃ u, s[i]? = some (some u) ∧ Dn T h p u := by
  rcases M.at_ i _ e with z | ⟨q, u, a, b, c⟩
  · cases z
  · injection a with a; subst a; exact ⟨u, b, c⟩
theorem Mx.more (M : Mx T s h δ) (k : ∀ i, T' i → T i ∨ h.length ≤ i) (o : ∀ (i : Nat) (u : SO), ¬ T i → h[i]? = some u → h1[i]? = some u) (lt : ∀ i, T' i → i < h1.length) : Mx T' s h1 δ :=
  M.mv (fun i u t e => ⟨o i u t e, fun z => (k i z).elim t fun z => by have := (List.getElem?_eq_some_iff.mp e).1; omega⟩) lt
theorem uK {o : DE} {as : DA} {i : Nat} {ys : List W} {y : W} (eo : o s h = .ok (.ref i) h1) (g : h1[i]? = some (.lst ys)) (ea : as s h1 = .ok [y] h2) (g2 : h2[i]? = some (.lst ys)) (hy : ys.length < gT) : eN (Cd kB hV o as) s h = .nx s (h2.set i (.lst (ys ++ [y]))) := by
  refine lM (v := .non) ?_
  unfold Cd
  rw [eo]
  have : kB (.ref i) h1 = true := by simp only [kB, lstW, g, Option.isSome_some]
  simp only [R.bind, this, if_true, ea, hV, g2, hy]
theorem lE {o j e : DE} {p k : Nat} {xs : List W} {v : W} (ee : e s h = .ok v h) (eo : o s h = .ok (.ref p) h) (ej : j s h = .ok (.int k) h) (g : h[p]? = some (.lst xs)) (hk : k < xs.length) : j8 o j e s h = .nx s (h.set p (.lst (xs.set k v))) := by
  have ix : kU xs.length (k : Int) = some k := by
    unfold kU; rw [if_pos (by omega), if_pos (by omega)]; rfl
  unfold j8
  rw [ee]
  simp only [R.bind, eo, ej, g, ix]
theorem nj {i : Nat} {xs : List W} (g : h[i]? = some (.lst xs)) : fg h (.ref i) = some xs := by simp only [fg, lstW, g, Option.or]
theorem Cn {d : DE} {h1 : Sh} (e : d s h = .ok (.bl true) h1) : dZ (dT d) s h = .ok false h1 := by
  have : dT d s h = .ok true h1 := by unfold dT; rw [e]; rfl
  unfold dZ; rw [this]; rfl
theorem yM {a b : DE} {h1 h2 : Sh} (ea : a s h = .ok (.bl true) h1) (eb : b s h1 = .ok (.bl true) h2) : iK a b s h = .ok (.bl true) h2 := by
  unfold iK; rw [ea]; exact eb
end
theorem sY {t : It} {i : Nat} {b : DS} (I : Sg → Sh → Prop) (ht : ∀ h, t.stays h) : ∀ (xs : List HL.W), (∀ x ∈ xs, ∀ s h, I s h → ∃ s' h', b (s.set i (some x)) h = .nx s' h' ∧ I s' h') → ∀ s h, I s h → ∃ s' h', qe t (d7 i) b xs s h = .nx s' h' ∧ I s' h'
  | [], _, s, h, H => ⟨s, h, rfl, H⟩
  | x :: xs, st, s, h, H => by
    obtain ⟨s1, h1, e, H1⟩ := st x (List.mem_cons_self ..) s h H
    obtain ⟨s2, h2, e2, H2⟩ := sY I ht xs (fun y hy => st y (List.mem_cons_of_mem _ hy)) s1 h1 H1
    refine ⟨s2, h2, ?_, H2⟩
    rw [qe]
    simp only [d7, e, ht h1, if_true]
    exact e2
theorem xM {i : DI} {g : DG} {b : DS} {s : Sg} {h h1 : Sh} {t : It} {c : C} (hi : i s h = .ok t h1) (hc : qe t g b t.items s h1 = c) : qU i g b s h = c := by
  unfold qU
  rw [hi]
  exact hc
theorem uA {a : DE} {j : Int} {s : Sg} {h h' : Sh} (b : -(2 ^ 62) ≤ j ∧ j < 2 ^ 62) (e : a s h = .ok (.int j) h') : cc a s h = .ok (.fix (cn 0 j.toNat)) h' := by
  unfold cc
  rw [e]
  simp only [R.bind]
  rw [if_pos b]
theorem wC {i : DI} {n : Nat} {js : List Nat} {g : DG} {c : DT} {e : DE} {s : Sg} {h h1 : Sh} {t : It} {r : R HL.W} (hi : i s h = .ok t h1) (hc : jg t g c e h1.length t.items (mE n js s) (h1 ++ [.lst []]) = r) : iJ i n js g c e s h = r := by
  unfold iJ
  rw [hi]
  exact hc
theorem Gi {m : Nat} (b : m ≤ 1000) : (-(2 ^ 62) ≤ (m : Int) ∧ (m : Int) < 2 ^ 62) := by omega
theorem mr {a : DE} {m : Nat} {s : Sg} {h h' : Sh} (b : m ≤ 1000) (e : a s h = .ok (.int m) h') : cc a s h = .ok (.fix (cn 0 m)) h' :=
  (uA (Gi b) e).trans (congrArg (fun n => R.ok (It.fix (cn 0 n)) h') (Int.toNat_natCast m))
end K41
namespace K41
open HL
open PySem (Str)
def iC (c : Nat) (t u : Int) : SO := .ins "Slow" [("cells", .ref c), ("lines_told", .int t), ("lines_put", .int u)]
def Ao (ws : List Int) (t u : Int) : P := .ins "Slow" [("cells", .lst (ws.map .int)), ("lines_told", .int t), ("lines_put", .int u)]
structure St (h : Sh) (w sl c : Nat) (ws : List Int) (t u : Int) : Prop where
  gw : h[w]? = some (.lst (ws.map .int))
  gs : h[sl]? = some (iC c t u)
  gc : h[c]? = some (.lst (ws.map .int))
  wc : w ≠ c
section
variable {T : Nat → Prop} {h h' l : Sh} {w sl c : Nat} {ws : List Int} {t u : Int} {s : Sg} {L : Nat} {N : P} {wn : W}
theorem iH {i j : Nat} {a b : SO} (g : h[i]? = some a) (g2 : h[j]? = some b) (n : a ≠ b) : i ≠ j := fun z => n (by rw [z, g2] at g; exact (Option.some.inj g).symm)
theorem St.ws_ne (S : St h w sl c ws t u) : w ≠ sl := iH S.gw S.gs (by unfold iC; exact fun z => nomatch z)
theorem St.cs_ne (S : St h w sl c ws t u) : c ≠ sl := iH S.gc S.gs (by unfold iC; exact fun z => nomatch z)
theorem St.mv (S : St h w sl c ws t u) (k : ∀ (i : Nat) (o : SO), h[i]? = some o → h'[i]? = some o) : St h' w sl c ws t u := ⟨k _ _ S.gw, k _ _ S.gs, k _ _ S.gc, S.wc⟩
theorem St.app (S : St h w sl c ws t u) : St (h ++ l) w sl c ws t u := S.mv fun i o e => ao e
theorem St.dn (S : St h w sl c ws t u) (n1 : ¬ T sl) (n2 : ¬ T c) : Dn T h (Ao ws t u) (.ref sl) := by
  unfold Ao
  simp only [Dn, Dnf]
  exact ⟨sl, _, rfl, n1, S.gs, _, _, rfl, ⟨c, _, rfl, n2, S.gc, ez ws⟩, _, _, rfl, rfl, _, _, rfl, rfl, rfl⟩
theorem jt {v : DE} {f : Str} {i : Nat} {cs : List Str} {cl : Str} {fs : List (Str × W)} {x : W} (ev : v s h = .ok (.ref i) h) (g : h[i]? = some (.ins cl fs)) (hc : cs.contains cl = true) (hf : fs.lookup f = some x) : e9 cs f v s h = .ok x h := by
  unfold e9; rw [ev]; simp only [R.bind, yB g hc hf]
theorem yv (S : St h w sl c ws t u) (hL : ws.length = 4 * L) (h0 : s[0]? = some (some (.ref sl))) : aE oI (aE fP (dB fb (aa (e9 ["Slow"] "cells" (ae 0)) aj)) (dC (.int 4))) (dC (.int 1)) s h = .ok (.int ((L : Int) - 1)) h := by
  have a : dB fb (aa (e9 ["Slow"] "cells" (ae 0)) aj) s h = .ok (.int ((ws.map W.int).length : Nat)) h := fk (az (jt (aO h0) S.gs (by decide) rfl) rfl) (by simp only [fb, nj S.gc, OR.fin])
  rw [List.length_map, hL] at a
  refine dJ (dJ a rfl (r := .int (L : Int)) ?_) rfl rfl
  show (kR (fun _ j => _) (fun i j => i / j) (.int ((4 * L : Nat) : Int)) (.int 4) h).fin h = _
  unfold kR
  simp only [OR.fin]
  first
  | rfl
  | (show R.ok (W.int (((4 * L : Nat) : Int) / 4)) h = _
     rw [show (((4 * L : Nat) : Int) / 4) = (L : Int) by omega])
theorem uN (lt : ∀ i, T i → i < h.length) (d : Dn T h N wn) {x : Bool} (e : cW [N, .int 0, .int ((L : Int) - 1)] = some (.v (.bl x))) : ∃ l, bN [wn, .int 0, .int ((L : Int) - 1)] h = .ok (.bl x) (h ++ l) := by
  obtain ⟨w, l, a, r⟩ := qC T h [wn, .int 0, .int ((L : Int) - 1)] [N, .int 0, .int ((L : Int) - 1)] _ lt (by simp only [Dns, Dn]; exact ⟨_, _, rfl, d, _, _, rfl, rfl, _, _, rfl, rfl, rfl⟩) e
  simp only [yX, Dn] at r
  rw [r] at a; exact ⟨l, a⟩
theorem zd (S : St h w sl c ws t u) (hL : ws.length = 4 * L) (lt : ∀ i, T i → i < h.length) (d : Dn T h N wn) {x : Bool} (e : cW [N, .int 0, .int ((L : Int) - 1)] = some (.v (.bl x))) : ∃ l, xi (dZ (dT (aS bN (aa (ae 1) (aa (dC (.int 0)) (aa (aE oI (aE fP (dB fb (aa (e9 ["Slow"] "cells" (ae 0)) aj)) (dC (.int 4))) (dC (.int 1))) aj)))))) (HL.start 2 [.ref sl, wn]) h = .ok (!x) (h ++ l) := by
  obtain ⟨l, a⟩ := uN lt d e
  refine ⟨l, qQ ?_⟩
  have : aS bN (aa (ae 1) (aa (dC (.int 0)) (aa (aE oI (aE fP (dB fb (aa (e9 ["Slow"] "cells" (ae 0)) aj)) (dC (.int 4))) (dC (.int 1))) aj))) (HL.start 2 [.ref sl, wn]) h = .ok (.bl x) (h ++ l) := gR (az (x := wn) rfl (az (x := .int 0) rfl (az (yv S hL rfl) rfl))) a
  have : dT (aS bN (aa (ae 1) (aa (dC (.int 0)) (aa (aE oI (aE fP (dB fb (aa (e9 ["Slow"] "cells" (ae 0)) aj)) (dC (.int 4))) (dC (.int 1))) aj)))) (HL.start 2 [.ref sl, wn]) h = .ok x (h ++ l) := by unfold dT; rw [this]; rfl
  unfold dZ; rw [this]; rfl
theorem nr (S : St h w sl c ws t u) (hL : ws.length = 4 * L) (lt : ∀ i, T i → i < h.length) (d : Dn T h N wn) (a : At N L) : ∃ l, ai [.ref sl, wn] h = .ok .non (h ++ l) := by
  obtain ⟨l, e⟩ := zd S hL lt d (tN a)
  exact ⟨l, wd (s' := HL.start 2 [.ref sl, wn]) rfl (jb e)⟩
theorem nu (S : St h w sl c ws t u) (hL : ws.length = 4 * L) (lt : ∀ i, T i → i < h.length) (d : Dn T h N wn) (a : yZ N L) : ∃ l, ai [.ref sl, wn] h = .ex (h ++ l).length (h ++ l ++ [.exc "NoLine" []]) := by
  obtain ⟨l, e⟩ := zd S hL lt d (qL a)
  exact ⟨l, we rfl (u0 e rfl)⟩
theorem lx {e : DE} {h1 : Sh} {a : Nat} (x : e s h = .ex a h1) : eN e s h = .ex a h1 := by unfold eN; rw [x]
theorem i6 {tb : List (Str × Fn)} {mn : Str} {f : Fn} {o : DE} {as : DA} {xs : List W} {i : Nat} {cl : Str} {fs : List (Str × W)} {h1 : Sh} {r : R W} (eo : o s h = .ok (.ref i) h) (g : h[i]? = some (.ins cl fs)) (hl : fs.lookup mn = none) (hf : tb.lookup cl = some f) (ha : as s h = .ok xs h1) (e : f (.ref i :: xs) h1 = r) : bG tb mn o as s h = r := by
  unfold bG; rw [eo]
  have fm : mw tb mn (.ref i) h = some f := (wg g hl).trans hf
  simp only [R.bind, fm, ha]; exact e
theorem jY (S : St h w sl c ws t u) {n : Nat} {vs : List W} {r : R W} (e : ai [.ref sl, wn] h = r) : bG [("Slow", ai)] "refuse_no_line" (ae 0) (uL (aa (ae 1) aj)) (HL.start n (.ref sl :: wn :: vs)) h = r :=
  i6 (o := ae 0) rfl S.gs rfl rfl (BX (xs := [wn]) rfl) e
theorem sh {o e : DE} {cs : List Str} {f : Str} {i : Nat} {cl : Str} {fs : List (Str × W)} {v : W} (he : e s h = .ok v h) (ho : o s h = .ok (.ref i) h) (g : h[i]? = some (.ins cl fs)) (hc : cs.contains cl = true) (hl : fs.length < 1000) : gW cs f o e s h = .nx s (h.set i (.ins cl (lW f v fs))) := by
  unfold gW; rw [he]
  simp only [R.bind, ho, xI, g, hc, hl, true_and, if_true]
def cV (ws : List Int) (j : Nat) : List Int := (ws.drop (4 * j)).take 4
theorem wD {j : Nat} (hj : (j : Int) < L) (hL : ws.length = 4 * L) : qp (ws.map W.int) (some (4 * (j : Int))) (some (4 * (j : Int) + 4)) = (cV ws j).map W.int := by
  have sx : ∀ (n d : Nat) (i : Int), 0 ≤ i → sIx n d (some i) = min i.toNat n := fun n d i h => by
    show (if i < 0 then (i + (n : Int)).toNat else min i.toNat n) = _
    rw [if_neg (by omega)]
  unfold qp cV
  rw [sx _ _ _ (by omega), sx _ _ _ (by omega), List.length_map, hL]
  rw [show min (4 * (j : Int)).toNat (4 * L) = 4 * j by omega, show min (4 * (j : Int) + 4).toNat (4 * L) = 4 * j + 4 by omega, show 4 * j + 4 - 4 * j = 4 by omega, List.map_take, List.map_drop]
theorem zc {v : DE} {i : Nat} {xs : List W} {a b : Int} {x : DE} (ev : v s h = .ok (.ref i) h) (g : h[i]? = some (.lst xs)) (ea : ∀ h, (aE bK (dC (.int 4)) x) s h = .ok (.int a) h) (eb : ∀ h, (aE bt (aE bK (dC (.int 4)) x) (dC (.int 4))) s h = .ok (.int b) h) : Cc v (cN (aE bK (dC (.int 4)) x)) (cN (aE bt (aE bK (dC (.int 4)) x) (dC (.int 4)))) s h = .ok (.ref h.length) (h ++ [.lst (qp xs (some a) (some b))]) := by
  have p1 : cN (aE bK (dC (.int 4)) x) s h = .ok (some a) h := by unfold cN; rw [ea]; rfl
  have p2 : cN (aE bt (aE bK (dC (.int 4)) x) (dC (.int 4))) s h = .ok (some b) h := by unfold cN; rw [eb]; rfl
  unfold Cc; rw [ev]
  simp only [R.bind, p1, p2, Fd, lstW, g, OR.fin]
theorem rb {x : DE} {j : Int} (e : ∀ h, x s h = .ok (.int j) h) (h : Sh) : (aE bK (dC (.int 4)) x) s h = .ok (.int (4 * j)) h := dJ rfl (e h) (by
  show (bK (.int 4) (.int j) h).fin h = _
  have m : eQ 4 j = true := hR (by decide)
  simp only [bK, m, if_true, OR.fin])
theorem vS {x : DE} {j : Int} (e : ∀ h, x s h = .ok (.int j) h) (h : Sh) : (aE bt (aE bK (dC (.int 4)) x) (dC (.int 4))) s h = .ok (.int (4 * j + 4)) h := dJ (rb e h) rfl rfl
theorem nS {v : DE} {i : Nat} {xs : List W} {h1 : Sh} (ev : v s h = .ok (.ref i) h1) (g : h1[i]? = some (.lst xs)) : dB bZ (aa v aj) s h = .ok (.ref h1.length) (h1 ++ [.tup xs]) :=
  fk (az ev rfl) (by simp only [bZ, lstW, g, OR.fin])
theorem yC (S : St h w sl c ws t u) (hL : ws.length = 4 * L) (lt : ∀ i, T i → i < h.length) {j : Nat} (hj : (j : Int) < L) : ∃ h' p, bz [.ref sl, .int j] h = .ok (.ref p) h' ∧ St h' w sl c ws (t + 1) u ∧ h'[p]? = some (.tup ((cV ws j).map .int)) ∧ h.length ≤ p ∧ ∀ (i : Nat) (o : SO), i ≠ sl → h[i]? = some o → h'[i]? = some o := by
  obtain ⟨l, e⟩ := nr (T := fun _ => False) (N := .int j) (wn := .int j) S hL (fun _ z => z.elim) (by simp only [Dn]) ⟨j, rfl, hj⟩
  have S1 := S.app (l := l)
  have lsl : sl < (h ++ l).length := (List.getElem?_eq_some_iff.mp S1.gs).1
  have e1 : e9 ["Slow"] "lines_told" (ae 0) (HL.start 2 [.ref sl, .int j]) (h ++ l) = .ok (.int t) (h ++ l) := jt rfl S1.gs (by decide) rfl
  have e2 : gW ["Slow"] "lines_told" (ae 0) (aE bt (e9 ["Slow"] "lines_told" (ae 0)) (dC (.int 1))) (HL.start 2 [.ref sl, .int j]) (h ++ l) = .nx (HL.start 2 [.ref sl, .int j]) ((h ++ l).set sl (iC c (t + 1) u)) := sh (v := .int (t + 1)) (dJ e1 rfl rfl) rfl S1.gs (by decide) (by simp only [List.length_cons, List.length_nil]; omega)
  have S2 : St ((h ++ l).set sl (iC c (t + 1) u)) w sl c ws (t + 1) u := ⟨aq S1.gw S1.ws_ne.symm, List.getElem?_set_self lsl, aq S1.gc S1.cs_ne.symm, S.wc⟩
  have k2 : ∀ (i : Nat) (o : SO), i ≠ sl → h[i]? = some o → ((h ++ l).set sl (iC c (t + 1) u))[i]? = some o := fun i o n z => aq (ao z) (Ne.symm n)
  have le2 : h.length ≤ ((h ++ l).set sl (iC c (t + 1) u)).length := by rw [List.length_set, List.length_append]; omega
  generalize (h ++ l).set sl (iC c (t + 1) u) = h2 at e2 S2 k2 le2
  have e3 := zc (x := ae 1) (s := HL.start 2 [.ref sl, .int j]) (v := e9 ["Slow"] "cells" (ae 0)) (jt rfl S2.gs (by decide) rfl) S2.gc (rb (j := j) fun _ => rfl) (vS (j := j) fun _ => rfl)
  rw [wD hj hL] at e3
  have e4 := nS e3 bF
  refine ⟨h2 ++ [.lst ((cV ws j).map .int)] ++ [.tup ((cV ws j).map .int)], (h2 ++ [SO.lst ((cV ws j).map .int)]).length, nF rfl ?_, S2.app.app, bF, by rw [rk]; omega, fun i o n z => ao (ao (k2 i o n z))⟩
  unfold cY
  rw [aB (lM (jY S e))]
  refine Ar ?_
  rw [aB e2]
  exact iY e4
theorem mC (n : Nat) : ∀ ks : List Int, eW (eY (n + 1)) (ks.map P.int) = some (ks.map D.int)
  | [] => rfl
  | a :: r => by
    show (eY (n + 1) (.int a)).bind _ = _
    have := mC n r
    first
    | (rw [show eY (n + 1) (.int a) = some (.int a) from rfl]; simp only [Option.bind_some, this]; rfl)
    | (simp only [eY, Option.bind_some, this, Option.map_some, List.map_cons])
theorem BJ (m : Bool) (ks : List Int) : sL m (.tup (ks.map .int)) (.tup (ks.map .int)) = some (.bl (!m)) := p0 m (d := .tup (ks.map D.int)) (by
  show (eW (eY 7) (ks.map P.int)).map D.tup = _
  rw [mC 6]; rfl)
theorem wj (m : Bool) (ks : List Int) : sL m (.lst (ks.map .int)) (.lst (ks.map .int)) = some (.bl (!m)) := p0 m (d := .lst (ks.map D.int)) (by
  show (eW (eY 7) (ks.map P.int)).map D.lst = _
  rw [mC 6]; rfl)
end
end K41
namespace K41
open HL
open PySem (Str)
def cK : List Int → Nat → List Int → List Int
  | xs, _, [] => xs
  | xs, a, y :: ys => cK (xs.set a y) (a + 1) ys
theorem p5 : ∀ (ys xs : List Int) (a : Nat), a + ys.length ≤ xs.length → cK xs a ys = xs.take a ++ ys ++ xs.drop (a + ys.length)
  | [], xs, a, h => by
    rw [cK, List.append_nil, List.length_nil, Nat.add_zero, List.take_append_drop]
  | y :: ys, xs, a, h => by
    rw [List.length_cons] at h
    rw [cK, p5 ys (xs.set a y) (a + 1) (by rw [List.length_set]; omega)]
    have e1 : (xs.set a y).take (a + 1) = xs.take a ++ [y] := by
      rw [List.take_succ, List.take_set_of_le (Nat.le_refl _), List.getElem?_set_self (by omega)]; rfl
    have e2 : (xs.set a y).drop (a + 1 + ys.length) = xs.drop (a + (y :: ys).length) := by
      rw [List.drop_set_of_lt (by omega), List.length_cons, show a + 1 + ys.length = a + (ys.length + 1) by omega]
    rw [e1, e2, List.append_assoc, List.append_assoc, List.append_assoc]; rfl
def qx : DS := j8 (e9 ["Slow"] "cells" (ae 0)) (aE bt (aE bK (dC (.int 4)) (ae 1)) (ae 3)) (ae 4)
section
variable {T : Nat → Prop} {h h' l : Sh} {w sl c : Nat} {ws : List Int} {t u : Int} {s : Sg} {L : Nat} {N : P} {wn : W}
theorem ua (g : Nat) (all : List Int) (j : Nat) (dz : List Int) : ∀ (k : Nat) (h : Sh) (ws : List Int) (y3 y4 : Option W), h[sl]? = some (iC c t u) → h[c]? = some (.lst (ws.map .int)) → h[g]? = some (.lst (all.map .int)) → g ≠ c → 4 * j + k + dz.length ≤ ws.length →
    ∃ h' y3' y4', rq g (all.map .int) [3, 4] qx k (dz.map .int) [some (.ref sl), some (.int j), some (.ref g), y3, y4] h = .nx [some (.ref sl), some (.int j), some (.ref g), y3', y4'] h' ∧ h'[c]? = some (.lst ((cK ws (4 * j + k) dz).map .int)) ∧ ∀ (i : Nat) (o : SO), i ≠ c → h[i]? = some o → h'[i]? = some o := by
  induction dz with
  | nil => intro k h ws y3 y4 gs gc gg ne _; exact ⟨h, y3, y4, rfl, gc, fun i o _ e => e⟩
  | cons x dz ih =>
    intro k h0 ws y3 y4 gs0 gc0 gg0 ne hl
    rw [List.length_cons] at hl
    have gt : jR [3, 4] (.ref h0.length) [some (.ref sl), some (.int j), some (.ref g), y3, y4] (h0 ++ [.tup [.int (k : Int), .int x]]) = some [some (.ref sl), some (.int j), some (.ref g), some (.int (k : Int)), some (.int x)] := by
      have : (h0 ++ [SO.tup [.int (k : Int), .int x]])[h0.length]? = some (.tup [.int (k : Int), .int x]) := bF
      simp only [jR, eL, this, List.length_cons, List.length_nil, if_true, j6, List.set_cons_succ, List.set_cons_zero]
    have gs : (h0 ++ [SO.tup [.int (k : Int), .int x]])[sl]? = some (iC c t u) := ao gs0
    have gc : (h0 ++ [SO.tup [.int (k : Int), .int x]])[c]? = some (.lst (ws.map .int)) := ao gc0
    have gg : (h0 ++ [SO.tup [.int (k : Int), .int x]])[g]? = some (.lst (all.map .int)) := ao gg0
    have ol : ∀ (i : Nat) (o : SO), h0[i]? = some o → (h0 ++ [SO.tup [.int (k : Int), .int x]])[i]? = some o := fun i o e => ao e
    rw [List.map_cons, rq, gt]
    generalize h0 ++ [SO.tup [.int (k : Int), .int x]] = h at gs gc gg ol
    have lc : c < h.length := (List.getElem?_eq_some_iff.mp gc).1
    have b1 : qx [some (.ref sl), some (.int j), some (.ref g), some (.int (k : Int)), some (.int x)] h = .nx [some (.ref sl), some (.int j), some (.ref g), some (.int (k : Int)), some (.int x)] (h.set c (.lst ((ws.map W.int).set (4 * j + k) (.int x)))) := by
      refine lE (k := 4 * j + k) (v := .int x) rfl (jt rfl gs (by decide) rfl) (dJ (rb (x := ae 1) (j := j) (fun _ => rfl) h) rfl (r := .int ((4 * j + k : Nat) : Int)) ?_) gc (by rw [List.length_map]; omega)
      show R.ok (W.int (4 * (j : Int) + (k : Int))) h = _
      rw [show (4 * (j : Int) + (k : Int)) = ((4 * j + k : Nat) : Int) by omega]
    rw [← List.map_set] at b1
    have cs : c ≠ sl := iH gc gs (by unfold iC; exact fun z => nomatch z)
    have gs1 : (h.set c (.lst ((ws.set (4 * j + k) x).map .int)))[sl]? = some (iC c t u) := aq gs cs
    have gc1 : (h.set c (.lst ((ws.set (4 * j + k) x).map .int)))[c]? = some (.lst ((ws.set (4 * j + k) x).map .int)) := List.getElem?_set_self lc
    have gg1 : (h.set c (.lst ((ws.set (4 * j + k) x).map .int)))[g]? = some (.lst (all.map .int)) := aq gg (Ne.symm ne)
    have o1 : ∀ (i : Nat) (o : SO), i ≠ c → h0[i]? = some o → (h.set c (.lst ((ws.set (4 * j + k) x).map .int)))[i]? = some o := fun i o n e => aq (ol i o e) (Ne.symm n)
    generalize h.set c (.lst ((ws.set (4 * j + k) x).map .int)) = h1 at b1 gs1 gc1 gg1 o1
    obtain ⟨h', y3', y4', e5, c5, o5⟩ := ih (k + 1) h1 (ws.set (4 * j + k) x) (some (.int k)) (some (.int x)) gs1 gc1 gg1 ne (by rw [List.length_set]; omega)
    refine ⟨h', y3', y4', ?_, c5, fun i o n e => o5 i o n (o1 i o n e)⟩
    simp only [b1, gg1, if_true]
    exact e5
theorem t8 (g : Nat) (all : List Int) (j : Nat) (dz : List Int) : ∀ (k : Nat) (h : Sh) (ws : List Int) (y3 y4 : Option W), h[sl]? = some (iC c t u) → h[c]? = some (.lst (ws.map .int)) → h[g]? = some (.tup (all.map .int)) → g ≠ c → 4 * j + k + dz.length ≤ ws.length →
    ∃ h' y3' y4', rp g (all.map .int) [3, 4] qx k (dz.map .int) [some (.ref sl), some (.int j), some (.ref g), y3, y4] h = .nx [some (.ref sl), some (.int j), some (.ref g), y3', y4'] h' ∧ h'[c]? = some (.lst ((cK ws (4 * j + k) dz).map .int)) ∧ ∀ (i : Nat) (o : SO), i ≠ c → h[i]? = some o → h'[i]? = some o := by
  induction dz with
  | nil => intro k h ws y3 y4 gs gc gg ne _; exact ⟨h, y3, y4, rfl, gc, fun i o _ e => e⟩
  | cons x dz ih =>
    intro k h0 ws y3 y4 gs0 gc0 gg0 ne hl
    rw [List.length_cons] at hl
    have gt : jR [3, 4] (.ref h0.length) [some (.ref sl), some (.int j), some (.ref g), y3, y4] (h0 ++ [.tup [.int (k : Int), .int x]]) = some [some (.ref sl), some (.int j), some (.ref g), some (.int (k : Int)), some (.int x)] := by
      have : (h0 ++ [SO.tup [.int (k : Int), .int x]])[h0.length]? = some (.tup [.int (k : Int), .int x]) := bF
      simp only [jR, eL, this, List.length_cons, List.length_nil, if_true, j6, List.set_cons_succ, List.set_cons_zero]
    have gs : (h0 ++ [SO.tup [.int (k : Int), .int x]])[sl]? = some (iC c t u) := ao gs0
    have gc : (h0 ++ [SO.tup [.int (k : Int), .int x]])[c]? = some (.lst (ws.map .int)) := ao gc0
    have gg : (h0 ++ [SO.tup [.int (k : Int), .int x]])[g]? = some (.tup (all.map .int)) := ao gg0
    have ol : ∀ (i : Nat) (o : SO), h0[i]? = some o → (h0 ++ [SO.tup [.int (k : Int), .int x]])[i]? = some o := fun i o e => ao e
    rw [List.map_cons, rp, gt]
    generalize h0 ++ [SO.tup [.int (k : Int), .int x]] = h at gs gc gg ol
    have lc : c < h.length := (List.getElem?_eq_some_iff.mp gc).1
    have b1 : qx [some (.ref sl), some (.int j), some (.ref g), some (.int (k : Int)), some (.int x)] h = .nx [some (.ref sl), some (.int j), some (.ref g), some (.int (k : Int)), some (.int x)] (h.set c (.lst ((ws.map W.int).set (4 * j + k) (.int x)))) := by
      refine lE (k := 4 * j + k) (v := .int x) rfl (jt rfl gs (by decide) rfl) (dJ (rb (x := ae 1) (j := j) (fun _ => rfl) h) rfl (r := .int ((4 * j + k : Nat) : Int)) ?_) gc (by rw [List.length_map]; omega)
      show R.ok (W.int (4 * (j : Int) + (k : Int))) h = _
      rw [show (4 * (j : Int) + (k : Int)) = ((4 * j + k : Nat) : Int) by omega]
    rw [← List.map_set] at b1
    have cs : c ≠ sl := iH gc gs (by unfold iC; exact fun z => nomatch z)
    have gs1 : (h.set c (.lst ((ws.set (4 * j + k) x).map .int)))[sl]? = some (iC c t u) := aq gs cs
    have gc1 : (h.set c (.lst ((ws.set (4 * j + k) x).map .int)))[c]? = some (.lst ((ws.set (4 * j + k) x).map .int)) := List.getElem?_set_self lc
    have gg1 : (h.set c (.lst ((ws.set (4 * j + k) x).map .int)))[g]? = some (.tup (all.map .int)) := aq gg (Ne.symm ne)
    have o1 : ∀ (i : Nat) (o : SO), i ≠ c → h0[i]? = some o → (h.set c (.lst ((ws.set (4 * j + k) x).map .int)))[i]? = some o := fun i o n e => aq (ol i o e) (Ne.symm n)
    generalize h.set c (.lst ((ws.set (4 * j + k) x).map .int)) = h1 at b1 gs1 gc1 gg1 o1
    obtain ⟨h', y3', y4', e5, c5, o5⟩ := ih (k + 1) h1 (ws.set (4 * j + k) x) (some (.int k)) (some (.int x)) gs1 gc1 gg1 ne (by rw [List.length_set]; omega)
    refine ⟨h', y3', y4', ?_, c5, fun i o n e => o5 i o n (o1 i o n e)⟩
    simp only [b1, gg1, if_true]
    exact e5
theorem Az (S : St h w sl c ws t u) (hL : ws.length = 4 * L) {j g : Nat} (hj : (j : Int) < L) {f : List Int} (hf : f.length = 4) (gg : h[g]? = some (.lst (f.map .int)) ∨ h[g]? = some (.tup (f.map .int))) (gc : g ≠ c) : ∃ h', aP [.ref sl, .int j, .ref g] h = .ok .non h' ∧ h'[sl]? = some (iC c t (u + 1)) ∧ h'[c]? = some (.lst ((cK ws (4 * j) f).map .int)) ∧ h.length ≤ h'.length ∧ ∀ (i : Nat) (o : SO), i ≠ sl → i ≠ c → h[i]? = some o → h'[i]? = some o := by
  obtain ⟨l, e⟩ := nr (T := fun _ => False) (N := .int j) (wn := .int j) S hL (fun _ z => z.elim) (by simp only [Dn]) ⟨j, rfl, hj⟩
  have S1 := S.app (l := l)
  have lsl : sl < (h ++ l).length := (List.getElem?_eq_some_iff.mp S1.gs).1
  have e1 : e9 ["Slow"] "lines_put" (ae 0) (HL.start 5 [.ref sl, .int j, .ref g]) (h ++ l) = .ok (.int u) (h ++ l) := jt rfl S1.gs (by decide) rfl
  have e2 : gW ["Slow"] "lines_put" (ae 0) (aE bt (e9 ["Slow"] "lines_put" (ae 0)) (dC (.int 1))) (HL.start 5 [.ref sl, .int j, .ref g]) (h ++ l) = .nx (HL.start 5 [.ref sl, .int j, .ref g]) ((h ++ l).set sl (iC c t (u + 1))) := sh (v := .int (u + 1)) (dJ e1 rfl rfl) rfl S1.gs (by decide) (by simp only [List.length_cons, List.length_nil]; omega)
  have gs2 : ((h ++ l).set sl (iC c t (u + 1)))[sl]? = some (iC c t (u + 1)) := List.getElem?_set_self lsl
  have gc2 : ((h ++ l).set sl (iC c t (u + 1)))[c]? = some (.lst (ws.map .int)) := aq S1.gc S1.cs_ne.symm
  have gsl : g ≠ sl := by
    rcases gg with gg | gg
    · exact iH gg S.gs (by unfold iC; exact fun z => nomatch z)
    · exact iH gg S.gs (by unfold iC; exact fun z => nomatch z)
  have k2 : ∀ (i : Nat) (o : SO), i ≠ sl → h[i]? = some o → ((h ++ l).set sl (iC c t (u + 1)))[i]? = some o := fun i o n z => aq (ao z) (Ne.symm n)
  have le2 : h.length ≤ ((h ++ l).set sl (iC c t (u + 1))).length := by rw [List.length_set, List.length_append]; omega
  generalize (h ++ l).set sl (iC c t (u + 1)) = h2 at e2 gs2 gc2 k2 le2
  have lp : ∃ h' y3 y4, lL (ae 2) [3, 4] qx (HL.start 5 [.ref sl, .int j, .ref g]) h2 = .nx [some (.ref sl), some (.int j), some (.ref g), y3, y4] h' ∧ h'[c]? = some (.lst ((cK ws (4 * j) f).map .int)) ∧ ∀ (i : Nat) (o : SO), i ≠ c → h2[i]? = some o → h'[i]? = some o := by
    rcases gg with gg | gg
    · have g2 := k2 g _ gsl gg
      obtain ⟨h', y3, y4, a, b, d⟩ := ua g f j f 0 h2 ws none none gs2 gc2 g2 gc (by omega)
      refine ⟨h', y3, y4, ?_, b, d⟩
      unfold lL
      rw [show ae 2 (HL.start 5 [.ref sl, .int j, .ref g]) h2 = .ok (.ref g) h2 from rfl]
      simp only [g2]
      exact a
    · have g2 := k2 g _ gsl gg
      obtain ⟨h', y3, y4, a, b, d⟩ := t8 g f j f 0 h2 ws none none gs2 gc2 g2 gc (by omega)
      refine ⟨h', y3, y4, ?_, b, d⟩
      unfold lL
      rw [show ae 2 (HL.start 5 [.ref sl, .int j, .ref g]) h2 = .ok (.ref g) h2 from rfl]
      simp only [g2]
      exact a
  obtain ⟨h', y3, y4, e3, b3, d3⟩ := lp
  have lh : h2.length ≤ h'.length := by
    rcases Nat.lt_or_ge h'.length h2.length with z | z
    · exfalso
      by_cases q : h'.length = c
      · have := (List.getElem?_eq_some_iff.mp b3).1; omega
      · have := d3 h'.length (h2[h'.length]) q (List.getElem?_eq_getElem z)
        have := (List.getElem?_eq_some_iff.mp this).1; omega
    · exact z
  refine ⟨h', wd (s' := [some (.ref sl), some (.int j), some (.ref g), y3, y4]) rfl ?_, d3 sl _ S.cs_ne.symm gs2, b3, by omega, fun i o n1 n2 z => d3 i o n2 (k2 i o n1 z)⟩
  unfold bJ
  rw [aB (lM (jY S e))]
  refine As ?_
  rw [aB e2]
  exact e3
theorem pP (S : St h w sl c ws t u) (hL : ws.length = 4 * L) {j : Nat} (hj : (j : Int) < L) : ∃ h', aG [.ref sl, .int j, .ref w] h = .ok (.bl true) h' ∧ St h' w sl c ws (t + 1) u ∧ h.length ≤ h'.length ∧ ∀ (i : Nat) (o : SO), i ≠ sl → h[i]? = some o → h'[i]? = some o := by
  obtain ⟨h1, p, e1, S1, gp, lp, k1⟩ := yC (T := fun _ => False) S hL (fun _ z => z.elim) hj
  have s1 : bD 3 (bG rZ "four" (ae 0) (aa (ae 1) aj)) (HL.start 5 [.ref sl, .int j, .ref w]) h = .nx [some (.ref sl), some (.int j), some (.ref w), some (.ref p), none] h1 := fX (i6 (o := ae 0) (xs := [.int j]) rfl S.gs rfl rfl rfl e1)
  have e3 := zc (x := ae 1) (s := [some (.ref sl), some (.int j), some (.ref w), some (.ref p), none]) (v := ae 2) (h := h1) rfl S1.gw (rb (j := j) fun _ => rfl) (vS (j := j) fun _ => rfl)
  rw [wD hj hL] at e3
  have s2 : bD 4 (dB bZ (aa (Cc (ae 2) (cN (aE bK (dC (.int 4)) (ae 1))) (cN (aE bt (aE bK (dC (.int 4)) (ae 1)) (dC (.int 4))))) aj)) [some (.ref sl), some (.int j), some (.ref w), some (.ref p), none] h1 = .nx [some (.ref sl), some (.int j), some (.ref w), some (.ref p), some (.ref (h1 ++ [SO.lst ((cV ws j).map .int)]).length)] (h1 ++ [.lst ((cV ws j).map .int)] ++ [.tup ((cV ws j).map .int)]) := fX (nS e3 bF)
  have gq : (h1 ++ [SO.lst ((cV ws j).map .int)] ++ [.tup ((cV ws j).map .int)])[(h1 ++ [SO.lst ((cV ws j).map .int)]).length]? = some (.tup ((cV ws j).map .int)) := bF
  have gp2 : (h1 ++ [SO.lst ((cV ws j).map .int)] ++ [.tup ((cV ws j).map .int)])[p]? = some (.tup ((cV ws j).map .int)) := ao (ao gp)
  have S2 : St (h1 ++ [SO.lst ((cV ws j).map .int)] ++ [.tup ((cV ws j).map .int)]) w sl c ws (t + 1) u := S1.app.app
  have k2 : ∀ (i : Nat) (o : SO), i ≠ sl → h[i]? = some o → (h1 ++ [SO.lst ((cV ws j).map .int)] ++ [.tup ((cV ws j).map .int)])[i]? = some o := fun i o n z => ao (ao (k1 i o n z))
  have le : h.length ≤ (h1 ++ [SO.lst ((cV ws j).map .int)] ++ [SO.tup ((cV ws j).map .int)]).length := by
    have := (List.getElem?_eq_some_iff.mp gp2).1; omega
  generalize (h1 ++ [SO.lst ((cV ws j).map .int)]).length = q at s2 gq
  generalize h1 ++ [SO.lst ((cV ws j).map .int)] ++ [.tup ((cV ws j).map .int)] = h2 at s2 gq gp2 S2 k2 le
  have M0 : Mx (fun _ => False) (HL.start 5 [.non, .non, .non, .ref p, .ref q]) h2 [.val .non, .val .non, .val .non, .val (.tup ((cV ws j).map .int)), .val (.tup ((cV ws j).map .int))] := Mx.start (m := 5) (ps := [.non, .non, .non, .tup ((cV ws j).map .int), .tup ((cV ws j).map .int)]) (fun _ z => z.elim) (by
    simp only [Dns, Dn]
    exact ⟨_, _, rfl, rfl, _, _, rfl, rfl, _, _, rfl, rfl, _, _, rfl, ⟨p, _, rfl, id, gp2, ez _⟩, _, _, rfl, ⟨q, _, rfl, id, gq, ez _⟩, rfl⟩)
  have M : Mx (fun _ => False) [some (.ref sl), some (.int j), some (.ref w), some (.ref p), some (.ref q)] h2 [.no, .no, .no, .val (.tup ((cV ws j).map .int)), .val (.tup ((cV ws j).map .int))] := ((M0.no 0 (w := some (.ref sl))).no 1 (w := some (.int j))).no 2 (w := some (.ref w))
  obtain ⟨v, l, e4, d4⟩ := M.e (d := iK (dB (b7 cQ) (aa (ae 3) (aa (dC (.ty "tuple")) aj))) (aE vP (ae 3) (ae 4))) (kE (uE kG (bb (ar 3).b (bb (qk "tuple").b dO))) (aY BM (ar 3).b (ar 4).b)) (r := .bl true) (jn rfl (aW rfl rfl (BJ false _)))
  simp only [Dn] at d4
  rw [d4] at e4
  refine ⟨h2 ++ l, nF rfl ?_, S2.app, by rw [List.length_append]; omega, fun i o n z => ao (k2 i o n z)⟩
  unfold ck
  rw [aB s1, aB s2]
  exact iY e4
end
end K41
namespace K41
open HL
open PySem (Str)
section
variable {T : Nat → Prop} {h h' l : Sh} {w sl c : Nat} {ws : List Int} {t u : Int} {s : Sg} {L : Nat} {N : P} {wn : W}
theorem rC (S : St h w sl c ws t u) (h0 : 0 < ws.length) (hl : ws.length ≤ 1000) : ∃ h', cu [.ref sl, .ref w, .int t, .int u] h = .ok (.bl true) h' ∧ h.length ≤ h'.length ∧ ∀ (i : Nat) (o : SO), h[i]? = some o → h'[i]? = some o := by
  have M : Mx (fun _ => False) (HL.start 5 [.ref sl, .ref w, .int t, .int u]) h [.val (Ao ws t u), .val (.lst (ws.map .int)), .val (.int t), .val (.int u), .no] := Mx.start (m := 5) (ps := [Ao ws t u, .lst (ws.map .int), .int t, .int u]) (fun _ z => z.elim) (by
    have := S.dn (T := fun _ => False) id id
    simp only [Dns]
    exact ⟨_, _, rfl, this, _, _, rfl, by simp only [Dn]; exact ⟨w, _, rfl, id, S.gw, ez ws⟩, _, _, rfl, by simp only [Dn], _, _, rfl, by simp only [Dn], rfl⟩)
  obtain ⟨l1, e1⟩ := M.t (Cp (pF (tT (eu h9 (aK (oR (m := "reads") tS (ar 0) cO) (aK (ar 2) cO))).b)) (pF (tT (eu h9 (aK (oR (m := "writes") qO (ar 0) cO) (aK (ar 3) cO))).b))) (r := false) (zB (not_of (b := true) (ky (cj (r := .v (.bl true)) (xs := [.int t, .int t]) rfl (lC t)) rfl)) (not_of (b := true) (ky (cj (r := .v (.bl true)) (xs := [.int u, .int u]) rfl (lC u)) rfl)))
  have M1 := M.app (l := l1)
  have S1 := S.app (l := l1)
  have k1 : ∀ (i : Nat) (o : SO), h[i]? = some o → (h ++ l1)[i]? = some o := fun i o e => ao e
  have le1 : h.length ≤ (h ++ l1).length := by rw [List.length_append]; omega
  have n1 : fO (uM (dZ (dT (aS bO (aa (bG lD "reads" (ae 0) aj) (aa (ae 2) aj))))) (dZ (dT (aS bO (aa (bG j4 "writes" (ae 0) aj) (aa (ae 3) aj)))))) (bS (dC (.bl false))) ku (HL.start 5 [.ref sl, .ref w, .int t, .int u]) h = .nx (HL.start 5 [.ref sl, .ref w, .int t, .int u]) (h ++ l1) := jb e1
  generalize h ++ l1 = h1 at n1 M1 S1 k1 le1
  have wh : dI [.ref sl] h1 = .ok (.ref h1.length) (h1 ++ [.lst (ws.map .int)]) := nF rfl (iY (fk (az (jt rfl S1.gs (by decide) rfl) rfl) (by simp only [bQ, nj S1.gc, OR.fin])))
  have s2 : bD 4 (bG jz "whole" (ae 0) aj) (HL.start 5 [.ref sl, .ref w, .int t, .int u]) h1 = .nx [some (.ref sl), some (.ref w), some (.int t), some (.int u), some (.ref h1.length)] (h1 ++ [.lst (ws.map .int)]) := fX (i6 (o := ae 0) (xs := []) rfl S1.gs rfl rfl rfl wh)
  have M2 : Mx (fun _ => False) [some (.ref sl), some (.ref w), some (.int t), some (.int u), some (.ref h1.length)] (h1 ++ [.lst (ws.map .int)]) [.val (Ao ws t u), .val (.lst (ws.map .int)), .val (.int t), .val (.int u), .val (.lst (ws.map .int))] := M1.app.set 4 (by simp only [Dn]; exact ⟨_, _, rfl, id, bF, ez ws⟩)
  obtain ⟨l3, e3⟩ := M2.t (d := uM (dZ (dT (dB (b7 cQ) (aa (ae 4) (aa (dC (.ty "list")) aj))))) (dT (aE xl (ae 4) (ae 1)))) (Cp (pF (tT (uE kG (bb (ar 4).b (bb (qk "list").b dO))).b)) (tT (aY D6 (ar 4).b (ar 1).b).b)) (r := false) (zB (not_of (b := true) (ky (p := .bl true) rfl rfl)) (ky (p := .bl false) (aW rfl rfl (wj true ws)) rfl))
  have ga : (h1 ++ [SO.lst (ws.map .int)] ++ l3)[h1.length]? = some (.lst (ws.map .int)) := ao bF
  have k3 : ∀ (i : Nat) (o : SO), h[i]? = some o → (h1 ++ [SO.lst (ws.map .int)] ++ l3)[i]? = some o := fun i o e => ao (ao (k1 i o e))
  have le3 : h1.length < (h1 ++ [SO.lst (ws.map .int)] ++ l3).length := (List.getElem?_eq_some_iff.mp ga).1
  generalize h1 ++ [SO.lst (ws.map .int)] ++ l3 = h3 at e3 ga k3 le3
  have s4 : eN (Cd kB hV (ae 4) (aa (dC (.int 7)) aj)) [some (.ref sl), some (.ref w), some (.int t), some (.int u), some (.ref h1.length)] h3 = .nx _ (h3.set h1.length (.lst (ws.map .int ++ [.int 7]))) := uK (o := ae 4) rfl ga rfl ga (by rw [List.length_map]; unfold gT; omega)
  have ga4 : (h3.set h1.length (.lst (ws.map W.int ++ [.int 7])))[h1.length]? = some (.lst (ws.map .int ++ [.int 7])) := List.getElem?_set_self le3
  have k4 : ∀ (i : Nat) (o : SO), h[i]? = some o → (h3.set h1.length (.lst (ws.map W.int ++ [.int 7])))[i]? = some o := fun i o e => aq (k3 i o e) (by have := (List.getElem?_eq_some_iff.mp e).1; omega)
  have le4 : (h3.set h1.length (.lst (ws.map W.int ++ [.int 7]))).length = h3.length := List.length_set ..
  generalize h3.set h1.length (.lst (ws.map W.int ++ [.int 7])) = h4 at s4 ga4 k4 le4
  have s5 : j8 (ae 4) (dC (.int 0)) (dC (.int 70000)) [some (.ref sl), some (.ref w), some (.int t), some (.int u), some (.ref h1.length)] h4 = .nx _ (h4.set h1.length (.lst ((ws.map W.int ++ [W.int 7]).set 0 (W.int 70000)))) := lE (o := ae 4) (j := dC (.int (0 : Nat))) (k := 0) rfl rfl rfl ga4 (by rw [List.length_append]; simp only [List.length_cons, List.length_nil]; omega)
  have k5 : ∀ (i : Nat) (o : SO), h[i]? = some o → (h4.set h1.length (.lst ((ws.map W.int ++ [W.int 7]).set 0 (W.int 70000))))[i]? = some o := fun i o e => aq (k4 i o e) (by have := (List.getElem?_eq_some_iff.mp e).1; omega)
  have le5 : (h4.set h1.length (.lst ((ws.map W.int ++ [W.int 7]).set 0 (W.int 70000)))).length = h3.length := (List.length_set ..).trans le4
  generalize h4.set h1.length (.lst ((ws.map W.int ++ [W.int 7]).set 0 (W.int 70000))) = h5 at s5 k5 le5
  have M5 : Mx (fun i => i = h1.length) (HL.start 5 [.ref sl, .ref w, .int t, .int u]) h5 [.val (Ao ws t u), .val (.lst (ws.map .int)), .val (.int t), .val (.int u), .no] := M.more (fun i z => .inr (by omega)) (fun i o _ e => k5 i o e) (fun i z => by omega)
  have M6 : Mx (fun i => i = h1.length) [some (.ref sl), some (.ref w), some (.int t), some (.int u), some (.ref h1.length)] h5 [.val (Ao ws t u), .val (.lst (ws.map .int)), .val (.int t), .val (.int u), .no] := M5.no 4 (w := some (.ref h1.length))
  obtain ⟨v, l6, e6, d6⟩ := M6.e (kE (aY BM (oR (m := "whole") tR (ar 0) cO).b (ar 1).b) (eu h9 (aK (oR (m := "size") uS (ar 0) cO) (aK (uE tB (bb (ar 1).b dO)) cO)))) (r := .bl true) (jn (aW (x := .lst (ws.map .int)) (y := .lst (ws.map .int)) rfl rfl (wj false ws)) (cj (r := .v (.bl true)) (xs := [.int ((ws.map P.int).length : Nat), .int ((ws.map P.int).length : Nat)]) rfl (lC _)))
  simp only [Dn] at d6
  rw [d6] at e6
  refine ⟨h5 ++ l6, nF rfl ?_, by rw [List.length_append]; omega, fun i o e => ao (k5 i o e)⟩
  unfold dN
  rw [aB n1, aB s2, aB (jb e3), aB s4, aB s5]
  exact iY e6
theorem yD (S : St h w sl c ws t u) (hL : ws.length = 4 * L) (lt : ∀ i, T i → i < h.length) (d : Dn T h N wn) (a : yZ N L) : ∃ l, bz [.ref sl, wn] h = .ex (h ++ l).length (h ++ l ++ [.exc "NoLine" []]) := by
  obtain ⟨l, e⟩ := nu S hL lt d a
  exact ⟨l, we rfl (u4 (lx (jY S e)))⟩
theorem AA (x : W) (S : St h w sl c ws t u) (hL : ws.length = 4 * L) (lt : ∀ i, T i → i < h.length) (d : Dn T h N wn) (a : yZ N L) : ∃ l, aP [.ref sl, wn, x] h = .ex (h ++ l).length (h ++ l ++ [.exc "NoLine" []]) := by
  obtain ⟨l, e⟩ := nu S hL lt d a
  exact ⟨l, we rfl (u4 (lx (jY S e)))⟩
theorem DM {k : Nat} (g : h[k]? = some (.exc "NoLine" [])) : ∃ l, bS (iK (dB (b7 cQ) (aa (ae 3) (aa (dC (.gl "MillError")) aj))) (oS (dB (b7 cQ) (aa (ae 3) (aa (dB qA (aa (dC (.gl "NoPlace")) (aa (dC (.gl "NoSets")) aj))) aj))))) [none, none, none, some (.ref k)] h = .rt (.bl true) (h ++ l) := by
  have ty : ∀ h', h'[k]? = some (SO.exc "NoLine" []) → qJ h' (.ref k) = some (.own true "NoLine") := fun h' g => by simp only [qJ, g]
  have a : dB (b7 cQ) (aa (ae 3) (aa (dC (.gl "MillError")) aj)) [none, none, none, some (.ref k)] h = .ok (.bl true) h := fk (xs := [.ref k, .gl "MillError"]) rfl (by
    unfold b7 isi; simp only [ty h g]; rfl)
  have b : dB (b7 cQ) (aa (ae 3) (aa (dB qA (aa (dC (.gl "NoPlace")) (aa (dC (.gl "NoSets")) aj))) aj)) [none, none, none, some (.ref k)] h = .ok (.bl false) (h ++ [.tup [.gl "NoPlace", .gl "NoSets"]]) := fk (xs := [.ref k, .ref h.length]) (h1 := h ++ [.tup [.gl "NoPlace", .gl "NoSets"]]) rfl (by
    have g2 : (h ++ [SO.tup [.gl "NoPlace", .gl "NoSets"]])[h.length]? = some (.tup [.gl "NoPlace", .gl "NoSets"]) := bF
    unfold b7 isi; simp only [ty _ (ao g), g2]; rfl)
  refine ⟨[.tup [.gl "NoPlace", .gl "NoSets"]], iY (yM a ?_)⟩
  unfold oS; rw [b]; rfl
theorem xy {body hd : DS} {n j k : Nat} {cs : List Str} {cl : Str} {fs : List (Str × W)} {h1 h2 : Sh} {v : W} (e : body s h = .ex k h1) (g : h1[k]? = some (.exc cl fs)) (hc : cs.contains cl = true) (hh : hd ((List.replicate n none).set j (some (.ref k))) h1 = .rt v h2) : pM body n j cs hd s h = .rt v h2 := by
  unfold pM; rw [e]; simp only [g, hc, if_true, hh]
theorem qV {X : P} {wx : W} (S : St h w sl c ws t u) (hL : ws.length = 4 * L) (lt : ∀ i, T i → i < h.length) (d : Dn T h N wn) (a : yZ N L) (dx : Dn T h X wx) (hx : X = .non ∨ ∃ f : List Int, X = .tup (f.map .int)) : ∃ l, bT [.ref sl, wn, wx] h = .ok (.bl true) (h ++ l) := by
  have M0 : Mx T (HL.start 4 [.non, wn, wx]) h [.val .non, .val N, .val X, .no] := Mx.start (m := 4) (ps := [.non, N, X]) lt (by simp only [Dns]; exact ⟨_, _, rfl, by simp only [Dn], _, _, rfl, d, _, _, rfl, dx, rfl⟩)
  have M : Mx T (HL.start 4 [.ref sl, wn, wx]) h [.no, .val N, .val X, .no] := M0.no 0 (w := some (.ref sl))
  have fin : ∀ (k : Nat) (l : Sh), (fO (xi (dT (aE vO (ae 2) (dC .non)))) (eN (bG [("Slow", bz)] "four" (ae 0) (uL (aa (ae 1) aj)))) (eN (bG [("Slow", aP)] "put_four" (ae 0) (uL (aa (ae 1) (aa (ae 2) aj)))))) (HL.start 4 [.ref sl, wn, wx]) h = .ex k (h ++ l) → (h ++ l)[k]? = some (.exc "NoLine" []) → ∃ l, bT [.ref sl, wn, wx] h = .ok (.bl true) (h ++ l) := fun k l e g => by
    obtain ⟨l2, e2⟩ := DM g
    refine ⟨l ++ l2, nF rfl ?_⟩
    unfold dM aI
    rw [xy e g (by decide) e2, List.append_assoc]
  rcases hx with rfl | ⟨f, rfl⟩
  · obtain ⟨l1, e1⟩ := M.t (tT (aY yL (ar 2).b nG.b).b) (r := true) rfl
    obtain ⟨l2, e2⟩ := yD (S.app (l := l1)) hL (M.app (l := l1)).lt d.app a
    have eq : h ++ l1 ++ l2 ++ [SO.exc "NoLine" []] = h ++ (l1 ++ l2 ++ [SO.exc "NoLine" []]) := by simp only [List.append_assoc]
    refine fin (h ++ l1 ++ l2).length (l1 ++ l2 ++ [.exc "NoLine" []]) ?_ (by rw [← eq]; exact bF)
    rw [← eq]
    exact u0 (qQ e1) (lx (i6 (o := ae 0) (xs := [wn]) rfl (S.app (l := l1)).gs rfl rfl rfl e2))
  · obtain ⟨l1, e1⟩ := M.t (tT (aY yL (ar 2).b nG.b).b) (r := false) rfl
    obtain ⟨l2, e2⟩ := AA wx (S.app (l := l1)) hL (M.app (l := l1)).lt d.app a
    have eq : h ++ l1 ++ l2 ++ [SO.exc "NoLine" []] = h ++ (l1 ++ l2 ++ [SO.exc "NoLine" []]) := by simp only [List.append_assoc]
    refine fin (h ++ l1 ++ l2).length (l1 ++ l2 ++ [.exc "NoLine" []]) ?_ (by rw [← eq]; exact bF)
    rw [← eq]
    unfold fO
    rw [qQ e1]
    exact lx (i6 (o := ae 0) (xs := [wn, wx]) rfl (S.app (l := l1)).gs rfl rfl rfl e2)
end
end K41
namespace K41
open HL
open PySem (Str)
def EX : DS := (bD 1 (aE bt (dC (.int 1)) (aE fj (aS bh (aa (ae 0) (aa (dC (.int 1)) aj))) (dC (.int 16)))))
def EW : DS := (bD 2 (aS bY (aa (ae 0) (aa (dC (.int 100)) (aa (aE bK (dC (.int 4)) (ae 1)) aj)))))
def EB : DS := (bD 3 (aE o4 (dB ju (aa (dB bQ (aa (ae 2) aj)) (aa (dB bZ (aa (ae 2) aj)) aj))) (aE fj (aS bh (aa (ae 0) (aa (dC (.int 2)) aj))) (dC (.int 2)))))
def EV : DS := (bD 4 (rB "Slow" eU [] (aa (ae 3) aj)))
def EU : DS := (fO (dT (dB (b7 cQ) (aa (ae 3) (aa (dC (.ty "list")) aj)))) (j8 (ae 3) (dC (.int 0)) (dC (.int 70001))) ku)
def ET : DS := (bD 5 (dC (.int 0)))
def ES : DS := (bD 6 (dC (.int 0)))
def sf : DS := (bD 8 (aS bh (aa (ae 0) (aa (aE bt (dC (.int 20)) (ae 7)) aj))))
def se : DS := (bD 9 (aS cM (aa (aE fP (ae 8) (dC (.int 3))) (aa (ae 1) aj))))
def sd : DS := (bD 10 (dC .non))
def r9 : DS := (fO (dT (aE Dw (aE fj (ae 8) (dC (.int 3))) (dC (.int 0)))) (bD 10 (dB bZ (aa (aS bY (aa (ae 0) (aa (aE bt (dC (.int 200)) (aE bK (dC (.int 4)) (ae 7))) (aa (dC (.int 4)) aj)))) aj))) ku)
def jA : DS := (fO (dZ (dT (aS cB (aa (ae 9) (aa (ae 1) aj))))) (fO (dZ (dT (aS bT (aa (ae 4) (aa (ae 9) (aa (ae 10) aj)))))) (bS (dC (.bl false))) ku) (fO (dT (aE vO (ae 10) (dC .non))) (aI (bD 5 (aE bt (ae 5) (dC (.int 1))))
    (fO (dZ (dT (aS aG (aa (ae 4) (aa (ae 9) (aa (ae 2) aj)))))) (bS (dC (.bl false))) ku)) (aI (bD 6 (aE bt (ae 6) (dC (.int 1))))
    (aI (bD 11 (aE o4 (dB ju (aa (ae 10) (aa (dB bQ (aa (ae 10) aj)) aj))) (aE fj (aE fP (ae 8) (dC (.int 7))) (dC (.int 2)))))
    (aI (fO (dT (aE hJ (bG fQ "put_four" (ae 4) (aa (ae 9) (aa (ae 11) aj))) (dC .non))) (bS (dC (.bl false))) ku)
    (aI (j7 (ae 2) (cN (aE bK (dC (.int 4)) (ae 9))) (cN (aE bt (aE bK (dC (.int 4)) (ae 9)) (dC (.int 4)))) (dB bQ (aa (ae 10) aj)))
    (fO (dT (dB (b7 cQ) (aa (ae 11) (aa (dC (.ty "list")) aj)))) (j8 (ae 11) (dC (.int 0)) (dC (.int 70002))) ku)))))))
def Cr : DS := (fO (dZ (dT (aS cu (aa (ae 4) (aa (ae 2) (aa (ae 5) (aa (ae 6) aj))))))) (bS (dC (.bl false))) ku)
def r8 : DS := (aI sf (aI se (aI sd (aI r9 (aI jA Cr)))))
def Fy : DS := (qU (cc (dB kM (aa (aE bt (dB fb (aa (ae 0) aj)) (dC (.int 4))) (aa (dC (.int 20)) aj)))) (d7 7) r8)
def Fx : DS := (bS (dB qB (aa (iJ (cc (ae 1)) 1 [2, 4] (d7 0) kr (aS aG (aa (ae 2) (aa (ae 0) (aa (ae 1) aj))))) aj)))
theorem ER : tH = (aI EX (aI EW (aI EB (aI EV (aI EU (aI ET (aI ES (aI Fy Fx)))))))) := rfl
def Tm (w sl c : Nat) : Nat → Prop := fun i => i = w ∨ i = sl ∨ i = c
def dl (scr : P) (L t u : Int) (a b d e : Sl) : Dl := [.val scr, .val (.int L), .no, .no, .no, .val (.int t), .val (.int u), a, b, d, e, .no]
structure Tn (ns : List Int) (L w sl c : Nat) (s : Sg) (h : Sh) (ws : List Int) (t u : Int) (a b d e : Sl) : Prop where
  hL : ws.length = 4 * L
  st : St h w sl c ws t u
  s2 : s[2]? = some (some (.ref w))
  s4 : s[4]? = some (some (.ref sl))
  mx : Mx (Tm w sl c) s h (dl (fG ns) L t u a b d e)
section
variable {ns : List Int} {L w sl c : Nat} {s s' : Sg} {h h' l : Sh} {ws : List Int} {t u : Int} {a b d e : Sl}
theorem Tn.app (X : Tn ns L w sl c s h ws t u a b d e) : Tn ns L w sl c s (h ++ l) ws t u a b d e := ⟨X.hL, X.st.app, X.s2, X.s4, X.mx.app⟩
theorem aJ {i j : Nat} {x y : Option W} (n : i ≠ j) (e : s[j]? = some y) : (s.set i x)[j]? = some y := by rw [List.getElem?_set_ne n]; exact e
theorem Tn.mv (X : Tn ns L w sl c s h ws t u a b d e) (S : St h' w sl c ws t u) (k : ∀ (i : Nat) (o : SO), ¬ Tm w sl c i → h[i]? = some o → h'[i]? = some o) : Tn ns L w sl c s h' ws t u a b d e :=
  ⟨X.hL, S, X.s2, X.s4, X.mx.more (fun i z => .inl z) k (fun i z => by
    rcases z with rfl | rfl | rfl
    · exact (List.getElem?_eq_some_iff.mp S.gw).1
    · exact (List.getElem?_eq_some_iff.mp S.gs).1
    · exact (List.getElem?_eq_some_iff.mp S.gc).1)⟩
theorem yJ (hl : ns.length ≤ 63) (l1 : 1 ≤ L) (l2 : L ≤ 16) {k : Nat} (hk : k ≤ 100) {b0 d0 e0 : Sl} (X : Tn ns L w sl c s h ws t u (.val (.int (k : Int))) b0 d0 e0) : ∃ (s' : Sg) (l : Sh) (v : Int) (N Z : P), (∀ R, aI sf (aI se (aI sd (aI r9 R))) s h = R s' (h ++ l)) ∧ Tn ns L w sl c s' (h ++ l) ws t u (.val (.int (k : Int))) (.val (.int v)) (.val N) (.val Z) ∧ 0 ≤ v ∧ (At N L ∨ yZ N L) ∧ (Z = .non ∨ ∃ f : List Int, Z = .tup (f.map .int) ∧ f.length = 4) := by
  obtain ⟨v, pv, v0⟩ := lz ns (20 + (k : Int)) hl (by omega) (by omega)
  obtain ⟨w8, q0, e0, M0, _⟩ := X.mx.sset (i := 8) (eu gy (aK (ar 0) (aK (aY gQ (aR 20).b (ar 7).b) cO))) (r := .int v) (cj (r := .v (.int v)) (bp rfl (bp (aW (x := .int 20) (y := .int k) rfl rfl (dE _ _)) rfl)) pv)
  obtain ⟨N, pN, hN⟩ := uo (v / 3) L (by omega) (by omega) (by omega)
  obtain ⟨w9, q1, e1, M1, _⟩ := M0.sset (i := 9) (eu m7 (aK (aY kJ (ar 8).b (aR 3).b) (aK (ar 1) cO))) (r := N) (cj (r := .v N) (bp (aW (x := .int v) (y := .int 3) rfl rfl (iF _ _ (by decide) (by decide))) (bp rfl rfl)) pN)
  obtain ⟨w10, q2, e2, M2, _⟩ := M1.sset (i := 10) nG (r := .non) rfl
  have tt : pT (cX C0 (cX gZ (aQ 8) (pC (.int 3))) (pC (.int 0))) (dl (fG ns) L t u (.val (.int k)) (.val (.int v)) (.val N) (.val .non)) = some (decide (0 < v % 3)) := ky (p := .bl (decide (0 < v % 3))) (aW (aW (x := .int v) (y := .int 3) rfl rfl (cJ _ _ (by decide))) rfl rfl) rfl
  obtain ⟨q3, e3⟩ := M2.t (tT (aY D7 (aY gf (ar 8).b (aR 3).b).b (aR 0).b).b) tt
  have M3 := M2.app (l := q3)
  by_cases z : 0 < v % 3
  · rw [decide_eq_true z] at e3
    obtain ⟨f, pf, lf⟩ := ph ns hl (200 + 4 * (k : Int)) (by omega) (by omega) 4 (by decide)
    have m4 : lV (.int 4) (.int (k : Int)) = some (.int (4 * (k : Int))) := by rw [lU, hR (by decide)]; rfl
    obtain ⟨w', q4, e4, M4, _⟩ := M3.sset (i := 10) (uE yK (bb (eu jZ (aK (ar 0) (aK (aY gQ (aR 200).b (aY kF (aR 4).b (ar 7).b).b) (aK (aR 4) cO)))).b dO)) (r := .tup (f.map .int)) (Dj (xs := [.lst (f.map .int)]) (bp (cj (r := .o (f.map .int)) (xs := [fG ns, .int (200 + 4 * (k : Int)), .int ((4 : Nat) : Int)]) (bp rfl (bp (aW (x := .int 200) rfl (aW (x := .int 4) (y := .int k) rfl rfl m4) (dE _ _)) (bp rfl rfl))) pf) rfl) rfl)
    refine ⟨(((s.set 8 (some w8)).set 9 (some w9)).set 10 (some w10)).set 10 (some w'), q0 ++ (q1 ++ (q2 ++ (q3 ++ q4))), v, N, .tup (f.map .int), fun R => ?_, ⟨X.hL, X.st.app, aJ (by decide) (aJ (by decide) (aJ (by decide) (aJ (by decide) X.s2))), aJ (by decide) (aJ (by decide) (aJ (by decide) (aJ (by decide) X.s4))), ?_⟩, v0, hN, .inr ⟨f, rfl, lf⟩⟩
    · rw [aB (show sf s h = _ from e0), aB (show se _ _ = _ from e1), aB (show sd _ _ = _ from e2), aB (show r9 _ _ = _ from sj e3 e4)]
      simp only [List.append_assoc]
    · simp only [List.append_assoc] at M4; exact M4
  · rw [decide_eq_false z] at e3
    refine ⟨((s.set 8 (some w8)).set 9 (some w9)).set 10 (some w10), q0 ++ (q1 ++ (q2 ++ q3)), v, N, .non, fun R => ?_, ⟨X.hL, X.st.app, aJ (by decide) (aJ (by decide) (aJ (by decide) X.s2)), aJ (by decide) (aJ (by decide) (aJ (by decide) X.s4)), ?_⟩, v0, hN, .inl rfl⟩
    · rw [aB (show sf s h = _ from e0), aB (show se _ _ = _ from e1), aB (show sd _ _ = _ from e2), aB (show r9 _ _ = _ from jb e3)]
      simp only [List.append_assoc]
    · simp only [List.append_assoc] at M3; exact M3
end
end K41
namespace K41
open HL
open PySem (Str)
section
variable {ns : List Int} {L w sl c : Nat} {s s' : Sg} {h h' l : Sh} {ws : List Int} {t u : Int} {a b d e : Sl}
theorem qP {x : DE} {h1 : Sh} (k : x s h = .ok (.bl true) h1) : dZ (dT x) s h = .ok false h1 := Cn k
theorem Bg {N Z : P} (X : Tn ns L w sl c s h ws t u a b (.val N) (.val Z)) (o : yZ N L) (hz : Z = .non ∨ ∃ f : List Int, Z = .tup (f.map .int) ∧ f.length = 4) : ∃ l, jA s h = .nx s (h ++ l) := by
  obtain ⟨l1, e1⟩ := X.mx.t (pF (tT (eu j0 (aK (ar 9) (aK (ar 1) cO))).b)) (r := true) (not_of (b := false) (ky (cj (r := .v (.bl false)) (xs := [N, .int L]) rfl (tQ o)) rfl))
  have X1 := X.app (l := l1)
  obtain ⟨w9, g9, d9⟩ := X1.mx.get (i := 9) rfl
  obtain ⟨w10, g10, d10⟩ := X1.mx.get (i := 10) rfl
  obtain ⟨l2, e2⟩ := qV X1.st X1.hL X1.mx.lt d9 o d10 (hz.imp id fun ⟨f, z, _⟩ => ⟨f, z⟩)
  refine ⟨l1 ++ l2, ?_⟩
  unfold jA
  refine sj e1 ?_
  rw [jb (qP (gR (az (aO X1.s4) (az (aO g9) (az (aO g10) rfl))) e2)), List.append_assoc]
theorem rW {N Z : P} (X : Tn ns L w sl c s h ws t u a b (.val N) (.val Z)) (o : At N L) : ∃ l, dZ (dT (aS cB (aa (ae 9) (aa (ae 1) aj)))) s h = .ok false (h ++ l) :=
  X.mx.t (pF (tT (eu j0 (aK (ar 9) (aK (ar 1) cO))).b)) (r := false) (not_of (b := true) (ky (cj (r := .v (.bl true)) (xs := [N, .int L]) rfl (uR o)) rfl))
theorem lK {ct : DT} {x y : DS} {h1 : Sh} (k : ct s h = .ok false h1) : fO ct x y s h = y s h1 := by unfold fO; rw [k]; rfl
theorem u9 {ct : DT} {x y : DS} {h1 : Sh} (k : ct s h = .ok true h1) : fO ct x y s h = x s h1 := by unfold fO; rw [k]; rfl
theorem xA {N : P} (X : Tn ns L w sl c s h ws t u a b (.val N) (.val .non)) (o : At N L) : ∃ s' h', jA s h = .nx s' h' ∧ Tn ns L w sl c s' h' ws (t + 1) u a b (.val N) (.val .non) := by
  obtain ⟨l1, e1⟩ := rW X o
  have X1 := X.app (l := l1)
  obtain ⟨l2, e2⟩ := X1.mx.t (tT (aY yL (ar 10).b nG.b).b) (r := true) rfl
  have X2 := X1.app (l := l2)
  obtain ⟨w5, l3, e3, M3, _⟩ := X2.mx.sset (i := 5) (aY gQ (ar 5).b (aR 1).b) (r := .int (t + 1)) (aW (x := .int t) (y := .int 1) rfl rfl (dE _ _))
  have S3 := X2.st.app (l := l3)
  have s2' := aJ (i := 5) (x := some w5) (by decide) X2.s2
  have s4' := aJ (i := 5) (x := some w5) (by decide) X2.s4
  obtain ⟨w9, g9, d9⟩ := M3.get (i := 9) rfl
  obtain ⟨j, rfl, hj⟩ := o
  simp only [Dn] at d9
  subst d9
  obtain ⟨h4, e4, S4, le4, k4⟩ := pP S3 X.hL hj
  generalize s.set 5 (some w5) = s5 at e3 M3 s2' s4' g9
  refine ⟨s5, h4, ?_, ⟨X.hL, S4, s2', s4', M3.more (fun i z => .inl z) (fun i o n z => k4 i o (fun q => n (.inr (.inl q))) z) (fun i z => by have := M3.lt i z; omega)⟩⟩
  unfold jA
  rw [lK e1, u9 e2, aB e3]
  exact jb (qP (gR (az (aO s4') (az (aO g9) (az (aO s2') rfl))) e4))
theorem zE {v : DE} {i : Nat} {xs : List W} (ev : v s h = .ok (.ref i) h) (g : h[i]? = some (.lst xs)) : dT (dB (b7 cQ) (aa v (aa (dC (.ty "list")) aj))) s h = .ok true h := by
  have : dB (b7 cQ) (aa v (aa (dC (.ty "list")) aj)) s h = .ok (.bl true) h := fk (xs := [.ref i, .ty "list"]) (az ev rfl) (by
    have ty : qJ h (.ref i) = some (.bi "list") := by simp only [qJ, g]
    unfold b7 isi; simp only [ty]; rfl)
  unfold dT; rw [this]; rfl
theorem zD {v : DE} {i : Nat} {xs : List W} (ev : v s h = .ok (.ref i) h) (g : h[i]? = some (.tup xs)) : dT (dB (b7 cQ) (aa v (aa (dC (.ty "list")) aj))) s h = .ok false h := by
  have : dB (b7 cQ) (aa v (aa (dC (.ty "list")) aj)) s h = .ok (.bl false) h := fk (xs := [.ref i, .ty "list"]) (az ev rfl) (by
    have ty : qJ h (.ref i) = some (.bi "tuple") := by simp only [qJ, g]
    unfold b7 isi; simp only [ty]; rfl)
  unfold dT; rw [this]; rfl
theorem uW {o e : DE} {lo hi : DO} {p q : Nat} {xs ys : List W} {a b : Int} {h1 : Sh} (ee : e s h = .ok (.ref q) h1) (eo : o s h1 = .ok (.ref p) h1) (el : lo s h1 = .ok (some a) h1) (eh : hi s h1 = .ok (some b) h1) (gp : h1[p]? = some (.lst xs)) (gq : h1[q]? = some (.lst ys)) (hh : p ≠ q ∧ 0 ≤ a ∧ a ≤ b ∧ b ≤ (xs.length : Int) ∧ xs.length + ys.length ≤ gT) : j7 o lo hi e s h = .nx s (h1.set p (.lst (xs.take a.toNat ++ ys ++ xs.drop b.toNat))) := by
  unfold j7
  rw [ee]
  simp only [R.bind, eo, el, eh, gp, gq]
  rw [if_pos hh]
theorem v5 {v : Int} {x0 : Nat} {f : List Int} {s : Sg} {h : Sh} (g10 : s[10]? = some (some (.ref x0))) (g8 : s[8]? = some (some (.int v))) (gx : h[x0]? = some (.tup (f.map .int))) : ∃ l g, bD 11 (aE o4 (dB ju (aa (ae 10) (aa (dB bQ (aa (ae 10) aj)) aj))) (aE fj (aE fP (ae 8) (dC (.int 7))) (dC (.int 2)))) s h = .nx (s.set 11 (some (.ref g))) (h ++ l) ∧ (g = x0 ∨ h.length ≤ g ∧ (h ++ l)[g]? = some (.lst (f.map .int))) := by
  have a1 : dB bQ (aa (ae 10) aj) s h = .ok (.ref h.length) (h ++ [.lst (f.map .int)]) := fk (az (aO g10) rfl) (by
    have : fg h (.ref x0) = some (f.map .int) := by simp only [fg, lstW, eL, gx, Option.or]
    simp only [bQ, this, OR.fin])
  have a2 : dB ju (aa (ae 10) (aa (dB bQ (aa (ae 10) aj)) aj)) s h = .ok (.ref (h ++ [SO.lst (f.map .int)]).length) (h ++ [.lst (f.map .int)] ++ [.lst [.ref x0, .ref h.length]]) := fk (az (aO g10) (az a1 rfl)) rfl
  have a3 : ∀ h, aE fj (aE fP (ae 8) (dC (.int 7))) (dC (.int 2)) s h = .ok (.int (v / 7 % 2)) h := fun h => dJ (dJ (aO g8) rfl (r := .int (v / 7)) rfl) rfl rfl
  have gl : (h ++ [SO.lst (f.map .int)] ++ [.lst [.ref x0, .ref h.length]])[(h ++ [SO.lst (f.map .int)]).length]? = some (.lst [.ref x0, .ref h.length]) := bF
  have ix : ∀ (k : Nat) (x : W), v / 7 % 2 = (k : Int) → [W.ref x0, W.ref h.length][k]? = some x → aE o4 (dB ju (aa (ae 10) (aa (dB bQ (aa (ae 10) aj)) aj))) (aE fj (aE fP (ae 8) (dC (.int 7))) (dC (.int 2))) s h = .ok x (h ++ [.lst (f.map .int)] ++ [.lst [.ref x0, .ref h.length]]) := fun k x ek ex => by
    refine dJ a2 (a3 _) ?_
    have hk := (List.getElem?_eq_some_iff.mp ex).1
    have at_ : BV [W.ref x0, W.ref h.length] (v / 7 % 2) = some x := by
      rw [ek]; unfold BV kU; rw [if_pos (by omega), if_pos (by omega)]; exact ex
    simp only [o4, nj gl, at_, OR.fin]
  have cs : v / 7 % 2 = ((0 : Nat) : Int) ∨ v / 7 % 2 = ((1 : Nat) : Int) := by omega
  rcases cs with cs | cs
  · refine ⟨[.lst (f.map .int)] ++ [.lst [.ref x0, .ref h.length]], x0, ?_, .inl rfl⟩
    rw [← List.append_assoc]
    exact fX (ix 0 _ cs rfl)
  · refine ⟨[.lst (f.map .int)] ++ [.lst [.ref x0, .ref h.length]], h.length, ?_, .inr ⟨Nat.le_refl _, ?_⟩⟩
    · rw [← List.append_assoc]
      exact fX (ix 1 _ cs rfl)
    · rw [← List.append_assoc]; exact ao bF
theorem vj {v : Int} {N : P} {f : List Int} (l2 : L ≤ 16) (lf : f.length = 4) (X : Tn ns L w sl c s h ws t u a (.val (.int v)) (.val N) (.val (.tup (f.map .int)))) (o : At N L) : ∃ s' h' ws', jA s h = .nx s' h' ∧ Tn ns L w sl c s' h' ws' t (u + 1) a (.val (.int v)) (.val N) (.val (.tup (f.map .int))) := by
  obtain ⟨l1, e1⟩ := rW X o
  have X1 := X.app (l := l1)
  obtain ⟨q2, e2⟩ := X1.mx.t (tT (aY yL (ar 10).b nG.b).b) (r := false) rfl
  have X2 := X1.app (l := q2)
  obtain ⟨w6, q3, e3, M3, _⟩ := X2.mx.sset (i := 6) (aY gQ (ar 6).b (aR 1).b) (r := .int (u + 1)) (aW (x := .int u) (y := .int 1) rfl rfl (dE _ _))
  have S3 := X2.st.app (l := q3)
  have s2' := aJ (i := 6) (x := some w6) (by decide) X2.s2
  have s4' := aJ (i := 6) (x := some w6) (by decide) X2.s4
  obtain ⟨w9, g9, d9⟩ := M3.get (i := 9) rfl
  obtain ⟨w10, g10, d10⟩ := M3.get (i := 10) rfl
  obtain ⟨w8, g8, d8⟩ := M3.get (i := 8) rfl
  obtain ⟨j, rfl, hj⟩ := o
  simp only [Dn] at d9 d8 d10
  subst d9 d8
  obtain ⟨x0, us, rfl, nx, gx, dx⟩ := d10
  rw [ly dx] at gx
  generalize hs5 : s.set 6 (some w6) = s5 at e3 M3 s2' s4' g9 g10 g8
  generalize hh3 : h ++ l1 ++ q2 ++ q3 = h3 at e3 M3 S3 gx
  obtain ⟨l4, g, e4, hg⟩ := v5 g10 g8 gx
  have S4 := S3.app (l := l4)
  have ln5 : s5.length = 12 := M3.ln
  have g11 : (s5.set 11 (some (W.ref g)))[11]? = some (some (.ref g)) := List.getElem?_set_self (by omega)
  have t2 := aJ (i := 11) (x := some (W.ref g)) (by decide) s2'
  have t4 := aJ (i := 11) (x := some (W.ref g)) (by decide) s4'
  have t9 := aJ (i := 11) (x := some (W.ref g)) (by decide) g9
  have t10 := aJ (i := 11) (x := some (W.ref g)) (by decide) g10
  have M4 : ∀ h7, (∀ (i : Nat) (o : SO), ¬ Tm w sl c i → h3[i]? = some o → h7[i]? = some o) → (∀ i, Tm w sl c i → i < h7.length) → Mx (Tm w sl c) (s5.set 11 (some (.ref g))) h7 (dl (fG ns) L t (u + 1) a (.val (.int v)) (.val (.int j)) (.val (.tup (f.map .int)))) := fun h7 k lt => (M3.more (fun i z => .inl z) k lt).no 11
  generalize s5.set 11 (some (W.ref g)) = s6 at e4 g11 t2 t4 t9 t10 M4
  have gg : (h3 ++ l4)[g]? = some (.lst (f.map .int)) ∨ (h3 ++ l4)[g]? = some (.tup (f.map .int)) := hg.symm.imp (fun z => z.2) fun z => by rw [z]; exact ao gx
  have ngc : g ≠ c := by
    rcases hg with z | ⟨z, _⟩
    · rw [z]; exact fun q => nx (.inr (.inr q))
    · have := (List.getElem?_eq_some_iff.mp S3.gc).1; omega
  have ngw : g ≠ w := by
    rcases hg with z | ⟨z, _⟩
    · rw [z]; exact fun q => nx (.inl q)
    · have := (List.getElem?_eq_some_iff.mp S3.gw).1; omega
  have ngs : g ≠ sl := by
    rcases hg with z | ⟨z, _⟩
    · rw [z]; exact fun q => nx (.inr (.inl q))
    · have := (List.getElem?_eq_some_iff.mp S3.gs).1; omega
  obtain ⟨h5, e5, gs5, gc5, le5, k5⟩ := Az S4 X.hL hj lf gg ngc
  have n5 : fO (dT (aE hJ (bG fQ "put_four" (ae 4) (aa (ae 9) (aa (ae 11) aj))) (dC .non))) (bS (dC (.bl false))) ku s6 (h3 ++ l4) = .nx s6 h5 := by
    have : aE hJ (bG fQ "put_four" (ae 4) (aa (ae 9) (aa (ae 11) aj))) (dC .non) s6 (h3 ++ l4) = .ok (.bl false) h5 := dJ (i6 (o := ae 4) (xs := [.int j, .ref g]) (aO t4) S4.gs rfl rfl (az (aO t9) (az (aO g11) rfl)) e5) rfl rfl
    refine jb ?_
    unfold dT; rw [this]; rfl
  have gw5 : h5[w]? = some (.lst (ws.map .int)) := k5 w _ S3.ws_ne S3.wc S4.gw
  have gx5 : h5[x0]? = some (.tup (f.map .int)) := k5 x0 _ (fun q => nx (.inr (.inl q))) (fun q => nx (.inr (.inr q))) (ao gx)
  have gg5 : h5[g]? = some (.lst (f.map .int)) ∨ h5[g]? = some (.tup (f.map .int)) := gg.imp (k5 g _ ngs ngc) (k5 g _ ngs ngc)
  have lw5 : w < h5.length := (List.getElem?_eq_some_iff.mp gw5).1
  -- the words
  have pe := p5 f ws (4 * j) (by rw [lf, X.hL]; omega)
  have e6 : dB bQ (aa (ae 10) aj) s6 h5 = .ok (.ref h5.length) (h5 ++ [.lst (f.map .int)]) := fk (az (aO t10) rfl) (by
    have : fg h5 (.ref x0) = some (f.map .int) := by simp only [fg, lstW, eL, gx5, Option.or]
    simp only [bQ, this, OR.fin])
  have n6 := uW (o := ae 2) (lo := cN (aE bK (dC (.int 4)) (ae 9))) (hi := cN (aE bt (aE bK (dC (.int 4)) (ae 9)) (dC (.int 4)))) (a := 4 * (j : Int)) (b := 4 * (j : Int) + 4) e6 (aO t2) (by unfold cN; rw [rb (x := ae 9) (j := j) fun _ => aO t9]; rfl) (by unfold cN; rw [vS (x := ae 9) (j := j) fun _ => aO t9]; rfl) (ao gw5) bF ⟨by omega, by omega, by omega, by rw [List.length_map, X.hL]; omega, by rw [List.length_map, List.length_map, X.hL, lf]; unfold gT; omega⟩
  have lst : (ws.map W.int).take (4 * (j : Int)).toNat ++ f.map W.int ++ (ws.map W.int).drop (4 * (j : Int) + 4).toNat = (cK ws (4 * j) f).map .int := by
    rw [pe, lf, List.map_append, List.map_append, List.map_take, List.map_drop, show (4 * (j : Int)).toNat = 4 * j by omega, show (4 * (j : Int) + 4).toNat = 4 * j + 4 by omega]
  rw [lst] at n6
  have lw6 : w < (h5 ++ [SO.lst (f.map .int)]).length := by rw [rk]; omega
  have ww : w ≠ g := Ne.symm ngw
  have S6 : St ((h5 ++ [SO.lst (f.map .int)]).set w (.lst ((cK ws (4 * j) f).map .int))) w sl c (cK ws (4 * j) f) t (u + 1) := ⟨List.getElem?_set_self lw6, aq (ao gs5) S3.ws_ne, aq (ao gc5) S3.wc, S3.wc⟩
  have gg6 : ((h5 ++ [SO.lst (f.map .int)]).set w (.lst ((cK ws (4 * j) f).map .int)))[g]? = some (.lst (f.map .int)) ∨ ((h5 ++ [SO.lst (f.map .int)]).set w (.lst ((cK ws (4 * j) f).map .int)))[g]? = some (.tup (f.map .int)) := gg5.imp (fun z => aq (ao z) ww) (fun z => aq (ao z) ww)
  have k6 : ∀ (i : Nat) (o : SO), ¬ Tm w sl c i → (h3 ++ l4)[i]? = some o → ((h5 ++ [SO.lst (f.map .int)]).set w (.lst ((cK ws (4 * j) f).map .int)))[i]? = some o := fun i o n z => aq (ao (k5 i o (fun q => n (.inr (.inl q))) (fun q => n (.inr (.inr q))) z)) (fun q => n (.inl q.symm))
  have hL6 : (cK ws (4 * j) f).length = 4 * L := by
    rw [pe, List.length_append, List.length_append, List.length_take, List.length_drop, lf, X.hL]; omega
  have le6 : h5.length ≤ ((h5 ++ [SO.lst (f.map .int)]).set w (.lst ((cK ws (4 * j) f).map .int))).length := by rw [List.length_set, rk]; omega
  generalize (h5 ++ [SO.lst (f.map .int)]).set w (.lst ((cK ws (4 * j) f).map .int)) = h6 at n6 S6 gg6 k6 le6
  have run : ∀ h7, fO (dT (dB (b7 cQ) (aa (ae 11) (aa (dC (.ty "list")) aj)))) (j8 (ae 11) (dC (.int 0)) (dC (.int 70002))) ku s6 h6 = .nx s6 h7 → jA s h = .nx s6 h7 := fun h7 e7 => by
    unfold jA
    rw [lK e1, lK e2, aB e3, aB e4, aB n5, aB n6]
    exact e7
  have mk : ∀ h7, St h7 w sl c (cK ws (4 * j) f) t (u + 1) → (∀ (i : Nat) (o : SO), ¬ Tm w sl c i → h3[i]? = some o → h7[i]? = some o) → Tn ns L w sl c s6 h7 (cK ws (4 * j) f) t (u + 1) a (.val (.int v)) (.val (.int j)) (.val (.tup (f.map .int))) := fun h7 S7 k7 => by
    exact ⟨hL6, S7, t2, t4, M4 h7 k7 fun i z => by
      rcases z with rfl | rfl | rfl
      · exact (List.getElem?_eq_some_iff.mp S7.gw).1
      · exact (List.getElem?_eq_some_iff.mp S7.gs).1
      · exact (List.getElem?_eq_some_iff.mp S7.gc).1⟩
  rcases hg with rfl | ⟨z1, z2⟩
  · refine ⟨s6, h6, cK ws (4 * j) f, run h6 (jb (zD (aO g11) (k6 g _ nx (ao gx)))), mk h6 S6 fun i o n z => k6 i o n (ao z)⟩
  · have n : ¬ Tm w sl c g := fun z => by rcases z with z | z | z <;> first | exact ngw z | exact ngs z | exact ngc z
    have g6 := k6 g _ n z2
    refine ⟨s6, h6.set g (.lst ((f.map W.int).set 0 (W.int 70002))), cK ws (4 * j) f, run _ (sj (zE (aO g11) g6) (lE (j := dC (.int (0 : Nat))) (k := 0) rfl (aO g11) rfl g6 (by rw [List.length_map, lf]; decide))), mk _ ⟨aq S6.gw ngw, aq S6.gs ngs, aq S6.gc ngc, S6.wc⟩ fun i o n z => aq (k6 i o n (ao z)) (by have := (List.getElem?_eq_some_iff.mp z).1; omega)⟩
theorem xw (hl : ns.length ≤ 63) (l1 : 1 ≤ L) (l2 : L ≤ 16) {k : Nat} (hk : k ≤ 100) {a0 b0 d0 e0 : Sl} (X : Tn ns L w sl c s h ws t u a0 b0 d0 e0) : ∃ s' h' ws' t' u' a' b' d' e', r8 (s.set 7 (some (.int (k : Int)))) h = .nx s' h' ∧ Tn ns L w sl c s' h' ws' t' u' a' b' d' e' := by
  have X0 : Tn ns L w sl c (s.set 7 (some (.int (k : Int)))) h ws t u (.val (.int (k : Int))) b0 d0 e0 := ⟨X.hL, X.st, aJ (by decide) X.s2, aJ (by decide) X.s4, X.mx.set 7 (by simp only [Dn])⟩
  obtain ⟨s1, q1, v, N, Z, e1, X1, v0, hN, hZ⟩ := yJ hl l1 l2 hk X0
  have mid : ∃ s' h' ws' t' u', jA s1 (h ++ q1) = .nx s' h' ∧ Tn ns L w sl c s' h' ws' t' u' (.val (.int (k : Int))) (.val (.int v)) (.val N) (.val Z) := by
    rcases hN with hN | hN
    · rcases hZ with rfl | ⟨f, rfl, lf⟩
      · obtain ⟨s', h', e, Y⟩ := xA X1 hN
        exact ⟨s', h', ws, t + 1, u, e, Y⟩
      · obtain ⟨s', h', ws', e, Y⟩ := vj l2 lf X1 hN
        exact ⟨s', h', ws', t, u + 1, e, Y⟩
    · obtain ⟨l, e⟩ := Bg X1 hN hZ
      exact ⟨s1, _, ws, t, u, e, X1.app⟩
  obtain ⟨s2, h2, ws2, t2, u2, e2, X2⟩ := mid
  obtain ⟨h3, e3, le3, k3⟩ := rC X2.st (by rw [X2.hL]; omega) (by rw [X2.hL]; omega)
  obtain ⟨w5, g5, d5⟩ := X2.mx.get (i := 5) rfl
  obtain ⟨w6, g6, d6⟩ := X2.mx.get (i := 6) rfl
  simp only [Dn] at d5 d6
  subst d5 d6
  refine ⟨s2, h3, ws2, t2, u2, _, _, _, _, ?_, X2.mv (X2.st.mv k3) fun i o _ z => k3 i o z⟩
  unfold r8
  rw [e1, aB e2]
  exact jb (qP (gR (az (aO X2.s4) (az (aO X2.s2) (az (aO g5) (az (aO g6) rfl)))) e3))
end
end K41
namespace K41
open HL
open PySem (Str)
section
variable {T : Nat → Prop} {ns : List Int} {L w sl c : Nat} {s s' : Sg} {h h' l : Sh} {ws : List Int} {t u : Int}
theorem yz {x : W} (sq : fg h x = some (ws.map .int)) : eU [.ref h.length, x] (h ++ [.ins "Slow" []]) = .ok .non (h ++ iC (h.length + 1) 0 0 :: [.lst (ws.map .int)]) := by
  have sq1 : fg (h ++ [.ins "Slow" []]) x = some (ws.map .int) := by
    cases x with
    | ref i =>
      cases g : h[i]? with
      | none => simp only [fg, lstW, eL, g, Option.or] at sq; cases sq
      | some o => rw [← sq]; simp only [fg, lstW, eL, g, ao g]
    | _ => cases sq
  have s1 : gW ["Slow"] "cells" (ae 0) (dB bQ (aa (ae 1) aj)) (HL.start 2 [.ref h.length, x]) (h ++ .ins "Slow" [] :: []) = .nx (HL.start 2 [.ref h.length, x]) (h ++ .ins "Slow" [("cells", .ref (h.length + 1))] :: [.lst (ws.map .int)]) := by
    refine sZ (l := []) (l2 := [.lst (ws.map .int)]) rfl ?_ (by decide) (by decide)
    refine fk (xs := [x]) rfl ?_
    have sq1 : fg (h ++ .ins "Slow" [] :: []) x = some (ws.map .int) := sq1
    simp only [bQ, sq1, OR.fin]
    rw [show (h ++ SO.ins "Slow" [] :: []).length = h.length + 1 from rk, List.append_assoc]; rfl
  have s2 : gW ["Slow"] "lines_told" (ae 0) (dC (.int 0)) (HL.start 2 [.ref h.length, x]) (h ++ .ins "Slow" [("cells", .ref (h.length + 1))] :: [.lst (ws.map .int)]) = .nx (HL.start 2 [.ref h.length, x]) (h ++ .ins "Slow" [("cells", .ref (h.length + 1)), ("lines_told", .int 0)] :: [.lst (ws.map .int)]) := qg rfl rfl (by decide) (by simp only [List.length_cons, List.length_nil]; omega)
  have s3 : gW ["Slow"] "lines_put" (ae 0) (dC (.int 0)) (HL.start 2 [.ref h.length, x]) (h ++ .ins "Slow" [("cells", .ref (h.length + 1)), ("lines_told", .int 0)] :: [.lst (ws.map .int)]) = .nx (HL.start 2 [.ref h.length, x]) (h ++ iC (h.length + 1) 0 0 :: [.lst (ws.map .int)]) := qg rfl rfl (by decide) (by simp only [List.length_cons, List.length_nil]; omega)
  refine wd (s' := HL.start 2 [.ref h.length, x]) rfl ?_
  unfold gv
  show aI _ _ (HL.start 2 [.ref h.length, x]) (h ++ .ins "Slow" [] :: []) = _
  rw [aB s1, aB s2]
  exact s3
theorem uX (hl : ns.length ≤ 63) (M : Mx (fun _ => False) s h [.val (fG ns), .no, .no, .no, .no, .no, .no, .no, .no, .no, .no, .no]) : ∃ (s' : Sg) (h' : Sh) (L w sl c : Nat) (ws : List Int), (∀ R, aI EX (aI EW (aI EB (aI EV (aI EU (aI ET (aI ES R)))))) s h = R s' h') ∧ 1 ≤ L ∧ L ≤ 16 ∧ Tn ns L w sl c s' h' ws 0 0 .no .no .no .no := by
  obtain ⟨v, pv, v0⟩ := lz ns 1 hl (by decide) (by decide)
  have hLn : ∃ L : Nat, (L : Int) = 1 + v % 16 ∧ 1 ≤ L ∧ L ≤ 16 := ⟨(1 + v % 16).toNat, by omega, by omega, by omega⟩
  obtain ⟨L, hL, L1, L2⟩ := hLn
  obtain ⟨w1, q0, e0, M0, _⟩ := M.sset (i := 1) (aY gQ (aR 1).b (aY gf (eu gy (aK (ar 0) (aK (aR 1) cO))).b (aR 16).b).b) (r := .int (L : Int)) (aW (x := .int 1) (y := .int (v % 16)) rfl (aW (x := .int v) (y := .int 16) (cj (r := .v (.int v)) (xs := [fG ns, .int 1]) rfl pv) rfl (cJ _ _ (by decide))) (by rw [dE, hL]))
  generalize s.set 1 (some w1) = s1 at e0 M0
  generalize h ++ q0 = h1 at e0 M0
  have ln1 : s1.length = 12 := M0.ln
  have MM0 : ∀ (T' : Nat → Prop) (h7 : Sh), (∀ i, T' i → h1.length ≤ i) → (∀ (i : Nat) (o : SO), h1[i]? = some o → h7[i]? = some o) → (∀ i, T' i → i < h7.length) → Mx T' s1 h7 [.val (fG ns), .val (.int (L : Int)), .no, .no, .no, .no, .no, .no, .no, .no, .no, .no] := fun T' h7 a b c => M0.more (fun i z => .inr (a i z)) (fun i o _ e => b i o e) c
  obtain ⟨x0, g0, d0⟩ := M0.get (i := 0) rfl
  obtain ⟨x1, g1, d1⟩ := M0.get (i := 1) rfl
  simp only [Dn] at d1
  subst d1
  obtain ⟨ws, pw, lw⟩ := ph ns hl 100 (by decide) (by decide) (4 * L) (by omega)
  obtain ⟨wv, l1, e1, r1⟩ := jZ (fun _ => False) h1 [x0, .int 100, .int ((4 * L : Nat) : Int)] [fG ns, .int 100, .int ((4 * L : Nat) : Int)] _ M0.lt (by simp only [Dns, Dn]; exact ⟨_, _, rfl, d0, _, _, rfl, rfl, _, _, rfl, rfl, rfl⟩) pw
  simp only [yX] at r1
  obtain ⟨w, us, rfl, lew, gw, dw⟩ := r1
  rw [ly dw] at gw
  have n1 : EW s1 h1 = .nx (s1.set 2 (some (.ref w))) (h1 ++ l1) := fX (gR (az (aO g0) (az (x := .int 100) rfl (az (rb (x := ae 1) (j := (L : Int)) (fun _ => aO g1) h1) rfl))) (by
    rw [show (4 * (L : Int)) = ((4 * L : Nat) : Int) by omega]; exact e1))
  have M1 : Mx (fun _ => False) (s1.set 2 (some (.ref w))) (h1 ++ l1) [.val (fG ns), .val (.int (L : Int)), .no, .no, .no, .no, .no, .no, .no, .no, .no, .no] := M0.app.no 2
  have lw1 : w < (h1 ++ l1).length := (List.getElem?_eq_some_iff.mp gw).1
  have g2 : (s1.set 2 (some (W.ref w)))[2]? = some (some (.ref w)) := List.getElem?_set_self (by omega)
  have MM2 : ∀ (T' : Nat → Prop) (h7 : Sh), (∀ i, T' i → h1.length ≤ i) → (∀ (i : Nat) (o : SO), h1[i]? = some o → h7[i]? = some o) → (∀ i, T' i → i < h7.length) → Mx T' (s1.set 2 (some (.ref w))) h7 [.val (fG ns), .val (.int (L : Int)), .no, .no, .no, .no, .no, .no, .no, .no, .no, .no] := fun T' h7 a b c => (MM0 T' h7 a b c).no 2
  generalize s1.set 2 (some (W.ref w)) = s2 at n1 M1 g2 MM2
  have k1 : h1.length ≤ w := lew
  have c2 : ∀ (i : Nat) (o : SO), h1[i]? = some o → (h1 ++ l1)[i]? = some o := fun i o e => ao e
  have le2 : h1.length ≤ (h1 ++ l1).length := by rw [List.length_append]; omega
  generalize hh2 : h1 ++ l1 = h2 at n1 M1 gw lw1 c2 le2
  -- what is handed in
  have ln2 : s2.length = 12 := M1.ln
  have a1 : dB bQ (aa (ae 2) aj) s2 h2 = .ok (.ref h2.length) (h2 ++ [.lst (ws.map .int)]) := fk (az (aO g2) rfl) (by simp only [bQ, nj gw, OR.fin])
  have a2 : dB bZ (aa (ae 2) aj) s2 (h2 ++ [.lst (ws.map .int)]) = .ok (.ref (h2.length + 1)) (h2 ++ [.lst (ws.map .int)] ++ [.tup (ws.map .int)]) := by
    have := nS (s := s2) (h := h2 ++ [.lst (ws.map .int)]) (v := ae 2) (aO g2) (ao gw)
    rw [rk] at this; exact this
  have a3 : dB ju (aa (dB bQ (aa (ae 2) aj)) (aa (dB bZ (aa (ae 2) aj)) aj)) s2 h2 = .ok (.ref (h2.length + 2)) (h2 ++ [.lst (ws.map .int), .tup (ws.map .int), .lst [.ref h2.length, .ref (h2.length + 1)]]) := fk (az a1 (az a2 rfl)) (by
    show HL.R.ok (W.ref (h2 ++ [SO.lst (ws.map .int)] ++ [SO.tup (ws.map .int)]).length) _ = _
    rw [rk, rk]
    simp only [List.append_assoc, List.cons_append, List.nil_append])
  have M2 := M1.app (l := [.lst (ws.map .int), .tup (ws.map .int), .lst [.ref h2.length, .ref (h2.length + 1)]])
  have b0 : (h2 ++ [SO.lst (ws.map .int), .tup (ws.map .int), .lst [.ref h2.length, .ref (h2.length + 1)]])[h2.length]? = some (.lst (ws.map .int)) := oO
  have b1 : (h2 ++ [SO.lst (ws.map .int), .tup (ws.map .int), .lst [.ref h2.length, .ref (h2.length + 1)]])[h2.length + 1]? = some (.tup (ws.map .int)) := by rw [List.getElem?_append_right (by omega), show h2.length + 1 - h2.length = 1 by omega]; rfl
  have b2 : (h2 ++ [SO.lst (ws.map .int), .tup (ws.map .int), .lst [.ref h2.length, .ref (h2.length + 1)]])[h2.length + 2]? = some (.lst [.ref h2.length, .ref (h2.length + 1)]) := by rw [List.getElem?_append_right (by omega), show h2.length + 2 - h2.length = 2 by omega]; rfl
  have bw : (h2 ++ [SO.lst (ws.map .int), .tup (ws.map .int), .lst [.ref h2.length, .ref (h2.length + 1)]])[w]? = some (.lst (ws.map .int)) := ao gw
  have c3 : ∀ (i : Nat) (o : SO), h1[i]? = some o → (h2 ++ [SO.lst (ws.map .int), .tup (ws.map .int), .lst [.ref h2.length, .ref (h2.length + 1)]])[i]? = some o := fun i o e => ao (c2 i o e)
  generalize h2 ++ [SO.lst (ws.map .int), .tup (ws.map .int), .lst [.ref h2.length, .ref (h2.length + 1)]] = h3 at a3 M2 b0 b1 b2 bw c3
  obtain ⟨v2, pv2, v20⟩ := lz ns 2 hl (by decide) (by decide)
  obtain ⟨wm, l3, e3, d3⟩ := M2.e (aY gf (eu gy (aK (ar 0) (aK (aR 2) cO))).b (aR 2).b) (r := .int (v2 % 2)) (aW (x := .int v2) (y := .int 2) (cj (r := .v (.int v2)) (xs := [fG ns, .int 2]) rfl pv2) rfl (cJ _ _ (by decide)))
  simp only [Dn] at d3
  subst d3
  have M3 := M2.app (l := l3)
  have hd : ∃ g, EB s2 h2 = .nx (s2.set 3 (some (.ref g))) (h3 ++ l3) ∧ ((h3 ++ l3)[g]? = some (.lst (ws.map .int)) ∧ g ≠ w ∨ (h3 ++ l3)[g]? = some (.tup (ws.map .int))) ∧ h1.length ≤ g := by
    have ix : ∀ (k : Nat) (x : W), v2 % 2 = (k : Int) → [W.ref h2.length, W.ref (h2.length + 1)][k]? = some x → EB s2 h2 = .nx (s2.set 3 (some x)) (h3 ++ l3) := fun k x ek ex => by
      refine fX (dJ a3 e3 ?_)
      have hk := (List.getElem?_eq_some_iff.mp ex).1
      have at_ : BV [W.ref h2.length, W.ref (h2.length + 1)] (v2 % 2) = some x := by
        rw [ek]; unfold BV kU; rw [if_pos (by omega), if_pos (by omega)]; exact ex
      simp only [o4, nj (ao (l := l3) b2), at_, OR.fin]
    have cs : v2 % 2 = ((0 : Nat) : Int) ∨ v2 % 2 = ((1 : Nat) : Int) := by omega
    rcases cs with cs | cs
    · exact ⟨h2.length, ix 0 _ cs rfl, .inl ⟨ao b0, by omega⟩, by omega⟩
    · exact ⟨h2.length + 1, ix 1 _ cs rfl, .inr (ao b1), by omega⟩
  obtain ⟨g, e4, hg, leg⟩ := hd
  have bw4 : (h3 ++ l3)[w]? = some (.lst (ws.map .int)) := ao bw
  have M4 : Mx (fun _ => False) (s2.set 3 (some (.ref g))) (h3 ++ l3) [.val (fG ns), .val (.int (L : Int)), .no, .no, .no, .no, .no, .no, .no, .no, .no, .no] := M3.no 3
  have g3 : (s2.set 3 (some (W.ref g)))[3]? = some (some (.ref g)) := List.getElem?_set_self (by omega)
  have g2' := aJ (i := 3) (x := some (W.ref g)) (by decide) g2
  have MM3 : ∀ (T' : Nat → Prop) (h7 : Sh), (∀ i, T' i → h1.length ≤ i) → (∀ (i : Nat) (o : SO), h1[i]? = some o → h7[i]? = some o) → (∀ i, T' i → i < h7.length) → Mx T' (s2.set 3 (some (.ref g))) h7 [.val (fG ns), .val (.int (L : Int)), .no, .no, .no, .no, .no, .no, .no, .no, .no, .no] := fun T' h7 a b c => (MM2 T' h7 a b c).no 3
  have c4 : ∀ (i : Nat) (o : SO), h1[i]? = some o → (h3 ++ l3)[i]? = some o := fun i o e => ao (c3 i o e)
  generalize s2.set 3 (some (W.ref g)) = s3 at e4 M4 g3 g2' MM3
  generalize h3 ++ l3 = h4 at e4 M4 hg bw4 c4
  have sq : fg h4 (.ref g) = some (ws.map .int) := by
    rcases hg with ⟨z, _⟩ | z
    · exact nj z
    · simp only [fg, lstW, eL, z, Option.or]
  have e5 : EV s3 h4 = .nx (s3.set 4 (some (.ref h4.length))) (h4 ++ iC (h4.length + 1) 0 0 :: [.lst (ws.map .int)]) := fX (Bq (az (aO g3) rfl) (yz sq))
  have ln3 : s3.length = 12 := M4.ln
  have lw4 : w < h4.length := (List.getElem?_eq_some_iff.mp bw4).1
  have lg4 : g < h4.length := by
    rcases hg with ⟨z, _⟩ | z
    · exact (List.getElem?_eq_some_iff.mp z).1
    · exact (List.getElem?_eq_some_iff.mp z).1
  have g4 : (s3.set 4 (some (W.ref h4.length)))[4]? = some (some (.ref h4.length)) := List.getElem?_set_self (by omega)
  have h2'' := aJ (i := 4) (x := some (W.ref h4.length)) (by decide) g2'
  have h3'' := aJ (i := 4) (x := some (W.ref h4.length)) (by decide) g3
  have S5 : St (h4 ++ iC (h4.length + 1) 0 0 :: [.lst (ws.map .int)]) w h4.length (h4.length + 1) ws 0 0 := ⟨ao bw4, oO, by rw [List.getElem?_append_right (by omega), show h4.length + 1 - h4.length = 1 by omega]; rfl, by omega⟩
  have MM4 : ∀ (T' : Nat → Prop) (h7 : Sh), (∀ i, T' i → h1.length ≤ i) → (∀ (i : Nat) (o : SO), h1[i]? = some o → h7[i]? = some o) → (∀ i, T' i → i < h7.length) → Mx T' (s3.set 4 (some (.ref h4.length))) h7 [.val (fG ns), .val (.int (L : Int)), .no, .no, .no, .no, .no, .no, .no, .no, .no, .no] := fun T' h7 a b c => (MM3 T' h7 a b c).no 4
  have c5 : ∀ (i : Nat) (o : SO), h1[i]? = some o → (h4 ++ iC (h4.length + 1) 0 0 :: [.lst (ws.map .int)])[i]? = some o := fun i o e => ao (c4 i o e)
  have hg5 : (h4 ++ iC (h4.length + 1) 0 0 :: [.lst (ws.map .int)])[g]? = some (.lst (ws.map .int)) ∧ g ≠ w ∨ (h4 ++ iC (h4.length + 1) 0 0 :: [.lst (ws.map .int)])[g]? = some (.tup (ws.map .int)) := hg.imp (fun z => ⟨ao z.1, z.2⟩) ao
  have le4 : h1.length ≤ h4.length := by omega
  generalize s3.set 4 (some (W.ref h4.length)) = s4 at e5 g4 h2'' h3'' MM4
  generalize h4 ++ iC (h4.length + 1) 0 0 :: [.lst (ws.map .int)] = h5 at e5 S5 c5 hg5
  have e6 : ∃ h6, EU s4 h5 = .nx s4 h6 ∧ St h6 w h4.length (h4.length + 1) ws 0 0 ∧ ∀ (i : Nat) (o : SO), h1[i]? = some o → h6[i]? = some o := by
    rcases hg5 with ⟨z, nw⟩ | z
    · refine ⟨h5.set g (.lst ((ws.map W.int).set 0 (W.int 70001))), sj (zE (aO h3'') z) (lE (j := dC (.int (0 : Nat))) (k := 0) rfl (aO h3'') rfl z (by rw [List.length_map, lw]; omega)), ⟨aq S5.gw nw, aq S5.gs (by omega), aq S5.gc (by omega), S5.wc⟩, fun i o e => aq (c5 i o e) (by have := (List.getElem?_eq_some_iff.mp e).1; omega)⟩
    · exact ⟨h5, jb (zD (aO h3'') z), S5, c5⟩
  obtain ⟨h6, e6, S6, c6⟩ := e6
  have M6 := MM4 (Tm w h4.length (h4.length + 1)) h6 (fun i z => by rcases z with z | z | z <;> omega) c6 (fun i z => by
    rcases z with rfl | rfl | rfl
    · exact (List.getElem?_eq_some_iff.mp S6.gw).1
    · exact (List.getElem?_eq_some_iff.mp S6.gs).1
    · exact (List.getElem?_eq_some_iff.mp S6.gc).1)
  obtain ⟨w5, q5, e7, M7, _⟩ := M6.sset (i := 5) (aR 0) (r := .int 0) rfl
  obtain ⟨w6, q6, e8, M8, _⟩ := M7.sset (i := 6) (aR 0) (r := .int 0) rfl
  refine ⟨(s4.set 5 (some w5)).set 6 (some w6), h6 ++ q5 ++ q6, L, w, h4.length, h4.length + 1, ws, fun R => ?_, L1, L2, lw, S6.app.app, aJ (by decide) (aJ (by decide) h2''), aJ (by decide) (aJ (by decide) g4), M8⟩
  rw [aB (show EX s h = _ from e0), aB n1, aB e4, aB e5, aB e6, aB (show ET _ _ = _ from e7), aB (show ES _ _ = _ from e8)]
theorem qu (hL : ws.length = 4 * L) {acc : Nat} (nw : acc ≠ w) (nc : acc ≠ c) : ∀ (xs : List Nat) (h : Sh) (t u : Int) (k : Nat) (y : Option W), (∀ j ∈ xs, (j : Int) < L) → k + xs.length ≤ 1000 → St h w sl c ws t u → h[acc]? = some (.lst (List.replicate k (.bl true))) → ∃ h', jg (.fix (cn 0 L)) (d7 0) kr (aS aG (aa (ae 2) (aa (ae 0) (aa (ae 1) aj)))) acc (xs.map fun (j : Nat) => W.int (0 + (j : Int))) [y, some (.ref w), some (.ref sl)] h = .ok (.ref acc) h' ∧ h'[acc]? = some (.lst (List.replicate (k + xs.length) (.bl true)))
  | [], h, t, u, k, y, _, _, S, g => ⟨h, rfl, g⟩
  | j :: xs, h, t, u, k, y, hj, hk, S, g => by
    rw [List.length_cons] at hk
    obtain ⟨h1, e1, S1, le1, k1⟩ := pP S hL (hj j (List.mem_cons_self ..))
    have ns : acc ≠ sl := iH g S.gs (by unfold iC; exact fun z => nomatch z)
    have g1 := k1 acc _ ns g
    have la : acc < h1.length := (List.getElem?_eq_some_iff.mp g1).1
    have S2 : St (h1.set acc (.lst (List.replicate k (W.bl true) ++ [.bl true]))) w sl c ws (t + 1) u := ⟨aq S1.gw nw, aq S1.gs ns, aq S1.gc nc, S1.wc⟩
    have g2 : (h1.set acc (.lst (List.replicate k (W.bl true) ++ [.bl true])))[acc]? = some (.lst (List.replicate (k + 1) (.bl true))) := by
      rw [List.getElem?_set_self la, List.replicate_succ']
    obtain ⟨h3, e3, g3⟩ := qu hL nw nc xs _ (t + 1) u (k + 1) (some (.int (0 + (j : Int)))) (fun i hi => hj i (List.mem_cons_of_mem _ hi)) (by omega) S2 g2
    refine ⟨h3, ?_, by rw [List.length_cons, show k + (xs.length + 1) = k + 1 + xs.length by omega]; exact g3⟩
    have e1' : aS aG (aa (ae 2) (aa (ae 0) (aa (ae 1) aj))) [some (.int (0 + (j : Int))), some (.ref w), some (.ref sl)] h = .ok (.bl true) h1 := gR (xs := [.ref sl, .int (0 + (j : Int)), .ref w]) rfl (by rw [Int.zero_add]; exact e1)
    rw [List.map_cons, jg]
    have gn : d7 0 (.int (0 + (j : Int))) [y, some (.ref w), some (.ref sl)] h = some [some (.int (0 + (j : Int))), some (.ref w), some (.ref sl)] := rfl
    rw [gn]
    have lim : (List.replicate k (W.bl true)).length < gT ∧ It.stays (.fix (cn 0 L)) h1 ∧ acc < h1.length := ⟨by rw [List.length_replicate]; unfold gT; omega, trivial, la⟩
    simp only [kr, R.bind, if_true, e1', g1]
    rw [if_pos lim]
    exact e3
theorem yw (l2 : L ≤ 16) {a b d e : Sl} (X : Tn ns L w sl c s h ws t u a b d e) : ∃ h', Fx s h = .rt (.bl true) h' := by
  obtain ⟨w1, g1, d1⟩ := X.mx.get (i := 1) rfl
  simp only [Dn] at d1
  subst d1
  have ir : cc (ae 1) s h = .ok (.fix (cn 0 L)) h := mr (by omega) (aO g1)
  have lw : w < h.length := (List.getElem?_eq_some_iff.mp X.st.gw).1
  have lc : c < h.length := (List.getElem?_eq_some_iff.mp X.st.gc).1
  obtain ⟨h', e1, g2⟩ := qu (ws := ws) (L := L) (w := w) (sl := sl) (c := c) X.hL (acc := h.length) (by omega) (by omega) (List.range L) (h ++ [.lst []]) t u 0 none (fun j hj => by have := List.mem_range.mp hj; omega) (by rw [List.length_range]; omega) X.st.app bF
  have cp : mE 1 [2, 4] s = [none, some (.ref w), some (.ref sl)] := by
    show [none, (s[2]?).getD none, (s[4]?).getD none] = _
    rw [X.s2, X.s4]; rfl
  have e2 : iJ (cc (ae 1)) 1 [2, 4] (d7 0) kr (aS aG (aa (ae 2) (aa (ae 0) (aa (ae 1) aj)))) s h = .ok (.ref h.length) h' := wC ir (by rw [cp]; exact e1)
  refine ⟨h', iY (fk (az e2 rfl) ?_)⟩
  have lw : lstW h' (.ref h.length) = some (List.replicate (0 + (List.range L).length) (.bl true)) := by simp only [lstW, g2]
  simp only [qB, lw]
  have a2 : ∀ n, (List.replicate n (W.bl true)).all (fun y => y == .bl true) = true := fun n => by rw [List.all_eq_true]; intro y hy; rw [(List.mem_replicate.mp hy).2]; rfl
  rw [if_pos (by rw [List.all_eq_true]; intro y hy; rw [(List.mem_replicate.mp hy).2]), a2]; rfl
end
theorem good (ns : List Int) (hl : ns.length ≤ 63) : ∃ h', tf [.ref iL.length] (iL ++ [.rol (ns.map HL.W.int)]) = .ok (.bl true) h' := by
  show ∃ h', tf [.ref 0] [.rol (ns.map HL.W.int)] = .ok (.bl true) h'
  have M0 : Mx (fun _ => False) (HL.start 12 [.ref 0]) [.rol (ns.map HL.W.int)] [.val (fG ns), .no, .no, .no, .no, .no, .no, .no, .no, .no, .no, .no] := Mx.start (m := 12) (ps := [fG ns]) (fun i z => z.elim) (Dns.one (by unfold fG; simp only [Dn]; exact ⟨0, _, rfl, id, rfl, ez ns⟩))
  obtain ⟨s1, h1, L, w, sl, c, ws, e1, L1, L2, X1⟩ := uX hl M0
  have X1' : ∃ ws t u a b d e, Tn ns L w sl c s1 h1 ws t u a b d e := ⟨ws, 0, 0, _, _, _, _, X1⟩
  obtain ⟨x0, g0, d0⟩ := X1.mx.get (i := 0) rfl
  have hn : ∃ n : Nat, n ≤ 20 ∧ ∃ l, dB kM (aa (aE bt (dB fb (aa (ae 0) aj)) (dC (.int 4))) (aa (dC (.int 20)) aj)) s1 h1 = .ok (.int (n : Int)) (h1 ++ l) := by
    have sq : fg h1 x0 = some (ns.map .int) := by
      unfold fG at d0
      simp only [Dn] at d0
      obtain ⟨i, us, rfl, _, g, ds⟩ := d0
      rw [ly ds] at g
      simp only [fg, lstW, g, Option.or]
    have nstr : fb [x0] h1 = .val (.int ((ns.map W.int).length : Nat)) := by
      cases x0 with
      | ref i => simp only [fb, sq]
      | _ => cases sq
    have b1 : dB fb (aa (ae 0) aj) s1 h1 = .ok (.int ((ns.map W.int).length : Nat)) h1 := fk (az (aO g0) rfl) (by rw [nstr]; rfl)
    rw [List.length_map] at b1
    have b2 : aE bt (dB fb (aa (ae 0) aj)) (dC (.int 4)) s1 h1 = .ok (.int ((ns.length : Int) + 4)) h1 := dJ b1 rfl rfl
    refine ⟨min (ns.length + 4) 20, by omega, [], ?_⟩
    rw [List.append_nil]
    refine fk (az b2 (az (x := .int 20) rfl rfl)) ?_
    show R.ok (W.int (if (20 : Int) < (ns.length : Int) + 4 then 20 else (ns.length : Int) + 4)) h1 = _
    congr 2
    split <;> omega
  obtain ⟨n, hn, q, en⟩ := hn
  have X2 : ∃ ws t u a b d e, Tn ns L w sl c s1 (h1 ++ q) ws t u a b d e := ⟨ws, 0, 0, _, _, _, _, X1.app⟩
  obtain ⟨s3, h3, e3, X3⟩ := sY (t := .fix (cn 0 n)) (i := 7) (b := r8) (fun s h => ∃ ws t u a b d e, Tn ns L w sl c s h ws t u a b d e) (fun _ => trivial) (cn 0 n) (fun x hx s h ⟨ws, t, u, a, b, d, e, X⟩ => by
    unfold cn at hx
    obtain ⟨k, hk, rfl⟩ := List.mem_map.mp hx
    have hk := List.mem_range.mp hk
    obtain ⟨s', h', ws', t', u', a', b', d', e', z, Y⟩ := xw hl L1 L2 (k := k) (by omega) X
    refine ⟨s', h', ?_, ws', t', u', a', b', d', e', Y⟩
    rw [Int.zero_add]; exact z) s1 (h1 ++ q) X2
  have e4 : Fy s1 h1 = .nx s3 h3 := xM (mr (by omega) en) e3
  obtain ⟨ws3, t3, u3, a3, b3, d3, e3', X3⟩ := X3
  obtain ⟨h', e5⟩ := yw L2 X3
  refine ⟨h', nF rfl ?_⟩
  rw [ER, e1, aB e4]
  exact e5
end K41
namespace K41
open PySem L2
def nO (dj dX fF gS b4 : Addr) : List (Str × Addr × List HL.W) := [("MillError", dj, [.gl "MillError", .ty "ValueError"]), ("NoLine", dX, [.gl "NoLine", .gl "MillError", .ty "ValueError"]), ("NoPlace", fF, [.gl "NoPlace", .gl "MillError", .ty "ValueError"]), ("NoSets", gS, [.gl "NoSets", .gl "MillError", .ty "ValueError"]), ("Slow", b4, [.gl "Slow"])]
theorem Fl {P : Program} {w : World} {K : PySem.W.Frag} {mg : Str → Option Value} {dj dX fF gS b4 : Addr} (eV : mg "MillError" = some (.ref dj)) (fJ : mg "NoLine" = some (.ref dX)) (gP : mg "NoPlace" = some (.ref fF)) (iI : mg "NoSets" = some (.ref gS)) (cG : mg "Slow" = some (.ref b4)) (pd : mg "all" = none) (jj : mg "bool" = none) (eK : mg "enumerate" = none) (lA : mg "int" = none) (aD : mg "isinstance" = none) (iz : mg "len" = none) (ff : mg "list" = none) (o9 : mg "min" = none) (gU : mg "range" = none) (fo : mg "tuple" = none) (hi : ∀ p ∈ nO dj dX fF gS b4, p.2.2.contains (.ty "ValueError") = false → tJ K p.2.1) (hx : ∀ p ∈ nO dj dX fF gS b4, p.2.2.contains (.ty "ValueError") = true → nM K p.2.1) (hb : BC K (nO dj dX fF gS b4) = true) (aL : nN K b4) (jO : Fs K mg "Slow" b4) (gE : fL K b4 "cells") (dG : fL K b4 "lines_put") (cU : fL K b4 "lines_told") (exm_NoLine_NoLine : PySem.W.exmOne K (.ref dX) (.ref dX) = some true) (gK : y0 K mg "NoLine" dX) (iR : aV K mg "_law_cell" fU) (iQ : aV K mg "_law_word" fT) (ia : aV K mg "_law_words" fq) (iT : bB K b4 "__init__" "Slow.__init__" fW ["self", "words"]) (gF : aV K mg "_law_number" eB) (ie : aV K mg "_law_there" fu) (iP : aV K mg "is_number" fS) (iO : aV K mg "is_within" fR) (bI : bB K b4 "refuse_no_line" "Slow.refuse_no_line" bc ["self", "k"]) (gz : bB K b4 "four" "Slow.four" eM ["self", "k"]) (cR : bB K b4 "put_four" "Slow.put_four" b6 ["self", "k", "words"]) (fM : aV K mg "_law_refused" dm) (dR : aV K mg "_law_line_right" cb) (ib : aV K mg "_law_whole" ft) (gG : bB K b4 "writes" "Slow.writes" eC ["self"]) (ij : bB K b4 "reads" "Slow.reads" fw ["self"]) (ig : bB K b4 "whole" "Slow.whole" fv ["self"]) (iS : bB K b4 "size" "Slow.size" fV ["self"]) (fN : aV K mg "_law_counted" dq) (xc : aV K mg "law" si) : xb P w K mg 6 :=
  all (γ := gm mg) (ρ := fun _ => 0) ⟨pd,
    jj,
    eK,
    lA,
    aD,
    iz,
    ff,
    o9,
    gU,
    fo,
    ux (by intro p hp; simp only [nO, List.mem_cons, List.not_mem_nil, or_false] at hp; rcases hp with rfl | rfl | rfl | rfl | rfl <;> (first | exact cf eV | exact cf fJ | exact cf gP | exact cf iI | exact cf cG)) hi hx hb,
    (by rw [cf cG]; exact aL),
    (by rw [cf cG]; exact jO),
    (by rw [cf eV]; exact eV),
    (by rw [cf fJ]; exact fJ),
    (by rw [cf gP]; exact gP),
    (by rw [cf iI]; exact iI),
    (by intro c hc; rw [List.mem_singleton.mp hc, cf cG]; exact ⟨aL, gE⟩),
    (by intro c hc; rw [List.mem_singleton.mp hc, cf cG]; exact ⟨aL, dG⟩),
    (by intro c hc; rw [List.mem_singleton.mp hc, cf cG]; exact ⟨aL, cU⟩),
    (by intro c hc; simp only [List.contains_cons, List.contains_nil, Bool.or_false, beq_iff_eq] at hc; subst hc; rw [cf fJ]; exact exm_NoLine_NoLine),
    (by rw [cf fJ]; exact gK)⟩ jx.nil iR
    iQ
    ia
    (by rw [cf cG]; exact iT)
    gF
    ie
    iP
    iO
    (by rw [cf cG]; exact bI)
    (by rw [cf cG]; exact gz)
    (by rw [cf cG]; exact cR)
    fM
    dR
    ib
    (by rw [cf cG]; exact gG)
    (by rw [cf cG]; exact ij)
    (by rw [cf cG]; exact ig)
    (by rw [cf cG]; exact iS)
    fN
    xc good
end K41
open PySem PySem.W PyProof.Rows
set_option maxRecDepth 100000 in
set_option maxHeartbeats 0 in
theorem PySem.Challenge.cw_x_holds : PySem.Challenge.rw_rowmill_k41_slow_memory.Holds := by
  w_on; o_law; k_head; (case hw => w_witness2)
  k_fill
  refine L2.tO (l := PySem.Challenge.rw_rowmill_k41_slow_memory) (k := 6) rfl rfl ⟨rfl, by decide, by decide⟩ (fun w h Y => PySem.W.kIn_of Y) rfl ?F
  case F =>
    intro w mg h KX G
    refine' K41.Fl ?eV ?fJ ?gP ?iI ?cG ?pd ?jj ?eK ?lA ?aD ?iz ?ff ?o9 ?gU ?fo ?hi ?hx ?hb ?aL ?jO ?gE ?dG ?cU ?exm_NoLine_NoLine ?gK (L2.b5 KX G ?a0 ?l0 ?c0 ?k0) (L2.b5 KX G ?a1 ?l1 ?c1 ?k1) (L2.b5 KX G ?a2 ?l2 ?c2 ?k2) (L2.eR ?a3 ?l3 ?c3 ?k3 ?n3 ?b3) (L2.b5 KX G ?a4 ?l4 ?c4 ?k4) (L2.b5 KX G ?a5 ?l5 ?c5 ?k5) (L2.b5 KX G ?a6 ?l6 ?c6 ?k6) (L2.b5 KX G ?a7 ?l7 ?c7 ?k7) (L2.eR ?a8 ?l8 ?c8 ?k8 ?n8 ?b8) (L2.eR ?a9 ?l9 ?c9 ?k9 ?n9 ?b9) (L2.eR ?a10 ?l10 ?c10 ?k10 ?n10 ?b10) (L2.b5 KX G ?a11 ?l11 ?c11 ?k11) (L2.b5 KX G ?a12 ?l12 ?c12 ?k12) (L2.b5 KX G ?a13 ?l13 ?c13 ?k13) (L2.eR ?a14 ?l14 ?c14 ?k14 ?n14 ?b14) (L2.eR ?a15 ?l15 ?c15 ?k15 ?n15 ?b15) (L2.eR ?a16 ?l16 ?c16 ?k16 ?n16 ?b16) (L2.eR ?a17 ?l17 ?c17 ?k17 ?n17 ?b17) (L2.b5 KX G ?a18 ?l18 ?c18 ?k18) (L2.b5 KX G ?a19 ?l19 ?c19 ?k19)
    case eV | fJ | gP | iI | cG => exact PySem.W.mg_of KX G (by k_is)
    case pd | jj | eK | lA | aD | iz | ff | o9 | gU | fo => exact PySem.W.mg_none_of KX G (by k_is)
    case hi => intro p hp hv; simp only [K41.nO, List.mem_cons, List.not_mem_nil, or_false] at hp; rcases hp with rfl | rfl | rfl | rfl | rfl <;> first | (exfalso; revert hv; decide) | exact ⟨⟨by k_is, by k_is, by k_is, by k_is⟩, by k_is, by k_is, by k_is, by k_is⟩
    case hx => intro p hp hv; simp only [K41.nO, List.mem_cons, List.not_mem_nil, or_false] at hp; rcases hp with rfl | rfl | rfl | rfl | rfl <;> first | (exfalso; revert hv; decide) | exact { cl := by kernel_rfl, sa := by k_is, ga := by k_is, gt := by k_is, ha := by k_is, hn := by k_is, htk := by k_is }
    case hb | exm_NoLine_NoLine => kernel_rfl
    case aL => exact ⟨by k_is, by k_is, by k_is, by k_is⟩
    case jO => exact ⟨PySem.W.mg_of KX G (by k_is), by k_is, by k_is⟩
    case gE | dG | cU => unfold L2.fL; k_is
    case gK => exact ⟨PySem.W.mg_of KX G (by k_is), by kernel_rfl, by k_is⟩
    case a0 | l0 | c0 | k0 | a1 | l1 | c1 | k1 | a2 | l2 | c2 | k2 | a3 | l3 | c3 | k3 | n3 | a4 | l4 | c4 | k4 | a5 | l5 | c5 | k5 | a6 | l6 | c6 | k6 | a7 | l7 | c7 | k7 | a8 | l8 | c8 | k8 | n8 | a9 | l9 | c9 | k9 | n9 | a10 | l10 | c10 | k10 | n10 | a11 | l11 | c11 | k11 | a12 | l12 | c12 | k12 | a13 | l13 | c13 | k13 | a14 | l14 | c14 | k14 | n14 | a15 | l15 | c15 | k15 | n15 | a16 | l16 | c16 | k16 | n16 | a17 | l17 | c17 | k17 | n17 | a18 | l18 | c18 | k18 | a19 | l19 | c19 | k19 => k_is
    case b3 | b8 | b9 => exact fun s us X hl => match us, hl with | [_, _], _ => PySem.W.kp_binds X (fun S => by kernel_rfl)
    case b10 => exact fun s us X hl => match us, hl with | [_, _, _], _ => PySem.W.kp_binds X (fun S => by kernel_rfl)
    case b14 | b15 | b16 | b17 => exact fun s us X hl => match us, hl with | [_], _ => PySem.W.kp_binds X (fun S => by kernel_rfl)
theorem PySem.Challenge.cw_rowmill_k41_slow_memory_holds : PySem.Challenge.rw_rowmill_k41_slow_memory.Holds := by
  exact PySem.Challenge.cw_x_holds
