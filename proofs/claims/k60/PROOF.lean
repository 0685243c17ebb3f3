import PyProof.Rows.All
import Wide.All
import OpenK.AllK
import Wide.FinOn
import Lean
import PyProof.EqAt
import PyProof.EqKinds
import PyProof.TupleCall
import PySem.Challenge.RW_rootpapers_k60_papers_written
set_option Elab.async false
set_option linter.all false
set_option maxRecDepth 100000
set_option maxHeartbeats 4000000
local macro_rules|`(tactic|omega)=>`(tactic|first|decide|lia|(omega (config:={})))
-- CHANGE: your row's module here, as the last of these rows
namespace L2
open PySem PySem.Spec PyProof.Rows
noncomputable abbrev Key := Sum Int Str
noncomputable def keyIs : Key → Value → Bool
 | .inl k, v => Value.isInt k v
 | .inr x, v => Value.isStrOf x v
noncomputable def keyH (w : World) : Key → Int
 | .inl k => hashInt k
 | .inr x => hashStr w x
theorem keyIs_shape : ∀ {k : Key} {v : Value}, keyIs k v = true → (∃ i t, k = Sum.inl i ∧ v = Value.int i t) ∨ (∃ x t, k = Sum.inr x ∧ v = Value.str x t)
 | .inl i, v, h => by
   obtain ⟨t, e⟩ := Value.isInt_shape (k := i) (v := v) h
   exact .inl ⟨i, t, rfl, e⟩
 | .inr x, v, h => by
   obtain ⟨t, e⟩ := Value.isStrOf_shape (x := x) (v := v) h
   exact .inr ⟨x, t, rfl, e⟩
theorem key_ll (a b : Int) : decide ((Sum.inl a : Key) = Sum.inl b) = (a == b) := by
 by_cases e : a = b
 · subst e; simp
 · have h : ¬ (Sum.inl a : Key) = Sum.inl b := fun q => e (Sum.inl.inj q)
   rw [decide_eq_false h]
   exact (beq_eq_false_iff_ne.mpr e).symm
theorem key_rr (a b : Str) : decide ((Sum.inr a : Key) = Sum.inr b) = decide (a = b) := by
 by_cases e : a = b
 · subst e; simp
 · have h : ¬ (Sum.inr a : Key) = Sum.inr b := fun q => e (Sum.inr.inj q)
   rw [decide_eq_false h, decide_eq_false e]
theorem key_lr (a : Int) (b : Str) : decide ((Sum.inl a : Key) = Sum.inr b) = false := decide_eq_false (fun q => nomatch q)
theorem key_rl (a : Str) (b : Int) : decide ((Sum.inr a : Key) = Sum.inl b) = false := decide_eq_false (fun q => nomatch q)
noncomputable def mixKind (prog : Program) (w : World) : PySem.KeyKind prog w Key where
 is := keyIs
 hash := keyH w
 inj := fun v a b ha hb => by
   rcases keyIs_shape ha with ⟨i, t, rfl, rfl⟩ | ⟨x, t, rfl, rfl⟩
   · rcases keyIs_shape hb with ⟨j, u, rfl, e⟩ | ⟨y, u, rfl, e⟩
     · injection e with e1 _; rw [e1]
     · exact nomatch e
   · rcases keyIs_shape hb with ⟨j, u, rfl, e⟩ | ⟨y, u, rfl, e⟩
     · exact nomatch e
     · injection e with e1 _; rw [e1]
 byValue := fun k v h => by
   rcases keyIs_shape h with ⟨i, t, rfl, rfl⟩ | ⟨x, t, rfl, rfl⟩ <;> rfl
 pyHash := fun hv h => by
   rcases keyIs_shape hv with ⟨i, t, rfl, rfl⟩ | ⟨x, t, rfl, rfl⟩
   · exact wpAny_pyHash_int h
   · exact wpAny_pyHash_str h
 eqBool := fun hu hv h => by
   rcases keyIs_shape hu with ⟨i, t, rfl, rfl⟩ | ⟨x, t, rfl, rfl⟩
   · rcases keyIs_shape hv with ⟨j, u, rfl, rfl⟩ | ⟨y, u, rfl, rfl⟩
     · rw [key_ll] at h; exact wpAny_eqBool_int h
     · rw [key_lr] at h; exact SeqAt.EqAt.int_str i t y u _ _ _ _ h
   · rcases keyIs_shape hv with ⟨j, u, rfl, rfl⟩ | ⟨y, u, rfl, rfl⟩
     · rw [key_rl] at h; exact SeqAt.EqAt.str_int x t j u _ _ _ _ h
     · rw [key_rr] at h; exact wpAny_eqBool_str h
 «strs» := fun k x t v h => by
   rcases keyIs_shape h with ⟨i, u, rfl, e⟩ | ⟨y, u, rfl, e⟩
   · exact nomatch e
   · injection e with e1 _
     subst e1
     cases v <;> rfl
end L2
namespace L2
open PySem PySem.Spec PyProof.Rows
inductive V where
 | non | bl (b : Bool) | int (i : Int) | str (x : Str) | byt (b : Array UInt8) | flt (b : UInt64) | ref (a : Addr) | ty (n : String)
 deriving DecidableEq
noncomputable def RelV : V → Value → Prop
 | .non, u => u = Value.none
 | .bl b, u => u = Value.bool b
 | .int i, u => ∃ t, u = Value.int i t
 | .str x, u => ∃ t, u = Value.str x t
 | .byt b, u => ∃ t, u = Value.bytes b t
 | .flt b, u => ∃ t, u = Value.float b t
 | .ref a, u => u = Value.ref a
 | .ty n, u => u = Value.type n
noncomputable abbrev Vals : List V → List Value → Prop := Paired RelV
theorem Vals.length {xs : List V} {us : List Value} (r : Vals xs us) : xs.length = us.length := Paired.length r
theorem Vals.get : ∀ {xs : List V} {us : List Value} {i : Nat} {x : V}, Vals xs us → xs[i]? = some x → ∃ u, us[i]? = some u ∧ RelV x u
 | _, _, _, _, .nil, e => by simp at e
 | _, _, 0, _, .cons r _, e => by simp at e; subst e; exact ⟨_, rfl, r⟩
 | _, _, i + 1, x, .cons _ t, e => by
   obtain ⟨u, h1, h2⟩ := Vals.get (i := i) (x := x) t (by simpa using e)
   exact ⟨u, by simpa using h1, h2⟩
theorem Vals.append : ∀ {xs ys : List V} {us ws : List Value}, Vals xs us → Vals ys ws → Vals (xs ++ ys) (us ++ ws)
 | _, _, _, _, .nil, s => s
 | _, _, _, _, .cons r t, s => .cons r (Vals.append t s)
theorem Vals.take : ∀ {xs : List V} {us : List Value} (n : Nat), Vals xs us → Vals (xs.take n) (us.take n)
 | _, _, 0, _ => .nil
 | _, _, _ + 1, .nil => .nil
 | _, _, n + 1, .cons r t => .cons r (Vals.take n t)
theorem Vals.drop : ∀ {xs : List V} {us : List Value} (n : Nat), Vals xs us → Vals (xs.drop n) (us.drop n)
 | _, _, 0, r => r
 | _, _, _ + 1, .nil => .nil
 | _, _, n + 1, .cons _ t => Vals.drop n t
noncomputable def RelO : Option V → Option Value → Prop
 | some v, some u => RelV v u
 | none, none => True
 | _, _ => False
noncomputable def KV {κ : Type} : List (κ × V) → List (κ × Value) → Prop := Paired fun (p : κ × V) (q : κ × Value) => p.1 = q.1 ∧ RelV p.2 q.2
noncomputable def kV : Key → V
 | .inl i => .int i
 | .inr x => .str x
inductive HO where
 | lst (xs : List V)
 | tup (xs : List V)
 | dK (kvs : List (Key × V)) | dT (kvs : List (List Key × V))
 | set (S : Int → Bool) (n : Nat)
 | ins (C dx : Addr) (fs : List (Str × V))
 | own (x : Addr)
 | xd (fs : List (Str × V))
 | met (f x : Addr)
 | rng (lo hi : Int)
 | frz (o : Obj) (u : HO)
 | tbl (ps : Array Value)
 | ext (φ : Heap → Prop)
noncomputable abbrev Hp := Addr → Option HO
noncomputable def upd (H : Hp) (a : Addr) (o : HO) : Hp := fun b => if b = a then some o else H b
theorem upd_same {H : Hp} {a : Addr} {o : HO} : upd H a o a = some o := by unfold upd; rw [if_pos rfl]
theorem upd_ne {H : Hp} {a b : Addr} {o : HO} (h : b ≠ a) : upd H a o b = H b := by unfold upd; rw [if_neg h]
theorem upd_upd {H : Hp} {a : Addr} {o u : HO} : upd (upd H a o) a u = upd H a u := by
 funext b; unfold upd; split <;> rfl
theorem ne_of {H : Hp} {a b : Addr} {o u : HO} (h : H a = some o) (h' : H b = some u) (d : o ≠ u) : a ≠ b := by
 intro e; subst e; rw [h] at h'; exact d (Option.some.inj h')
theorem ne_of_none {H : Hp} {a b : Addr} {o : HO} (h : H a = some o) (h' : H b = none) : a ≠ b := by
 intro e; subst e; rw [h] at h'; cases h'
section
variable (P : Program) (w : World)
noncomputable def ObjOk (H : Hp) (h : Heap) (a : Addr) : HO → Prop
 | .lst xs => xs.length ≤ sizeLine ∧ ∃ (its : List Value) (n : Nat), Vals xs its ∧ h.get? a = some { cls := .type "list", data := .seq its.toArray n }
 | .tup xs => xs.length ≤ sizeLine ∧ ∃ its : List Value, Vals xs its ∧ IsTup h a its.toArray
 | .dK kvs => kvs.length ≤ sizeLine ∧ (a == sysModules) = false ∧ ∃ vs, KV kvs vs ∧ h.DictOf (mixKind P w) a vs
 | .dT kvs => kvs.length ≤ sizeLine ∧ (a == sysModules) = false ∧ ∃ xs : List (List Key × Addr × Value),
     Paired (fun (p : List Key × V) (q : List Key × Addr × Value) => p.1 = q.1 ∧ H q.2.1 = some (.tup (p.1.map kV)) ∧ RelV p.2 q.2.2) kvs xs ∧
     ∃ o es ep, h.get? a = some o ∧ o.ExactDict ∧ o.data = .dict es ep ∧ es.toList = xs.map (entryOfKey (tupleKind (mixKind P w))) ∧ (xs.map (·.1)).Nodup
 | .set S n => h.SetOf (intKind P w) a S n
 | .ins C dx fs => H dx = some (.own a) ∧ fs.length ≤ 1000 ∧ dx ≠ a ∧ h.get? a = some (PySem.W.instObj C dx) ∧
     ∃ mA, h.Ns1 dx mA ∧ (∀ f, RelO (fs.lookup f) (mA f)) ∧ PySem.Within mA (fs.map (·.1))
 | .own _ => ∃ o, h.get? a = some o
 | .xd fs => ∃ mA, h.Ns1 a mA ∧ ∀ f, RelO (fs.lookup f) (mA f)
 | .rng lo hi => ∃ t u v, h.get? a = some { cls := .type "range", data := .fields #[.int lo t, .int hi u, .int 1 v] }
 | .frz o u => h.get? a = some o ∧ ObjOk H h a u
 | .tbl ps => h.get? a = some { cls := .none, data := .fields ps }
 | .met f x => h.get? a = some (PySem.W.methodObj (.ref f) (.ref x))
 | .ext φ => φ h ∧ (∃ o, h.get? a = some o) ∧ ∀ h1 h2 : Heap, φ h1 → (∀ o, h1.get? a = some o → h2.get? a = some o) → φ h2
noncomputable def HOk (H : Hp) (h : Heap) : Prop := ∀ a o, H a = some o → ObjOk P w H h a o
end
section
variable {P : Program} {w : World} {H H' : Hp} {h h' : Heap} {a : Addr} {o : HO}
theorem ObjOk.lt (x : ObjOk P w H h a o) : a < h.objs.size := by
 cases o with
 | lst xs => obtain ⟨_, _, _, _, e⟩ := x; exact Heap.lt_size e
 | tup xs => obtain ⟨_, _, _, p⟩ := x; exact p.lt
 | dK kvs => obtain ⟨_, _, _, _, o, _, _, e, _⟩ := x; exact Heap.lt_size e
 | dT kvs => obtain ⟨_, _, _, _, o, _, _, e, _⟩ := x; exact Heap.lt_size e
 | set S n => obtain ⟨o, _, _, _, e, _⟩ := x; exact Heap.lt_size e
 | ins C dx fs => obtain ⟨_, _, _, e, _⟩ := x; exact Heap.lt_size e
 | own y => obtain ⟨_, e⟩ := x; exact Heap.lt_size e
 | xd fs => obtain ⟨_, ⟨_, _, _, e, _⟩, _⟩ := x; exact Heap.lt_size e
 | rng lo hi => obtain ⟨_, _, _, e⟩ := x; exact Heap.lt_size e
 | frz ob u => obtain ⟨e, _⟩ := x; exact Heap.lt_size e
 | tbl ps => exact Heap.lt_size (show h.get? a = some _ from x)
 | met f y => exact Heap.lt_size (show h.get? a = some _ from x)
 | ext φ => obtain ⟨_, ⟨_, e⟩, _⟩ := x; exact Heap.lt_size e
theorem Paired.mapP {α β : Type} {F G : α → β → Prop} : ∀ {l₁ : List α} {l₂ : List β}, Paired F l₁ l₂ → (∀ a b, F a b → G a b) → Paired G l₁ l₂
 | _, _, .nil, _ => .nil
 | _, _, .cons r t, f => .cons (f _ _ r) (Paired.mapP t f)
theorem ObjOk.stay (x : ObjOk P w H h a o) (k : ∀ b u, (b = a ∨ H b = some (.own a)) → h.get? b = some u → h'.get? b = some u)
   (ho : ∀ b, H b = some (.own a) → H' b = some (.own a)) (ht : ∀ b xs, H b = some (.tup xs) → H' b = some (.tup xs)) : ObjOk P w H' h' a o := by
 induction o with
 | lst xs => obtain ⟨z, its, n, r, e⟩ := x; exact ⟨z, its, n, r, k _ _ (.inl rfl) e⟩
 | tup xs => obtain ⟨z, its, r, ob, e, c⟩ := x; exact ⟨z, its, r, ob, k _ _ (.inl rfl) e, c⟩
 | dK kvs => obtain ⟨z, y, vs, r, ob, es, ep, e, c⟩ := x; exact ⟨z, y, vs, r, ob, es, ep, k _ _ (.inl rfl) e, c⟩
 | dT kvs =>
   obtain ⟨z, y, xs, r, ob, es, ep, e, c⟩ := x
   exact ⟨z, y, xs, Paired.mapP r fun p q z => ⟨z.1, ht _ _ z.2.1, z.2.2⟩, ob, es, ep, k _ _ (.inl rfl) e, c⟩
 | set S n => obtain ⟨ob, es, ep, t, e, c⟩ := x; exact ⟨ob, es, ep, t, k _ _ (.inl rfl) e, c⟩
 | ins C dx fs =>
   obtain ⟨d, z, ne, e, mA, ⟨od, es, ep, e2, c⟩, r⟩ := x
   exact ⟨ho _ d, z, ne, k _ _ (.inl rfl) e, mA, ⟨od, es, ep, k _ _ (.inr d) e2, c⟩, r⟩
 | own y => obtain ⟨ob, e⟩ := x; exact ⟨ob, k _ _ (.inl rfl) e⟩
 | xd fs => obtain ⟨mA, ⟨od, es, ep, e, c⟩, r⟩ := x; exact ⟨mA, ⟨od, es, ep, k _ _ (.inl rfl) e, c⟩, r⟩
 | rng lo hi => obtain ⟨t, u, v, e⟩ := x; exact ⟨t, u, v, k _ _ (.inl rfl) e⟩
 | frz ob u ih => obtain ⟨e, q⟩ := x; exact ⟨k _ _ (.inl rfl) e, ih q⟩
 | tbl ps =>
   have e : h.get? a = some { cls := .none, data := .fields ps } := x
   show h'.get? a = some { cls := .none, data := .fields ps }
   exact k a _ (.inl rfl) e
 | met f y =>
   have e : h.get? a = some (PySem.W.methodObj (.ref f) (.ref y)) := x
   show h'.get? a = some (PySem.W.methodObj (.ref f) (.ref y))
   exact k a _ (.inl rfl) e
 | ext φ => obtain ⟨p, ⟨o, e⟩, st⟩ := x; exact ⟨st _ _ p fun o q => k _ _ (.inl rfl) q, ⟨o, k _ _ (.inl rfl) e⟩, st⟩
theorem HOk.lt (x : HOk P w H h) (e : H a = some o) : a < h.objs.size := (x a o e).lt
theorem HOk.fresh (x : HOk P w H h) (e : h.objs.size ≤ a) : H a = none := by
 cases q : H a with
 | none => rfl
 | some u => exact absurd (Nat.lt_of_lt_of_le (x.lt q) e) (Nat.lt_irrefl _)
theorem HOk.kept (x : HOk P w H h) (k : ∀ b u, h.get? b = some u → h'.get? b = some u) : HOk P w H h' := fun a o e =>
 (x a o e).stay (fun b u _ q => k b u q) (fun _ q => q) fun _ _ q => q
theorem HOk.laid (x : HOk P w H h) (k : ∀ b u, h.get? b = some u → h'.get? b = some u) (hp : h.objs.size ≤ a) (new : ObjOk P w (upd H a o) h' a o) : HOk P w (upd H a o) h' := fun b u e => by
 have hn := x.fresh hp
 by_cases hb : b = a
 · subst hb; rw [upd_same] at e; cases e; exact new
 · rw [upd_ne hb] at e
   exact (x b u e).stay (fun c v _ q => k c v q) (fun c q => by rw [upd_ne (ne_of_none q hn)]; exact q) fun c xs q => by rw [upd_ne (ne_of_none q hn)]; exact q
end
noncomputable def Rd (H : Hp) (a : Addr) (u : HO) : Prop := H a = some u ∨ ∃ o, H a = some (.frz o u)
theorem Rd.ok {P : Program} {w : World} {H : Hp} {h : Heap} {a : Addr} {u : HO} (r : Rd H a u) (x : HOk P w H h) : ObjOk P w H h a u := by
 rcases r with r | ⟨o, r⟩
 · exact x a u r
 · obtain ⟨_, q⟩ := x a _ r
   exact q
noncomputable def Mut : Option HO → Prop
 | some (.lst _) => True
 | some (.dK _) => True
 | some (.dT _) => True
 | some (.set _ _) => True
 | some (.ins _ _ _) => True
 | some (.ext _) => True
 | _ => False
section
variable {P : Program} {w : World} {H : Hp} {h h' : Heap} {x e : Addr} {o' : HO}
theorem HOk.write (ok : HOk P w H h) (mu : Mut (H x)) (he : e = x ∨ H e = some (.own x)) (k : ∀ b u, b ≠ e → h.get? b = some u → h'.get? b = some u) (heo : ∃ u, h'.get? e = some u)
   (new : ObjOk P w (upd H x o') h' x o') : HOk P w (upd H x o') h' := fun b u q => by
 have nown : ∀ c y, H c = some (.own y) → c ≠ x := fun c y r z => by subst z; rw [r] at mu; exact mu
 have ntup : ∀ c xs, H c = some (.tup xs) → c ≠ x := fun c xs r z => by subst z; rw [r] at mu; exact mu
 by_cases hb : b = x
 · subst hb; rw [upd_same] at q; cases q; exact new
 · rw [upd_ne hb] at q
   by_cases hbe : b = e
   · have q' : H b = some (.own x) := by
       rcases he with z | z
       · exact absurd (hbe.trans z) hb
       · rw [hbe]; exact z
     rw [q] at q'; cases q'
     obtain ⟨v, hv⟩ := heo
     exact ⟨v, by rw [hbe]; exact hv⟩
   · refine (ok b u q).stay (fun c v hc r => k c v ?_ r) (fun c r => by rw [upd_ne (nown c b r)]; exact r) fun c xs r => by rw [upd_ne (ntup c xs r)]; exact r
     rcases hc with rfl | hc
     · exact hbe
     · rintro rfl
       rcases he with z | z
       · exact nown c b hc z
       · rw [hc] at z; cases z; exact hb rfl
end
structure Un (fs ex : List Addr) (H H' : Hp) (h h' : Heap) : Prop where
 keep : ∀ b o, h.get? b = some o → H b = none → b ∉ fs → b ∉ ex → h'.get? b = some o
 slot : ∀ b o, h.get? b = some o → H b = none → b ∈ fs → b ∉ ex → ∃ sl, h'.get? b = some { o with slots := sl }
 free : ∀ b o, h.get? b = some o → H b = none → b ∉ ex → H' b = none
 there : ∀ b o, h.get? b = some o → b ∉ ex → ∃ o', h'.get? b = some o'
 tups : ∀ b xs, H b = some (.tup xs) → H' b = some (.tup xs)
 frzs : ∀ b o u, H b = some (.frz o u) → H' b = some (.frz o u)
 tbls : ∀ b ps, H b = some (.tbl ps) → ∃ more, H' b = some (.tbl (ps ++ more))
section
variable {fs fs' ex ex' : List Addr} {H H1 H2 : Hp} {h h1 h2 h' : Heap} {a x e : Addr} {o : HO}
theorem Un.any (u : Un fs ex H H1 h h1) {b : Addr} {ob : Obj} (q : h.get? b = some ob) (n : H b = none) (hx : b ∉ ex) : ∃ sl, h1.get? b = some { ob with slots := sl } := by
 by_cases hb : b ∈ fs
 · exact u.slot b ob q n hb hx
 · exact ⟨ob.slots, u.keep b ob q n hb hx⟩
theorem Un.kept (k : ∀ b u, h.get? b = some u → h'.get? b = some u) : Un fs ex H H h h' :=
 ⟨fun b ob q _ _ _ => k b ob q, fun b ob q _ _ _ => ⟨ob.slots, k b ob q⟩, fun _ _ _ n _ => n, fun b ob q _ => ⟨ob, k b ob q⟩, fun _ _ q => q, fun _ _ _ q => q, fun _ ps q => ⟨#[], by rw [q]; simp⟩⟩
theorem Un.refl : Un fs ex H H h h := Un.kept fun _ _ q => q
theorem Un.laid (k : ∀ b u, h.get? b = some u → h'.get? b = some u) (hp : h.objs.size ≤ a) (hn : H a = none) : Un fs ex H (upd H a o) h h' where
 keep := fun b u q _ _ _ => k b u q
 slot := fun b u q _ _ _ => ⟨u.slots, k b u q⟩
 free := fun b u q n _ => by rw [upd_ne (Nat.ne_of_lt (Nat.lt_of_lt_of_le (Heap.lt_size q) hp))]; exact n
 there := fun b u q _ => ⟨u, k b u q⟩
 tups := fun b xs q => by rw [upd_ne (ne_of_none q hn)]; exact q
 frzs := fun b u xs q => by rw [upd_ne (ne_of_none q hn)]; exact q
 tbls := fun b ps q => ⟨#[], by rw [upd_ne (ne_of_none q hn), q]; simp⟩
theorem Un.write (mu : Mut (H x)) (he : e = x ∨ H e = some (.own x)) (k : ∀ b u, b ≠ e → h.get? b = some u → h'.get? b = some u) (heo : ∃ u, h'.get? e = some u) : Un fs ex H (upd H x o) h h' := by
 have hx : ∀ b, H b = none → b ≠ x := fun b n z => by subst z; rw [n] at mu; exact mu
 have hb : ∀ b, H b = none → b ≠ e := fun b n z => by
   subst z
   rcases he with r | r
   · exact hx b n r
   · rw [n] at r; cases r
 have hm : ∀ b u, H b = some u → ¬ Mut (some u) → b ≠ x := fun b u q nm z => by subst z; rw [q] at mu; exact nm mu
 refine ⟨fun b u q n _ _ => k b u (hb b n) q, fun b u q n _ _ => ⟨u.slots, k b u (hb b n) q⟩, fun b u q n _ => by rw [upd_ne (hx b n)]; exact n, fun b u q _ => ?_,
   fun b xs q => by rw [upd_ne (hm b _ q fun z => z)]; exact q, fun b u xs q => by rw [upd_ne (hm b _ q fun z => z)]; exact q, fun b ps q => ⟨#[], by rw [upd_ne (hm b _ q fun z => z), q]; simp⟩⟩
 by_cases hbe : b = e
 · subst hbe; exact heo
 · exact ⟨u, k b u hbe q⟩
end
noncomputable def trk (h : Heap) (H : Hp) : List Addr := (List.range h.objs.size).filter fun a => (H a).isSome
noncomputable def hidT (h : Heap) (H : Hp) : Heap := PySem.W.hideAll h (trk h H)
theorem hidT_size (h : Heap) (H : Hp) : (hidT h H).objs.size = h.objs.size := PySem.W.hideAll_size _ _
theorem hidT_get {h : Heap} {H : Hp} {b : Addr} {o : Obj} (e : h.get? b = some o) (n : H b = none) : (hidT h H).get? b = some o :=
 PySem.W.hideAll_get _ e fun hm => by
   have q : (H b).isSome = true := (List.mem_filter.mp hm).2
   rw [n] at q; simp at q
theorem of_hidT {h : Heap} {H : Hp} {b : Addr} {o : Obj} (e : (hidT h H).get? b = some o) : h.get? b = some o ∧ H b = none := by
 have e' : h.get? b = some o := PySem.W.of_hideAll (trk h H) e
 refine ⟨e', ?_⟩
 cases q : H b with
 | none => rfl
 | some x =>
   have hm : b ∈ trk h H := List.mem_filter.mpr ⟨List.mem_range.mpr (Heap.lt_size e'), by simp [q]⟩
   have z : (hidT h H).get? b = none := PySem.W.hideAll_none (trk h H) hm
   rw [z] at e; cases e
noncomputable def allNews (g h : Heap) (L : Addr) : List (Addr × Obj) := (List.range h.objs.size).filterMap fun a => if a = L ∨ (g.get? a).isSome = true then none else (h.get? a).map fun o => (a, o)
noncomputable def rest (g h : Heap) (L d : Addr) : List (Addr × Obj) := (allNews g h L).filter fun p => decide (p.1 ≠ d)
end L2
namespace L2
open PySem PySem.Spec PyProof.Rows
structure Mod (K : PySem.W.Frag) (mg : Str → Option Value) (base : Heap) : Prop where
 kin : K.In base
 glob : base.Ns mainGlobals mg
 blt : ∃ mb, base.Ns builtinsNs mb ∧ ∀ x : Str, x ≠ "__name__" → mb x = bootBuiltins x
 nolimit : base.NoLimit
structure Cx where
 prog : Program
 w : World
 K : PySem.W.Frag
 mg : Str → Option Value
 base : Heap
 A : Around
 N : List Str
 s₀ : Shared
 H₀ : Hp
 env : Env
 outer : List Env
 stack : List Env
 ex : List Addr
 fn : Str → Bool
 calm : Bool
 pn : List (Addr × Obj)
 xe : Value → Shared → Prop
noncomputable def frs (l : List Env) : List Addr := l.filterMap (·.frame)
noncomputable abbrev Cx.fs (X : Cx) : List Addr := frs X.outer
noncomputable def Vis (sc : Scope) (x : Str) : Prop := sc.names.lookup x = some .local ∨ sc.names.lookup x = some .cell ∨ sc.names.lookup x = some .free
noncomputable def Loc (sc : Scope) (x : Str) : Prop := sc.names.lookup x = some .local ∨ sc.names.lookup x = some .cell
noncomputable def Look (env : Env) (h : Heap) (m : Str → Option Value) (x : Str) (u : Value) : Prop :=
 (env.kindOf x = some .local ∧ m x = some u) ∨ ((env.kindOf x = some .cell ∨ env.kindOf x = some .free) ∧ ∃ c, env.cells.lookup x = some c ∧ h.IsCell c (some u))
structure Cx.Ok (X : Cx) : Prop where
 mod : Mod X.K X.mg X.base
 kind : X.env.scope.kind = .function
 glob : X.env.globals = mainGlobals
 blt : X.env.builtins = builtinsNs
 above : X.s₀.heap.objs.size ≤ X.env.locals
 inj : ∀ x y c, X.env.cells.lookup x = some c → X.env.cells.lookup y = some c → x = y
 has : ∀ x, (X.env.kindOf x = some .cell ∨ X.env.kindOf x = some .free) → ∃ c, X.env.cells.lookup x = some c
 cab : ∀ x c, X.fn x = true → X.env.cells.lookup x = some c → X.s₀.heap.objs.size ≤ c
 hd : X.calm = true → X.A.handled = none
 frames : X.A.frames = some X.stack
 stk : X.stack = X.outer ∨ (X.stack = X.env :: X.outer ∧ X.env.frame = some X.env.locals)
 exf : ∀ b ∈ X.ex, b ≠ X.env.locals ∧ ∀ x c, X.env.cells.lookup x = some c → c ≠ b
 bs : ∀ b o, X.base.get? b = some o → X.s₀.heap.get? b = some o ∧ X.H₀ b = none
 bsz : X.base.objs.size ≤ X.s₀.heap.objs.size
 noex : ∀ b o, X.base.get? b = some o → b ∉ X.ex
 exfs : ∀ b ∈ X.ex, b ∉ X.fs
 funs : X.s₀.heap.FunFrames X.base X.outer
 frf : ∀ b ∈ X.fs, X.H₀ b = none
structure Inv (X : Cx) (pins : List (Addr × Obj)) (σ : List (Option V)) (H : Hp) (s : Shared) : Prop where
 ok : X.Ok
 os : s.os = X.s₀.os
 bare : AllBare s.gens
 base : Un X.fs X.ex X.H₀ H X.s₀.heap s.heap
 loc : ∃ m, s.heap.Ns X.env.locals m ∧ ∀ (i : Nat) (x : Str) (v : V), X.N[i]? = some x → σ[i]? = some (some v) → Vis X.env.scope x → ∃ u, RelV v u ∧ Look X.env s.heap m x u
 cell : ∀ x c, X.env.cells.lookup x = some c → ∃ v, s.heap.IsCell c v
 free : H X.env.locals = none
 freeC : ∀ x c, X.env.cells.lookup x = some c → H c = none
 pin : ∀ p ∈ X.pn ++ pins, s.heap.get? p.1 = some p.2 ∧ H p.1 = none ∧ p.1 ≠ X.env.locals ∧ p.1 ∉ X.fs ∧ ∀ v, p.2.data ≠ .cell v
 hok : HOk X.prog X.w H s.heap
 len : σ.length = X.N.length
section
variable {X : Cx} {pins : List (Addr × Obj)} {σ : List (Option V)} {H H' : Hp} {s : Shared} {h' : Heap}
theorem Cx.Ok.nofr (ok : X.Ok) {b : Addr} {o : Obj} (e : X.base.get? b = some o) : b ∉ X.fs := fun hb => by
 have := (ok.funs.mem hb).1
 rw [e] at this; cases this
theorem Inv.bs (I : Inv X pins σ H s) : ∀ b o, X.base.get? b = some o → s.heap.get? b = some o ∧ H b = none := fun b o e =>
 ⟨I.base.keep b o (I.ok.bs b o e).1 (I.ok.bs b o e).2 (I.ok.nofr e) (I.ok.noex b o e), I.base.free b o (I.ok.bs b o e).1 (I.ok.bs b o e).2 (I.ok.noex b o e)⟩
theorem Inv.bk (I : Inv X pins σ H s) : ∀ b o, X.base.get? b = some o → s.heap.get? b = some o := fun b o e => (I.bs b o e).1
theorem Inv.mod (I : Inv X pins σ H s) : Mod X.K X.mg X.base := I.ok.mod
theorem Inv.kIn (I : Inv X pins σ H s) : X.K.In s.heap := I.ok.mod.kin.keeps I.bk
theorem Inv.lt (I : Inv X pins σ H s) : X.env.locals < s.heap.objs.size := let ⟨_, hn, _⟩ := I.loc; hn.lt
theorem Inv.sz (I : Inv X pins σ H s) : X.s₀.heap.objs.size ≤ s.heap.objs.size := Nat.le_trans I.ok.above (Nat.le_of_lt I.lt)
theorem Inv.nofs (I : Inv X pins σ H s) {a : Addr} (h : s.heap.objs.size ≤ a) : a ∉ X.fs := fun hb => by
 obtain ⟨_, o, ho, _⟩ := I.ok.funs.mem hb
 exact absurd (Nat.lt_of_lt_of_le (Heap.lt_size ho) (Nat.le_trans I.sz h)) (Nat.lt_irrefl _)
theorem Inv.cne (I : Inv X pins σ H s) : ∀ x c, X.env.cells.lookup x = some c → c ≠ X.env.locals := fun x c e z => by
 obtain ⟨v, o, ho, hd⟩ := I.cell x c e
 obtain ⟨m, ⟨o', es, ep, ho', hd', _⟩, _⟩ := I.loc
 rw [z, ho'] at ho; cases ho; rw [hd'] at hd; cases hd
theorem Inv.funs (I : Inv X pins σ H s) : s.heap.FunFrames X.base X.outer := by
 have all : ∀ (l : List Env), (∀ b ∈ frs l, b ∈ X.fs) → X.s₀.heap.FunFrames X.base l → s.heap.FunFrames X.base l := by
   intro l
   induction l with
   | nil => intro _ _; trivial
   | cons env r ih =>
     intro hs hl
     obtain ⟨hk, ⟨L, o, hf, hn, ho, hd⟩, hr⟩ := hl
     have hL : L ∈ X.fs := hs L (by unfold frs; rw [List.filterMap_cons, hf]; exact List.mem_cons_self)
     obtain ⟨sl, e⟩ := I.base.slot L o ho (I.ok.frf L hL) hL fun z => I.ok.exfs L z hL
     exact ⟨hk, ⟨L, _, hf, hn, e, hd⟩, ih (fun b hb => hs b (by unfold frs; rw [List.filterMap_cons, hf]; exact List.mem_cons_of_mem _ hb)) hr⟩
 exact all X.outer (fun _ hb => hb) I.ok.funs
theorem Inv.stack (I : Inv X pins σ H s) : s.heap.FunFrames X.base X.stack := by
 rcases I.ok.stk with e | ⟨e, hf⟩
 · rw [e]; exact I.funs
 · rw [e]
   obtain ⟨m, hn, _⟩ := I.loc
   refine .cons (by rw [I.ok.kind]; decide) hf hn ?_ I.funs
   exact Heap.get?_none_of_le (Nat.le_trans I.ok.bsz I.ok.above)
theorem Inv.stkSub (I : Inv X pins σ H s) : ∀ b ∈ frs X.stack, b ∈ X.env.locals :: X.fs := fun b hb => by
 rcases I.ok.stk with e | ⟨e, hf⟩
 · rw [e] at hb; exact List.mem_cons_of_mem _ hb
 · rw [e] at hb
   unfold frs at hb
   rw [List.filterMap_cons, hf] at hb
   exact hb
theorem Inv.stkFree (I : Inv X pins σ H s) : ∀ b ∈ frs X.stack, H b = none := fun b hb => by
 rcases List.mem_cons.mp (I.stkSub b hb) with e | hb
 · rw [e]; exact I.free
 · obtain ⟨_, o, ho, _⟩ := I.ok.funs.mem hb
   exact I.base.free b o ho (I.ok.frf b hb) fun z => I.ok.exfs b z hb
theorem Inv.step {g' : Array GenState} {t' : Nat} {d' : Drawn} {ch : List Addr} (I : Inv X pins σ H s)
   (hch : ∀ b ∈ ch, (b ∈ X.ex ∨ X.s₀.heap.objs.size ≤ b) ∧ b ≠ X.env.locals ∧ (∀ x c, X.env.cells.lookup x = some c → c ≠ b) ∧ ∀ p ∈ X.pn ++ pins, p.1 ≠ b)
   (keep : ∀ b o, b ≠ X.env.locals → b ∉ X.fs → b ∉ ch → s.heap.get? b = some o → H b = none → h'.get? b = some o)
   (slot : ∀ b o, b ≠ X.env.locals → b ∈ X.fs → b ∉ ch → s.heap.get? b = some o → H b = none → ∃ sl, h'.get? b = some { o with slots := sl }) (free : ∀ b o, b ∉ ch → s.heap.get? b = some o → H b = none → H' b = none)
   (there : ∀ b o, b ∉ ch → s.heap.get? b = some o → ∃ o', h'.get? b = some o')
   (tups : ∀ b xs, H b = some (.tup xs) → H' b = some (.tup xs)) (frzs : ∀ b o u, H b = some (.frz o u) → H' b = some (.frz o u)) (tbls : ∀ b ps, H b = some (.tbl ps) → ∃ more, H' b = some (.tbl (ps ++ more)))
   (ns : ∀ m, s.heap.Ns X.env.locals m → h'.Ns X.env.locals m) (hok : HOk X.prog X.w H' h') (hg : AllBare g') :
   Inv X pins σ H' { s with heap := h', gens := g', drawn := d', toks := t' } := by
 have neL : ∀ b o, X.s₀.heap.get? b = some o → b ≠ X.env.locals := fun b o e => Nat.ne_of_lt (Nat.lt_of_lt_of_le (Heap.lt_size e) I.ok.above)
 have neC : ∀ b o, X.s₀.heap.get? b = some o → b ∉ X.ex → b ∉ ch := fun b o e hx hb => by
   rcases (hch b hb).1 with z | z
   · exact hx z
   · exact absurd (Nat.lt_of_lt_of_le (Heap.lt_size e) z) (Nat.lt_irrefl _)
 have cellK : ∀ x c, X.env.cells.lookup x = some c → ∀ v, s.heap.IsCell c v → h'.IsCell c v := fun x c e v ⟨o, ho, hd⟩ => by
   have nch : c ∉ ch := fun z => (hch c z).2.2.1 x c e rfl
   by_cases hc : c ∈ X.fs
   · obtain ⟨sl, q⟩ := slot c o (I.cne x c e) hc nch ho (I.freeC x c e)
     exact ⟨_, q, hd⟩
   · exact ⟨o, keep c o (I.cne x c e) hc nch ho (I.freeC x c e), hd⟩
 refine ⟨I.ok, I.os, hg, ⟨fun b o e n hb hx => ?_, fun b o e n hb hx => ?_, fun b o e n hx => ?_, fun b o e hx => ?_, fun b xs e => tups b xs (I.base.tups b xs e), fun b o xs e => frzs b o xs (I.base.frzs b o xs e), fun b ps e => ?_⟩, ?_, fun x c e => ?_, ?_, fun x c e => ?_, fun p hp => ?_, hok, I.len⟩
 · exact keep b o (neL b o e) hb (neC b o e hx) (I.base.keep b o e n hb hx) (I.base.free b o e n hx)
 · obtain ⟨sl, e1⟩ := I.base.slot b o e n hb hx
   obtain ⟨sl', e2⟩ := slot b _ (neL b o e) hb (neC b o e hx) e1 (I.base.free b o e n hx)
   exact ⟨sl', e2⟩
 · obtain ⟨o', e1⟩ := I.base.there b o e hx
   exact free b o' (neC b o e hx) e1 (I.base.free b o e n hx)
 · obtain ⟨o', e1⟩ := I.base.there b o e hx
   exact there b o' (neC b o e hx) e1
 · obtain ⟨m1, e1⟩ := I.base.tbls b ps e
   obtain ⟨m2, e2⟩ := tbls b _ e1
   exact ⟨m1 ++ m2, by rw [e2, Array.append_assoc]⟩
 · obtain ⟨m, hn, hl⟩ := I.loc
   refine ⟨m, ns m hn, fun i x v e1 e2 e3 => ?_⟩
   obtain ⟨u, r, l⟩ := hl i x v e1 e2 e3
   refine ⟨u, r, ?_⟩
   rcases l with l | ⟨k, c, e, z⟩
   · exact .inl l
   · exact .inr ⟨k, c, e, cellK x c e _ z⟩
 · obtain ⟨v, z⟩ := I.cell x c e
   exact ⟨v, cellK x c e v z⟩
 · obtain ⟨m, ⟨o, _, _, ho, _⟩, _⟩ := I.loc
   exact free _ o (fun z => (hch _ z).2.1 rfl) ho I.free
 · obtain ⟨v, o, ho, hd⟩ := I.cell x c e
   exact free c o (fun z => (hch c z).2.2.1 x c e rfl) ho (I.freeC x c e)
 · obtain ⟨e, n, ne, nf, d⟩ := I.pin p hp
   have nch : p.1 ∉ ch := fun z => (hch p.1 z).2.2.2 p hp rfl
   exact ⟨keep p.1 p.2 ne nf nch e n, free p.1 p.2 nch e n, ne, nf, d⟩
theorem Inv.un {t' : Nat} (I : Inv X pins σ H s) (u : Un X.fs [] H H' s.heap h') (hok : HOk X.prog X.w H' h') : Inv X pins σ H' { s with heap := h', toks := t' } := by
 obtain ⟨m, ⟨o, es, ep, ho, r⟩, _⟩ := id I.loc
 obtain ⟨sl, hL⟩ := u.any ho I.free (by simp)
 exact I.step (g' := s.gens) (d' := s.drawn) (ch := []) (fun _ z => nomatch z) (fun b o _ hb _ e n => u.keep b o e n hb (by simp)) (fun b o _ hb _ e n => u.slot b o e n hb (by simp)) (fun b o _ e n => u.free b o e n (by simp)) (fun b o _ e => u.there b o e (by simp)) u.tups u.frzs u.tbls (fun m' hm => by
   obtain ⟨o', es', ep', ho', r'⟩ := hm
   rw [ho] at ho'; cases ho'
   exact ⟨_, es', ep', hL, r'⟩) hok I.bare
theorem Inv.call {g' : Array GenState} {t' : Nat} {d' : Drawn} {ch : List Addr} (I : Inv X pins σ H s) (u : Un (frs X.stack) ch H H' s.heap h') (hok : HOk X.prog X.w H' h') (hg : AllBare g')
   (hch : ∀ b ∈ ch, (b ∈ X.ex ∨ X.s₀.heap.objs.size ≤ b) ∧ b ≠ X.env.locals ∧ (∀ x c, X.env.cells.lookup x = some c → c ≠ b) ∧ ∀ p ∈ X.pn ++ pins, p.1 ≠ b) :
   Inv X pins σ H' { s with heap := h', gens := g', drawn := d', toks := t' } := by
 obtain ⟨m, ⟨o, es, ep, ho, r⟩, _⟩ := id I.loc
 obtain ⟨sl, hL⟩ := u.any ho I.free fun z => (hch _ z).2.1 rfl
 exact I.step (ch := ch) hch (fun b o hL hb hc e n => u.keep b o e n (fun z => (List.mem_cons.mp (I.stkSub b z)).elim hL hb) hc) (fun b o _ _ hc e n => u.any e n hc) (fun b o hc e n => u.free b o e n hc) (fun b o hc e => u.there b o e hc) u.tups u.frzs u.tbls (fun m' hm => by
   obtain ⟨o', es', ep', ho', r'⟩ := hm
   rw [ho] at ho'; cases ho'
   exact ⟨_, es', ep', hL, r'⟩) hok hg
theorem Inv.turned {t' : Nat} {it : Addr} (I : Inv X pins σ H s) (k : ∀ b o, b ≠ it → s.heap.get? b = some o → h'.get? b = some o) (hn : H it = none) (hL : it ≠ X.env.locals)
   (h1 : it ∈ X.ex ∨ X.s₀.heap.objs.size ≤ it) (h2 : ∀ x c, X.env.cells.lookup x = some c → c ≠ it) (h3 : ∀ p ∈ X.pn ++ pins, p.1 ≠ it) : Inv X pins σ H { s with heap := h', toks := t' } := by
 have nit : ∀ b u, H b = some u → b ≠ it := fun b u e z => by rw [z, hn] at e; cases e
 refine I.step (g' := s.gens) (d' := s.drawn) (ch := [it]) (fun b hb => ?_) (fun b o _ _ hc e _ => k b o (fun z => hc (by simp [z])) e) (fun b o _ _ hc e _ => ⟨o.slots, k b o (fun z => hc (by simp [z])) e⟩) (fun _ _ _ _ n => n)
   (fun b o hc e => ⟨o, k b o (fun z => hc (by simp [z])) e⟩) (fun _ _ e => e) (fun _ _ _ e => e) (fun b ps e => ⟨#[], by rw [e]; simp⟩) (fun m hm => ?_) (fun b u e => ?_) I.bare
 · have e : b = it := by simpa using hb
   subst e
   exact ⟨h1, hL, h2, h3⟩
 · obtain ⟨o, es, ep, ho, r⟩ := hm
   exact ⟨o, es, ep, k _ o (Ne.symm hL) ho, r⟩
 · refine (I.hok b u e).stay (fun c v hc q => k c v ?_ q) (fun _ q => q) fun _ _ q => q
   rcases hc with z | z
   · rw [z]; exact nit b u e
   · exact nit c _ z
theorem Inv.tok (I : Inv X pins σ H s) (t : Nat) : Inv X pins σ H { s with toks := t } := I.un (h' := s.heap) (t' := t) Un.refl I.hok
theorem Inv.kept {t' : Nat} (I : Inv X pins σ H s) (k : ∀ b u, s.heap.get? b = some u → h'.get? b = some u) : Inv X pins σ H { s with heap := h', toks := t' } := I.un (Un.kept k) (I.hok.kept k)
theorem Inv.laid {a : Addr} {o : HO} {t' : Nat} (I : Inv X pins σ H s) (k : ∀ b u, s.heap.get? b = some u → h'.get? b = some u) (hp : s.heap.objs.size ≤ a) (new : ObjOk X.prog X.w (upd H a o) h' a o) :
   Inv X pins σ (upd H a o) { s with heap := h', toks := t' } := I.un (Un.laid k hp (I.hok.fresh hp)) (I.hok.laid k hp new)
theorem Inv.write {x e : Addr} {o : HO} {t' : Nat} (I : Inv X pins σ H s) (mu : Mut (H x)) (he : e = x ∨ H e = some (.own x)) (k : ∀ b u, b ≠ e → s.heap.get? b = some u → h'.get? b = some u) (heo : ∃ u, h'.get? e = some u)
   (new : ObjOk X.prog X.w (upd H x o) h' x o) : Inv X pins σ (upd H x o) { s with heap := h', toks := t' } := I.un (Un.write mu he k heo) (I.hok.write mu he k heo new)
theorem Inv.pins_of {pins' : List (Addr × Obj)} (I : Inv X pins σ H s) (h : ∀ p ∈ pins', s.heap.get? p.1 = some p.2 ∧ H p.1 = none ∧ p.1 ≠ X.env.locals ∧ p.1 ∉ X.fs ∧ ∀ v, p.2.data ≠ .cell v) : Inv X pins' σ H s :=
 ⟨I.ok, I.os, I.bare, I.base, I.loc, I.cell, I.free, I.freeC, fun p hp => (List.mem_append.mp hp).elim (fun z => I.pin p (List.mem_append_left _ z)) (h p), I.hok, I.len⟩
theorem nodup_ix {N : List Str} (hN : N.Nodup) {i j : Nat} {x : Str} (a : N[i]? = some x) (b : N[j]? = some x) : i = j := by
 obtain ⟨h1, e1⟩ := List.getElem?_eq_some_iff.mp a
 obtain ⟨h2, e2⟩ := List.getElem?_eq_some_iff.mp b
 exact (List.getElem_inj hN).mp (e1.trans e2.symm)
theorem store_ok2 {M : Model} {A : Around} {E : Value → Shared → Prop} {i : Nat} {x : Str} {v : V} {u : Value} {Q : Unit → Shared → Prop} (I : Inv X pins σ H s) (hN : X.N.Nodup) (hi : X.N[i]? = some x) (hx : Loc X.env.scope x) (r : RelV v u)
   (h : ∀ s', Inv X pins (σ.set i (some v)) H s' → (∃ a, Heap.SameBut a s.heap s'.heap ∧ (a = X.env.locals ∨ X.env.cells.lookup x = some a)) → Q () s') (hf : X.fn x = true ∨ X.env.scope.names.lookup x = some .local := by first | exact .inl rfl | exact .inr rfl | assumption) : wpAny M A (storeName X.env x u) Q E s := by
 obtain ⟨m, hn, hl⟩ := id I.loc
 have hcls : (X.env.scope.kind == .class || (X.env.scope.kind == .module && X.env.locals != X.env.globals)) = false := by rw [I.ok.kind]; rfl
 have hiσ : i < σ.length := by rw [I.len]; exact (List.getElem?_eq_some_iff.mp hi).1
 have cne := I.cne
 have tracked : ∀ {a : Addr} {h' : Heap}, (∃ o, s.heap.get? a = some o ∧ H a = none) → Heap.SameBut a s.heap h' → HOk X.prog X.w H h' := fun {a h'} ha hs b ob e => by
   obtain ⟨_, _, hfree⟩ := ha
   refine (I.hok b ob e).stay (fun c w' hc q => (hs.2 c ?_).trans q) (fun _ q => q) fun _ _ q => q
   rintro rfl
   rcases hc with rfl | hc
   · rw [hfree] at e; cases e
   · rw [hfree] at hc; cases hc
 rcases hx with hk | hk
 · refine wpAny_storeName_local hk hn (fun h' hn' hs => ?_) hcls
   obtain ⟨oL, _, _, hoL, _⟩ := id hn
   refine h _ ⟨I.ok, I.os, I.bare, ⟨fun b o e n hb hx => ?_, fun b o e n hb hx => ?_, I.base.free, fun b o e hx => ?_, I.base.tups, I.base.frzs, I.base.tbls⟩, ⟨_, hn', fun j y v' e1 e2 e3 => ?_⟩, fun y c e => ?_, I.free, I.freeC, fun p hp => ?_, tracked ⟨oL, hoL, I.free⟩ hs, by simpa using I.len⟩ ⟨_, hs, .inl rfl⟩
   · exact (hs.2 b (Nat.ne_of_lt (Nat.lt_of_lt_of_le (Heap.lt_size e) I.ok.above))).trans (I.base.keep b o e n hb hx)
   · obtain ⟨sl, e1⟩ := I.base.slot b o e n hb hx
     exact ⟨sl, (hs.2 b (Nat.ne_of_lt (Nat.lt_of_lt_of_le (Heap.lt_size e) I.ok.above))).trans e1⟩
   · obtain ⟨o', e1⟩ := I.base.there b o e hx
     exact ⟨o', (hs.2 b (Nat.ne_of_lt (Nat.lt_of_lt_of_le (Heap.lt_size e) I.ok.above))).trans e1⟩
   · by_cases hj : j = i
     · subst hj
       rw [hi] at e1; cases e1
       rw [List.getElem?_set_self hiσ] at e2
       cases e2
       exact ⟨u, r, .inl ⟨hk, by simp⟩⟩
     · rw [List.getElem?_set_ne (Ne.symm hj)] at e2
       obtain ⟨u', r', q⟩ := hl j y v' e1 e2 e3
       refine ⟨u', r', ?_⟩
       rcases q with ⟨k, e⟩ | ⟨k, c, e, z⟩
       · refine .inl ⟨k, ?_⟩
         have : y ≠ x := fun e => hj (nodup_ix hN e1 (e ▸ hi))
         simp [this, e]
       · exact .inr ⟨k, c, e, z.sameBut hs (cne y c e)⟩
   · obtain ⟨w', z⟩ := I.cell y c e
     exact ⟨w', z.sameBut hs (cne y c e)⟩
   · obtain ⟨e, n, ne, nf, d⟩ := I.pin p hp
     exact ⟨(hs.2 p.1 ne).trans e, n, ne, nf, d⟩
 · have hfn : X.fn x = true := by
     rcases hf with z | z
     · exact z
     · rw [z] at hk; cases hk
   obtain ⟨c, hc⟩ := I.ok.has x (.inl hk)
   obtain ⟨w', z⟩ := I.cell x c hc
   refine wpAny_storeName_cell I.ok.kind hk hc z (fun h' hc' hs => ?_)
   obtain ⟨oc, hoc, hocd⟩ := id z
   refine h { s with heap := h' } ⟨I.ok, I.os, I.bare, ⟨fun b o e n hb hx => ?_, fun b o e n hb hx => ?_, I.base.free, fun b o e hx => ?_, I.base.tups, I.base.frzs, I.base.tbls⟩, ⟨m, hn.sameBut hs (Ne.symm (cne x c hc)), fun j y v' e1 e2 e3 => ?_⟩, fun y c' e => ?_, I.free, I.freeC, fun p hp => ?_, tracked ⟨oc, hoc, I.freeC x c hc⟩ hs, by simpa using I.len⟩ ⟨c, hs, .inr hc⟩
   · exact (hs.2 b (Nat.ne_of_lt (Nat.lt_of_lt_of_le (Heap.lt_size e) (I.ok.cab x c hfn hc)))).trans (I.base.keep b o e n hb hx)
   · obtain ⟨sl, e1⟩ := I.base.slot b o e n hb hx
     exact ⟨sl, (hs.2 b (Nat.ne_of_lt (Nat.lt_of_lt_of_le (Heap.lt_size e) (I.ok.cab x c hfn hc)))).trans e1⟩
   · obtain ⟨o', e1⟩ := I.base.there b o e hx
     exact ⟨o', (hs.2 b (Nat.ne_of_lt (Nat.lt_of_lt_of_le (Heap.lt_size e) (I.ok.cab x c hfn hc)))).trans e1⟩
   · by_cases hj : j = i
     · subst hj
       rw [hi] at e1; cases e1
       rw [List.getElem?_set_self hiσ] at e2
       cases e2
       exact ⟨u, r, .inr ⟨.inl hk, c, hc, hc'⟩⟩
     · rw [List.getElem?_set_ne (Ne.symm hj)] at e2
       obtain ⟨u', r', q⟩ := hl j y v' e1 e2 e3
       refine ⟨u', r', ?_⟩
       rcases q with q | ⟨k, c', e, z'⟩
       · exact .inl q
       · refine .inr ⟨k, c', e, z'.sameBut hs ?_⟩
         rintro rfl
         exact hj (nodup_ix hN e1 (I.ok.inj _ _ _ e hc ▸ hi))
   · by_cases hcc : c' = c
     · subst hcc; exact ⟨_, hc'⟩
     · obtain ⟨w2, z2⟩ := I.cell y c' e
       exact ⟨w2, z2.sameBut hs hcc⟩
   · obtain ⟨e, n, ne, nf, d⟩ := I.pin p hp
     refine ⟨(hs.2 p.1 ?_).trans e, n, ne, nf, d⟩
     intro q
     rw [q, hoc] at e
     have q' : oc = p.2 := Option.some.inj e
     exact d w' (by rw [← q']; exact hocd)
theorem store_ok {M : Model} {A : Around} {E : Value → Shared → Prop} {i : Nat} {x : Str} {v : V} {u : Value} {Q : Unit → Shared → Prop} (I : Inv X pins σ H s) (hN : X.N.Nodup) (hi : X.N[i]? = some x) (hx : Loc X.env.scope x) (r : RelV v u)
   (h : ∀ s', Inv X pins (σ.set i (some v)) H s' → Q () s') (hf : X.fn x = true ∨ X.env.scope.names.lookup x = some .local := by first | exact .inl rfl | exact .inr rfl | assumption) : wpAny M A (storeName X.env x u) Q E s :=
 store_ok2 I hN hi hx r (fun s' I' _ => h s' I') hf
theorem Inv.call' {s' : Shared} {ch : List Addr} (I : Inv X pins σ H s) (ho : s'.os = s.os) (u : Un (frs X.stack) ch H H' s.heap s'.heap) (hok : HOk X.prog X.w H' s'.heap) (hg : AllBare s'.gens)
   (hch : ∀ b ∈ ch, (b ∈ X.ex ∨ X.s₀.heap.objs.size ≤ b) ∧ b ≠ X.env.locals ∧ (∀ x c, X.env.cells.lookup x = some c → c ≠ b) ∧ ∀ p ∈ X.pn ++ pins, p.1 ≠ b) : Inv X pins σ H' s' := by
 obtain ⟨h', g', d', t', o'⟩ := s'
 have e : o' = s.os := ho
 subst e
 exact I.call (g' := g') (t' := t') (d' := d') u hok hg hch
end
noncomputable abbrev XK := Value → Option Addr → Hp → Prop
noncomputable abbrev St := List (Option V)
noncomputable abbrev VK := V → Hp → Prop
noncomputable abbrev TE := St → Hp → VK → Prop
noncomputable abbrev TT := St → Hp → (Bool → Hp → Prop) → Prop
noncomputable abbrev TA := St → Hp → (List V → Hp → Prop) → Prop
structure Ends where
 nx : St → Hp → Prop
 rt : VK
 bk : St → Hp → Prop := fun _ _ => False
 ct : St → Hp → Prop := fun _ _ => False
noncomputable abbrev TS := Ends → St → Hp → Prop
noncomputable def EP (X : Cx) (pins : List (Addr × Obj)) (σ : St) (Q : VK) (u : Value) (s' : Shared) : Prop := ∃ v H', Inv X pins σ H' s' ∧ RelV v u ∧ Q v H'
noncomputable def TP (X : Cx) (pins : List (Addr × Obj)) (σ : St) (Q : Bool → Hp → Prop) (b : Bool) (s' : Shared) : Prop := ∃ H', Inv X pins σ H' s' ∧ Q b H'
noncomputable def AP (X : Cx) (pins : List (Addr × Obj)) (σ : St) (Q : List V → Hp → Prop) (us : List Value) (s' : Shared) : Prop := ∃ vs H', Inv X pins σ H' s' ∧ Vals vs us ∧ Q vs H'
noncomputable def SP (X : Cx) (pins : List (Addr × Obj)) (D : Ends) (f : Flow) (s' : Shared) : Prop :=
 match f with
 | .next => ∃ σ' H', Inv X pins σ' H' s' ∧ D.nx σ' H'
 | .brk => ∃ σ' H', Inv X pins σ' H' s' ∧ D.bk σ' H'
 | .cont => ∃ σ' H', Inv X pins σ' H' s' ∧ D.ct σ' H'
 | .ret u => ∃ v σ' H', Inv X pins σ' H' s' ∧ RelV v u ∧ D.rt v H'
noncomputable def PE (X : Cx) (e : Expr) (t : TE) : Prop :=
 ∀ (pins : List (Addr × Obj)) (s : Shared) (σ : St) (H : Hp) (Q : VK), Inv X pins σ H s → t σ H Q → wpAny (model X.prog X.w) X.A (eval e X.env) (EP X pins σ Q) X.xe s
noncomputable def PT (X : Cx) (e : Expr) (t : TT) : Prop :=
 ∀ (pins : List (Addr × Obj)) (s : Shared) (σ : St) (H : Hp) (Q : Bool → Hp → Prop), Inv X pins σ H s → t σ H Q → wpAny (model X.prog X.w) X.A (isTrue e X.env (eval e X.env)) (TP X pins σ Q) X.xe s
noncomputable def PW (X : Cx) (e : Expr) (t : TT) : Prop :=
 ∀ (whole : Sem Value) (pins : List (Addr × Obj)) (s : Shared) (σ : St) (H : Hp) (Q : Bool → Hp → Prop), Inv X pins σ H s → t σ H Q → wpAny (model X.prog X.w) X.A (isTrue e X.env whole) (TP X pins σ Q) X.xe s
theorem PW.pt {X : Cx} {e : Expr} {t : TT} (h : PW X e t) : PT X e t := h _
noncomputable def PA (X : Cx) (es : List Expr) (t : TA) : Prop :=
 ∀ (pos : Pos) (pins : List (Addr × Obj)) (s : Shared) (σ : St) (H : Hp) (Q : List V → Hp → Prop), Inv X pins σ H s → t σ H Q → wpAny (model X.prog X.w) X.A (spliced (backTo pos (starEach es X.env))) (AP X pins σ Q) X.xe s
noncomputable def PS (X : Cx) (st : Stmt) (t : TS) : Prop :=
 ∀ (pins : List (Addr × Obj)) (s : Shared) (σ : St) (H : Hp) (D : Ends), Inv X pins σ H s → t D σ H → wpAny (model X.prog X.w) X.A (exec st X.env) (SP X pins D) X.xe s
noncomputable def PSs (X : Cx) (st : List Stmt) (t : TS) : Prop :=
 ∀ (pins : List (Addr × Obj)) (s : Shared) (σ : St) (H : Hp) (D : Ends), Inv X pins σ H s → t D σ H → wpAny (model X.prog X.w) X.A (execs st X.env) (SP X pins D) X.xe s
theorem thn {α : Type} {t : Sem α} {Q Q' : α → Shared → Prop} {M : Model} {A : Around} {E : Value → Shared → Prop} {s : Shared} (h : wpAny M A t Q E s) (hQ : ∀ a s, Q a s → Q' a s) : wpAny M A t Q' E s := wpAny_mono h hQ fun _ _ x => x
end L2
namespace L2
open PySem PySem.Spec PyProof.Rows
section
variable {X : Cx}
noncomputable def tVar (i : Nat) : TE := fun σ H Q => ∃ v, σ[i]? = some (some v) ∧ Q v H
noncomputable def tC (v : V) : TE := fun _ H Q => Q v H
theorem pe_var {i : Nat} {x : Str} {pos : Pos} (hN : X.N[i]? = some x) (hv : Vis X.env.scope x) (hd : (x == ("__debug__" : Str)) = false := by decide) (hcd : (x == ("__classdict__" : Str)) = false := by decide) : PE X (.Name x pos) (tVar i) := by
 intro pins s σ H Q I h
 obtain ⟨v, e, h⟩ := h
 obtain ⟨m, hn, hl⟩ := I.loc
 obtain ⟨u, r, l⟩ := hl i x v hN e hv
 have fin : EP X pins σ Q u s := ⟨v, H, I, r, h⟩
 rcases l with ⟨hk, hm⟩ | ⟨hk, c, hc, hcell⟩
 · exact wpAny_Name (wpAny_loadName_local I.ok.kind hk hn hm fin) hd
 · rcases hk with hk | hk
   · exact wpAny_Name (wpAny_loadName_cell I.ok.kind hk hc hcell fin) hd
   · exact wpAny_Name (wpAny_loadName_free I.ok.kind hk hc hcell fin hcd) hd
theorem pe_int {i j pos} : PE X (.Constant (.int i) j pos) (tC (.int i)) := fun _ _ _ H _ I h => wpAny_Constant_int ⟨.int i, H, I.tok _, ⟨_, rfl⟩, h⟩
theorem pe_bl {b j pos} : PE X (.Constant (.bool b) j pos) (tC (.bl b)) := fun _ _ _ H _ I h => Constant_bool ⟨.bl b, H, I, rfl, h⟩
theorem pe_non {j pos} : PE X (.Constant .none j pos) (tC .non) := fun _ _ _ H _ I h => Constant_none ⟨.non, H, I, rfl, h⟩
theorem pe_str {x j pos} : PE X (.Constant (.str x) j pos) (tC (.str x)) := fun _ _ _ H _ I h => Calls.Constant_str ⟨.str x, H, I.tok _, ⟨_, rfl⟩, h⟩
noncomputable def Gl (X : Cx) (x : Str) : Prop := X.env.kindOf x = some .globalImplicit
theorem ld_glob {E : Value → Shared → Prop} {pins : List (Addr × Obj)} {s : Shared} {σ : St} {H : Hp} {x : Str} {u : Value} {pos : Pos} {Q : Value → Shared → Prop} (I : Inv X pins σ H s) (hg : Gl X x) (hm : X.mg x = some u) (h : Q u s)
   (hd : (x == ("__debug__" : Str)) = false := by decide) : wpAny (model X.prog X.w) X.A (eval (.Name x pos) X.env) Q E s :=
 Calls.Name_function_global I.ok.kind hg (Calls.loadGlobal_global (by rw [I.ok.glob]; exact I.mod.glob.keeps I.bk) hm h) hd
theorem ld_blt {E : Value → Shared → Prop} {pins : List (Addr × Obj)} {s : Shared} {σ : St} {H : Hp} {x : Str} {u : Value} {pos : Pos} {Q : Value → Shared → Prop} (I : Inv X pins σ H s) (hg : Gl X x) (hm : X.mg x = none) (hv : bootBuiltins x = some u) (h : Q u s)
   (hn : x ≠ "__name__" := by decide) (hd : (x == ("__debug__" : Str)) = false := by decide) : wpAny (model X.prog X.w) X.A (eval (.Name x pos) X.env) Q E s := by
 obtain ⟨mb, h1, h2⟩ := I.mod.blt
 exact Calls.Name_function_global I.ok.kind hg (Calls.loadGlobal_builtin (by rw [I.ok.glob]; exact I.mod.glob.keeps I.bk) hm (by rw [I.ok.blt]; exact h1.keeps I.bk) ((h2 x hn).trans hv) h) hd
theorem pe_glob {x : Str} {v : V} {u : Value} {pos : Pos} (hg : Gl X x) (hm : X.mg x = some u) (r : RelV v u) (hd : (x == ("__debug__" : Str)) = false := by decide) : PE X (.Name x pos) (tC v) :=
 fun _ _ _ H _ I h => ld_glob I hg hm ⟨v, H, I, r, h⟩ hd
theorem pe_bltn {x : Str} {v : V} {u : Value} {pos : Pos} (hg : Gl X x) (hm : X.mg x = none) (hv : bootBuiltins x = some u) (r : RelV v u) (hn : x ≠ "__name__" := by decide) (hd : (x == ("__debug__" : Str)) = false := by decide) : PE X (.Name x pos) (tC v) :=
 fun _ _ _ H _ I h => ld_blt I hg hm hv ⟨v, H, I, r, h⟩ hn hd
noncomputable def t2I (ta tb : TE) (k : Int → Int → Hp → Prop) : St → Hp → Prop := fun σ H => ta σ H fun x H1 => tb σ H1 fun y H2 => ∃ i j, x = .int i ∧ y = .int j ∧ k i j H2
variable {a b : Expr} {ta tb : TE} {pos : Pos}
noncomputable def tCmp (p : Int → Int → Bool) (ta tb : TE) : TE := fun σ H Q => t2I ta tb (fun i j H2 => Q (.bl (p i j)) H2) σ H
noncomputable abbrev tLt : TE → TE → TE := tCmp fun i j => decide (i < j)
noncomputable abbrev tLe : TE → TE → TE := tCmp fun i j => decide (i ≤ j)
noncomputable abbrev tGt : TE → TE → TE := tCmp fun i j => decide (j < i)
noncomputable abbrev tGe : TE → TE → TE := tCmp fun i j => decide (j ≤ i)
noncomputable abbrev tEqI : TE → TE → TE := tCmp fun i j => decide (i = j)
noncomputable abbrev tNeI : TE → TE → TE := tCmp fun i j => !decide (i = j)
noncomputable def tB (t : TE) : TT := fun σ H Q => t σ H fun x H1 => ∃ c, x = .bl c ∧ Q c H1
theorem pt_val {e : Expr} {t : TE} (h : PE X e t) (he : ∀ whole, isTrue e X.env whole = (do let v ← whole; standAt e.pos; holding [v] (truthy v)) := by intro _; rfl) : PT X e (tB t) := by
 intro pins s σ H Q I hw
 refine isTrue_plain (thn (h pins s σ H _ I hw) fun v s1 ⟨x, H1, I1, r1, q1⟩ => ?_) (he _)
 obtain ⟨d, rfl, q⟩ := q1
 cases r1
 exact wpAny_truthy_bool ⟨H1, I1, q⟩
variable {tA tB' : TT} {rest : List Expr}
noncomputable def tAnd (t u : TT) : TT := fun σ H Q => t σ H fun c H1 => if c = true then u σ H1 Q else Q false H1
noncomputable def tOr (t u : TT) : TT := fun σ H Q => t σ H fun c H1 => if c = true then Q true H1 else u σ H1 Q
noncomputable def tNot (t : TT) : TT := fun σ H Q => t σ H fun c H1 => Q (!c) H1
theorem pw_and1 (ha : PT X a tA) : PW X (.BoolOp .And [a] pos) tA := by
 intro wh pins s σ H Q I h
 refine isTrue_and (thn (ha pins s σ H Q I h) fun c s1 e => ?_)
 cases c with
 | true => exact isTrue_and_nil e
 | false => exact e
theorem pw_or1 (ha : PT X a tA) : PW X (.BoolOp .Or [a] pos) tA := by
 intro wh pins s σ H Q I h
 refine isTrue_or (thn (ha pins s σ H Q I h) fun c s1 e => ?_)
 cases c with
 | false => exact isTrue_or_nil e
 | true => exact e
theorem pw_and (ha : PT X a tA) (hb : PW X (.BoolOp .And (b :: rest) pos) tB') : PW X (.BoolOp .And (a :: b :: rest) pos) (tAnd tA tB') := by
 intro wh pins s σ H Q I h
 refine isTrue_and (thn (ha pins s σ H _ I h) fun c s1 ⟨H1, I1, q1⟩ => ?_)
 cases c with
 | true => exact hb wh pins s1 σ H1 Q I1 q1
 | false => exact ⟨H1, I1, q1⟩
theorem pw_or (ha : PT X a tA) (hb : PW X (.BoolOp .Or (b :: rest) pos) tB') : PW X (.BoolOp .Or (a :: b :: rest) pos) (tOr tA tB') := by
 intro wh pins s σ H Q I h
 refine isTrue_or (thn (ha pins s σ H _ I h) fun c s1 ⟨H1, I1, q1⟩ => ?_)
 cases c with
 | true => exact ⟨H1, I1, q1⟩
 | false => exact hb wh pins s1 σ H1 Q I1 q1
theorem pt_not (ha : PT X a tA) : PT X (.UnaryOp .Not a pos) (tNot tA) := by
 intro pins s σ H Q I h
 exact isTrue_not (ha pins s σ H (fun c H1 => Q (!c) H1) I h)
noncomputable def tAndV (ta tb : TE) : TE := fun σ H Q => ta σ H fun x H1 => ∃ c, x = .bl c ∧ if c = true then tb σ H1 Q else Q (.bl false) H1
noncomputable def tNotV (ta : TE) : TE := fun σ H Q => ta σ H fun x H1 => ∃ c, x = .bl c ∧ Q (.bl (!c)) H1
theorem pe_one {op} {t : TE} (h : PE X a t) : PE X (.BoolOp op [a] pos) t := fun pins s σ H Q I hw => BoolOp_one (h pins s σ H Q I hw)
theorem pe_and (ha : PE X a ta) (hb : PE X (.BoolOp .And (b :: rest) pos) tb) : PE X (.BoolOp .And (a :: b :: rest) pos) (tAndV ta tb) := by
 intro pins s σ H Q I h
 refine BoolOp_and (thn (ha pins s σ H _ I h) fun v s1 ⟨x, H1, I1, r1, q1⟩ => ?_)
 obtain ⟨c, rfl, q1⟩ := q1
 cases r1
 refine wpAny_truthy_bool ?_
 cases c with
 | true => exact hb pins s1 σ H1 Q I1 q1
 | false => exact ⟨.bl false, H1, I1, rfl, q1⟩
theorem pe_not (ha : PE X a ta) : PE X (.UnaryOp .Not a pos) (tNotV ta) := by
 intro pins s σ H Q I h
 refine UnaryOp_ (thn (ha pins s σ H _ I h) fun v s1 ⟨x, H1, I1, r1, q1⟩ => ?_)
 obtain ⟨c, rfl, q1⟩ := q1
 cases r1
 exact not_of (wpAny_truthy_bool ⟨.bl (!c), H1, I1, rfl, q1⟩)
end
end L2
namespace L2
open PySem PySem.Spec PyProof.Rows
noncomputable def SqL (K : PySem.W.Frag) (H : Hp) (a : Addr) (xs : List V) : Prop :=
 Rd H a (.lst xs) ∨
   ∃ (o : Obj) (its : Array Value) (n : Nat), K.lookup a = some o ∧ o.cls = .type "list" ∧ o.dict = none ∧ o.data = .seq its n ∧ its.size ≤ sizeLine ∧ Vals xs its.toList
noncomputable def SqT (K : PySem.W.Frag) (H : Hp) (a : Addr) (xs : List V) : Prop :=
 Rd H a (.tup xs) ∨
   ∃ (o : Obj) (its : Array Value) (n : Nat), K.lookup a = some o ∧ o.cls = .type "tuple" ∧ o.data = .seq its n ∧ its.size ≤ sizeLine ∧ Vals xs its.toList
noncomputable def absV : Value → Option V
 | .none => some .non
 | .bool b => some (.bl b)
 | .int i _ => some (.int i)
 | .str x _ => some (.str x)
 | .bytes b _ => some (.byt b)
 | .float b _ => some (.flt b)
 | .ref a => some (.ref a)
 | .type n => some (.ty n)
 | _ => none
theorem RelV.abs {x : V} {u : Value} (r : RelV x u) : absV u = some x := by
 cases x with
 | non => cases r; rfl
 | bl _ => cases r; rfl
 | int _ => obtain ⟨t, rfl⟩ := r; rfl
 | str _ => obtain ⟨t, rfl⟩ := r; rfl
 | byt _ => obtain ⟨t, rfl⟩ := r; rfl
 | flt _ => obtain ⟨t, rfl⟩ := r; rfl
 | ref _ => cases r; rfl
 | ty _ => cases r; rfl
theorem RelV.inj {x y : V} {u : Value} (r : RelV x u) (q : RelV y u) : x = y := Option.some.inj (r.abs.symm.trans q.abs)
theorem Vals.inj : ∀ {xs ys : List V} {us : List Value}, Vals xs us → Vals ys us → xs = ys
 | _, _, _, .nil, .nil => rfl
 | _, _, _, .cons r t, .cons r' t' => by rw [r.inj r', Vals.inj t t']
section
variable {X : Cx} {pins : List (Addr × Obj)} {σ : St} {H : Hp} {s : Shared} {a : Addr} {xs ys : List V}
theorem SqL.of {K : PySem.W.Frag} (h : H a = some (.lst xs)) : SqL K H a xs := .inl (.inl h)
theorem SqT.of {K : PySem.W.Frag} (h : H a = some (.tup xs)) : SqT K H a xs := .inl (.inl h)
theorem Inv.list (I : Inv X pins σ H s) (h : SqL X.K H a xs) : ∃ its : List Value, Vals xs its ∧ PlainL s.heap a its.toArray ∧ xs.length ≤ sizeLine := by
 rcases h with h | ⟨o, its, n, hk, hc, hd, hs, hz, r⟩
 · obtain ⟨z, its, n, r, e⟩ := h.ok I.hok
   exact ⟨its, r, ⟨_, n, e, rfl, rfl, rfl⟩, z⟩
 · refine ⟨its.toList, r, ⟨o, n, I.kIn a o hk, hc, hd, by simpa using hs⟩, ?_⟩
   have e := r.length
   simp only [Array.length_toList] at e
   omega
theorem Inv.tuple (I : Inv X pins σ H s) (h : SqT X.K H a xs) : ∃ its : List Value, Vals xs its ∧ IsTup s.heap a its.toArray ∧ xs.length ≤ sizeLine := by
 rcases h with h | ⟨o, its, n, hk, hc, hs, hz, r⟩
 · obtain ⟨z, its, r, p⟩ := h.ok I.hok
   exact ⟨its, r, p, z⟩
 · refine ⟨its.toList, r, ⟨o, I.kIn a o hk, hc, n, by simpa using hs⟩, ?_⟩
   have e := r.length
   simp only [Array.length_toList] at e
   omega
theorem Inv.list_inj (I : Inv X pins σ H s) (h : SqL X.K H a xs) (h' : SqL X.K H a ys) : xs = ys := by
 obtain ⟨its, r, ⟨o, n, e, _, _, d⟩, _⟩ := I.list h
 obtain ⟨its', r', ⟨o', n', e', _, _, d'⟩, _⟩ := I.list h'
 rw [e] at e'; cases e'
 rw [d] at d'
 injection d' with d1 _
 have : its = its' := by simpa using congrArg Array.toList d1
 subst this
 exact r.inj r'
end
noncomputable abbrev Cx.wish (X : Cx) (E : Value → Shared → Prop) : Cx := { X with xe := E }
noncomputable abbrev Cx.nox (X : Cx) : Cx := X.wish fun _ _ => False
theorem Cx.Ok.wish {X : Cx} (ok : X.Ok) (E : Value → Shared → Prop) : (X.wish E).Ok :=
 ⟨ok.mod, ok.kind, ok.glob, ok.blt, ok.above, ok.inj, ok.has, ok.cab, ok.hd, ok.frames, ok.stk, ok.exf, ok.bs, ok.bsz, ok.noex, ok.exfs, ok.funs, ok.frf⟩
theorem Cx.Ok.unwish {X : Cx} {E : Value → Shared → Prop} (ok : (X.wish E).Ok) : X.Ok :=
 ⟨ok.mod, ok.kind, ok.glob, ok.blt, ok.above, ok.inj, ok.has, ok.cab, ok.hd, ok.frames, ok.stk, ok.exf, ok.bs, ok.bsz, ok.noex, ok.exfs, ok.funs, ok.frf⟩
section
variable {X : Cx} {pins : List (Addr × Obj)} {σ : St} {H : Hp} {s : Shared} {E : Value → Shared → Prop}
theorem Inv.wish (I : Inv X pins σ H s) (E : Value → Shared → Prop) : Inv (X.wish E) pins σ H s := ⟨I.ok.wish E, I.os, I.bare, I.base, I.loc, I.cell, I.free, I.freeC, I.pin, I.hok, I.len⟩
theorem Inv.unwish (I : Inv (X.wish E) pins σ H s) : Inv X pins σ H s := ⟨I.ok.unwish, I.os, I.bare, I.base, I.loc, I.cell, I.free, I.freeC, I.pin, I.hok, I.len⟩
theorem SP.unwish {D : Ends} {f : Flow} {s' : Shared} (h : SP (X.wish E) pins D f s') : SP X pins D f s' := by
 cases f with
 | next => obtain ⟨σ', H', I, q⟩ := h; exact ⟨σ', H', I.unwish, q⟩
 | brk => obtain ⟨σ', H', I, q⟩ := h; exact ⟨σ', H', I.unwish, q⟩
 | cont => obtain ⟨σ', H', I, q⟩ := h; exact ⟨σ', H', I.unwish, q⟩
 | ret u => obtain ⟨v, σ', H', I, r, q⟩ := h; exact ⟨v, σ', H', I.unwish, r, q⟩
theorem PSs.nox {st : List Stmt} {t : TS} (h : PSs X.nox st t) : PSs X st t := fun pins s σ H D I hw =>
 wpAny_mono (h pins s σ H D (I.wish _) hw) (fun _ _ q => q.unwish) fun _ _ z => False.elim z
end
section
variable {X : Cx} {st : Stmt} {rest : List Stmt} {t u : TS} {e : Expr} {te : TE} {pos : Pos}
noncomputable def tNext : TS := fun D σ H => D.nx σ H
noncomputable def tSeq (t u : TS) : TS := fun D σ H => t { D with nx := u D } σ H
theorem pss_nil : PSs X [] tNext := fun _ _ σ H _ I h => wpAny_execs_nil ⟨σ, H, I, h⟩
theorem pss_cons (h1 : PS X st t) (h2 : PSs X rest u) : PSs X (st :: rest) (tSeq t u) := by
 intro pins s σ H D I h
 refine wpAny_execs_cons (thn (h1 pins s σ H { D with nx := u D } I h) fun f s1 q => ?_)
 cases f with
 | next =>
   obtain ⟨σ', H', I', q⟩ := q
   exact h2 pins s1 σ' H' D I' q
 | ret v => exact q
 | brk => exact q
 | cont => exact q
theorem pss_one (h1 : PS X st t) : PSs X [st] t := by
 intro pins s σ H D I h
 refine wpAny_execs_cons (thn (h1 pins s σ H D I h) fun f s1 q => ?_)
 cases f with
 | next => exact wpAny_execs_nil q
 | ret v => exact q
 | brk => exact q
 | cont => exact q
theorem Inv.quiet {pins : List (Addr × Obj)} {σ : St} {H : Hp} {s : Shared} (I : Inv X pins σ H s) : interactive X.env = false := by simp [interactive, I.ok.kind]
noncomputable def tDrop (te : TE) : TS := fun D σ H => te σ H fun _ H1 => D.nx σ H1
theorem ps_expr (he : PE X e te) (hs : swapsWith e none pos.line X.env = pure false := by rfl) : PS X (.Expr e pos) (tDrop te) := by
 intro pins s σ H D I h
 exact wpAny_Expr_any (thn (he pins s σ H _ I h) fun v s1 ⟨x, H1, I1, r1, q1⟩ => ⟨σ, H1, I1, q1⟩) I.quiet hs
noncomputable def tRet (te : TE) : TS := fun D σ H => te σ H D.rt
theorem ps_ret (he : PE X e te) : PS X (.Return (some e) pos) (tRet te) := by
 intro pins s σ H D I h
 exact wpAny_Return_some (thn (he pins s σ H _ I h) fun v s1 ⟨x, H1, I1, r1, q1⟩ => ⟨x, σ, H1, I1, r1, q1⟩)
noncomputable def tIfS (c : TT) (t u : TS) : TS := fun D σ H => c σ H fun b H1 => if b = true then t D σ H1 else u D σ H1
theorem ps_if {c : Expr} {a b : List Stmt} {tc : TT} (hc : PT X c tc) (ha : PSs X a t) (hb : PSs X b u) : PS X (.If c a b pos) (tIfS tc t u) := by
 intro pins s σ H D I h
 refine wpAny_If (thn (hc pins s σ H _ I h) fun d s1 ⟨H1, I1, q1⟩ => ?_)
 cases d with
 | true => exact ha pins s1 σ H1 D I1 q1
 | false => exact hb pins s1 σ H1 D I1 q1
end
noncomputable abbrev TG := V → St → Hp → (St → Hp → Prop) → Prop
noncomputable abbrev TGs := List V → St → Hp → (St → Hp → Prop) → Prop
noncomputable def PG (X : Cx) (target : Expr) (t : TG) : Prop :=
 ∀ (pins : List (Addr × Obj)) (s : Shared) (σ : St) (H : Hp) (v : V) (u : Value) (Q : St → Hp → Prop), Inv X pins σ H s → RelV v u → t v σ H Q →
   wpAny (model X.prog X.w) X.A (assign target X.env u) (fun _ s' => ∃ σ' H', Inv X pins σ' H' s' ∧ Q σ' H') X.xe s
noncomputable def PGs (X : Cx) (ts : List Expr) (t : TGs) : Prop :=
 ∀ (pins : List (Addr × Obj)) (s : Shared) (σ : St) (H : Hp) (vs : List V) (us : List Value) (Q : St → Hp → Prop), Inv X pins σ H s → Vals vs us → t vs σ H Q →
   wpAny (model X.prog X.w) X.A (assignInOrder ((assignEach ts X.env).map (·.2)) us) (fun _ s' => ∃ σ' H', Inv X pins σ' H' s' ∧ Q σ' H') X.xe s
noncomputable abbrev TSet := V → V → V → Hp → (Hp → Prop) → Prop
noncomputable abbrev TIp := V → V → Hp → VK → Prop
section
variable {X : Cx} {pos : Pos}
noncomputable def gName (i : Nat) : TG := fun v σ H Q => Q (σ.set i (some v)) H
theorem pg_name {i : Nat} {x : Str} (hN : X.N.Nodup) (hi : X.N[i]? = some x) (hx : Loc X.env.scope x) (hf : X.fn x = true ∨ X.env.scope.names.lookup x = some .local := by first | exact .inl rfl | exact .inr rfl | assumption) : PG X (.Name x pos) (gName i) := by
 intro pins s σ H v u Q I r h
 exact wpAny_assign_Name (store_ok I hN hi hx r (fun s' I' => ⟨_, H, I', h⟩) hf)
noncomputable def gNil : TGs := fun vs σ H Q => vs = [] ∧ Q σ H
noncomputable def gCons (t : TG) (u : TGs) : TGs := fun vs σ H Q => ∃ v r, vs = v :: r ∧ t v σ H fun σ' H' => u r σ' H' Q
theorem pgs_nil : PGs X [] gNil := by
 intro pins s σ H vs us Q I r h
 obtain ⟨e, h⟩ := h
 subst e
 cases r
 exact assignInOrder_nil ⟨σ, H, I, h⟩
theorem pgs_cons {e : Expr} {es : List Expr} {t : TG} {u : TGs} (h1 : PG X e t) (h2 : PGs X es u)
   (hs : (assignEach (e :: es) X.env).map (·.2) = assign e X.env :: (assignEach es X.env).map (·.2) := by rfl) : PGs X (e :: es) (gCons t u) := by
 intro pins s σ H vs us Q I r h
 obtain ⟨v, vr, e1, h⟩ := h
 subst e1
 cases r with
 | cons r rr =>
   rw [hs]
   refine assignInOrder_cons (thn (h1 pins s σ H _ _ _ I r h) fun _ s1 ⟨σ1, H1, I1, q1⟩ => ?_)
   exact h2 pins s1 σ1 H1 _ _ Q I1 rr q1
noncomputable def gTup (K : PySem.W.Frag) (n : Nat) (t : TGs) : TG := fun v σ H Q => ∃ a xs, v = .ref a ∧ SqT K H a xs ∧ xs.length = n ∧ t xs σ H Q
theorem pg_tup {es : List Expr} {k : Nat} {t : TGs} {n : Nat} (hc : X.calm = true) (h : PGs X es t)
   (hn : (assignEach es X.env).length = n := by rfl) (hst : (assignEach es X.env).findIdx? (·.1) = none := by rfl) : PG X (.Tuple es k pos) (gTup X.K n t) := by
 intro pins s σ H v u Q I r hw
 obtain ⟨a, xs, e1, hq, hl, hw⟩ := hw
 subst e1
 cases r
 obtain ⟨its, rv, ht, hz⟩ := I.tuple hq
 refine assign_Tuple_tuple (I.ok.hd hc) ht (by simp [hn, ← hl, rv.length]) hst fun h' hx => ?_
 have I1 : Inv X pins σ H { s with heap := h' } := I.kept (t' := s.toks) fun b o e => hx b o (Nat.ne_of_lt (Heap.lt_size e)) e
 exact h pins _ σ H xs _ Q I1 (by simpa using rv) hw
noncomputable def tAsg (te : TE) (g : TG) : TS := fun D σ H => te σ H fun x H1 => g x σ H1 D.nx
theorem ps_asg {tg e : Expr} {te : TE} {g : TG} (he : PE X e te) (hg : PG X tg g) (hs : swapsWithSole [tg] e pos.line X.env = pure false := by rfl) (hw : swappedStores [tg] e X.env = pure none := by rfl)
   (h1 : (assignEach [tg] X.env).map (·.2) = [assign tg X.env] := by rfl) : PS X (.Assign [tg] e pos) (tAsg te g) := by
 intro pins s σ H D I h
 refine wpAny_Assign_stores (thn (he pins s σ H _ I h) fun v s1 ⟨x, H1, I1, r1, q1⟩ => ?_) hs hw
 rw [h1]
 exact thn (hg pins s1 σ H1 x v _ I1 r1 q1) fun _ s2 q => q
theorem ps_set {i : Nat} {x : Str} {e : Expr} {te : TE} {pos' : Pos} (hN : X.N.Nodup) (hi : X.N[i]? = some x) (hx : Loc X.env.scope x) (he : PE X e te) (hs : swapsWith e (some (.Name x pos')) pos.line X.env = pure false := by rfl) (hf : X.fn x = true ∨ X.env.scope.names.lookup x = some .local := by first | exact .inl rfl | exact .inr rfl | assumption) :
   PS X (.Assign [.Name x pos'] e pos) (tAsg te (gName i)) := by
 intro pins s σ H D I h
 refine wpAny_Assign_Name (thn (he pins s σ H _ I h) fun v s1 ⟨y, H1, I1, r1, q1⟩ => ?_) hs
 exact store_ok I1 hN hi hx r1 (fun s2 I2 => ⟨_, H1, I2, q1⟩) hf
end
section
variable {X : Cx} {pos : Pos}
noncomputable def tWhile (c : TT) (tb : TS) : TS := fun D σ H => ∃ W : Nat → St → Hp → Prop, (∃ m, W m σ H) ∧ ∀ m σ H, W m σ H →
 c σ H fun b H1 => if b = true then ∃ N : St → Hp → Prop, (∀ σ' H', N σ' H' → ∃ m', m' < m ∧ W m' σ' H') ∧ tb { D with nx := N, ct := N, bk := D.nx } σ H1 else D.nx σ H1
theorem ps_while {c : Expr} {body : List Stmt} {tc : TT} {tb : TS} (hp : PassesOwn (model X.prog X.w) X.A X.env X.xe) (hc : PT X c tc) (hb : PSs X body tb) : PS X (.While c body [] pos) (tWhile tc tb) := by
 intro pins s σ H D I h
 obtain ⟨W, ⟨m0, w0⟩, turn⟩ := h
 refine wpAny_While (codeAny_whileLoop (fun n s' => ∃ σ' H', Inv X pins σ' H' s' ∧ W n σ' H') ?_ m0 ⟨σ, H, I, w0⟩)
 rintro n s1 ⟨σ1, H1, I1, w1⟩
 refine wpAny_passesOwn hp (thn (hc pins s1 σ1 H1 _ I1 (turn n σ1 H1 w1)) fun b s2 ⟨H2, I2, q2⟩ => ?_)
 cases b with
 | true =>
   obtain ⟨N, hN, q2⟩ := q2
   rw [if_pos rfl]
   refine wpAny_passesOwn hp (thn (hb pins s2 σ1 H2 _ I2 q2) fun f s3 q3 => ?_)
   cases f with
   | next =>
     obtain ⟨σ3, H3, I3, n3⟩ := q3
     obtain ⟨m', hm, w3⟩ := hN σ3 H3 n3
     exact ⟨m', hm, σ3, H3, I3, w3⟩
   | cont =>
     obtain ⟨σ3, H3, I3, n3⟩ := q3
     obtain ⟨m', hm, w3⟩ := hN σ3 H3 n3
     exact ⟨m', hm, σ3, H3, I3, w3⟩
   | brk => exact q3
   | ret v => exact q3
 | false =>
   rw [if_neg Bool.false_ne_true]
   exact wpAny_execs_nil ⟨σ1, H2, I2, q2⟩
end
structure It where
 go : Nat → Hp → Prop
 yld : Nat → Hp → V → Hp → Prop
 stop : Nat → Hp → Prop
noncomputable def FpOk (X : Cx) (pins : List (Addr × Obj)) (H : Hp) (b : Addr) : Prop :=
 H b = none ∧ b ≠ X.env.locals ∧ b ∉ X.fs ∧ (b ∈ X.ex ∨ X.s₀.heap.objs.size ≤ b) ∧ (∀ x c, X.env.cells.lookup x = some c → c ≠ b) ∧ ∀ p ∈ X.pn ++ pins, p.1 ≠ b
theorem Inv.fpOk {X : Cx} {pins : List (Addr × Obj)} {σ : St} {H H' : Hp} {s : Shared} {b : Addr} (I : Inv X pins σ H s) (hb : s.heap.objs.size ≤ b) (hn : H' b = none) : FpOk X pins H' b := by
 refine ⟨hn, Nat.ne_of_gt (Nat.lt_of_lt_of_le I.lt hb), I.nofs hb, .inr (Nat.le_trans I.sz hb), fun x c e z => ?_, fun p hp z => ?_⟩
 · obtain ⟨v, q⟩ := I.cell x c e
   exact absurd (Nat.lt_of_lt_of_le q.lt (by rw [z]; exact hb)) (Nat.lt_irrefl _)
 · exact absurd (Nat.lt_of_lt_of_le (Heap.lt_size (I.pin p hp).1) (by rw [z]; exact hb)) (Nat.lt_irrefl _)
structure Turn (P : Program) (w : World) (K : PySem.W.Frag) (tg : Expr) (J : It) (fp : List Addr) (it : Addr) (tn : Nat → Heap → Prop) : Prop where
 mem : it ∈ fp
 obj : ∀ i h, tn i h → ∀ b ∈ fp, ∃ o, h.get? b = some o ∧ ∀ v, o.data ≠ .cell v
 keep : ∀ i h h', tn i h → (∀ b ∈ fp, ∀ o, h.get? b = some o → h'.get? b = some o) → tn i h'
 item : ∀ (X : Cx), X.prog = P → X.w = w → X.K = K → X.calm = true → ∀ (i : Nat) (pins : List (Addr × Obj)) (s : Shared) (σ : St) (H : Hp) (E : Value → Shared → Prop), Inv X pins σ H s → (∀ b ∈ fp, FpOk X pins H b) → tn i s.heap → J.go i H →
   wpAny (model P w) X.A (pyNext (.ref it)) (fun r s1 => ∃ u, r = some u ∧
     wpAny (model P w) X.A (letOwnedTupleGo tg (.ref it) u) (fun _ s2 => ∃ x H', Inv X pins σ H' s2 ∧ RelV x u ∧ J.yld i H x H' ∧ tn (i + 1) s2.heap ∧ ∀ b ∈ fp, H' b = none) E s1) E s
 done : ∀ (X : Cx), X.prog = P → X.w = w → X.K = K → X.calm = true → ∀ (i : Nat) (pins : List (Addr × Obj)) (s : Shared) (σ : St) (H : Hp) (E : Value → Shared → Prop), Inv X pins σ H s → (∀ b ∈ fp, FpOk X pins H b) → tn i s.heap → J.stop i H →
   wpAny (model P w) X.A (pyNext (.ref it)) (fun r s1 => r = none ∧ Inv X pins σ H s1) E s
 self : ∀ (A : Around) (i : Nat) (s : Shared) (Q : Value → Shared → Prop) (E : Value → Shared → Prop), tn i s.heap → Q (.ref it) s → wpAny (model P w) A (pyIter (.ref it)) Q E s
noncomputable abbrev TI := St → Hp → (It → Hp → Prop) → Prop
noncomputable def PIE (X : Cx) (pins : List (Addr × Obj)) (σ : St) (tg : Expr) (R : It → Hp → Prop) (itv : Value) (s2 : Shared) : Prop :=
 ∃ (it : Addr) (fp : List Addr) (tn : Nat → Heap → Prop) (J : It) (H' : Hp), itv = .ref it ∧ Inv X pins σ H' s2 ∧ Turn X.prog X.w X.K tg J fp it tn ∧ tn 0 s2.heap ∧ (∀ b ∈ fp, FpOk X pins H' b) ∧ R J H'
noncomputable def PI (X : Cx) (tg iter : Expr) (wi : TI) : Prop :=
 ∀ (pins : List (Addr × Obj)) (s : Shared) (σ : St) (H : Hp) (R : It → Hp → Prop), Inv X pins σ H s → wi σ H R →
   wpAny (model X.prog X.w) X.A (eval iter X.env) (fun v s1 => wpAny (model X.prog X.w) X.A (pyIter v) (PIE X pins σ tg R) X.xe s1) X.xe s
theorem go_of {M : Model} {A : Around} {E : Value → Shared → Prop} {s : Shared} {tg : Expr} {it : Addr} {u : Value} {o : Obj} {n : String} {vs : Array Value} {Q : Unit → Shared → Prop} (ho : s.heap.get? it = some o) (hc : o.cls = .type n) (hd : o.data = .fields vs)
   (hn : ["enumerate", "zip", "dict_itemiterator", "dict_reverseitemiterator", "odict_iterator", "itertools.zip_longest", "itertools.pairwise"].contains n = false) (hQ : Q () s) : wpAny M A (letOwnedTupleGo tg (.ref it) u) Q E s := by
 unfold letOwnedTupleGo
 cases tg <;> first
   | exact wpAny_pure hQ
   | (cases u <;> first
       | exact wpAny_pure hQ
       | (refine wpAny_bind (wpAny_load ho ?_)
          rw [hc, hd]
          show wpAny M A (if (["enumerate", "zip", "dict_itemiterator", "dict_reverseitemiterator", "odict_iterator", "itertools.zip_longest", "itertools.pairwise"].contains n && vs[0]? == some (rawInt _)) = true then _ else _) Q E s
          rw [if_neg (by intro h; rw [hn, Bool.false_and] at h; cases h)]
          exact wpAny_pure hQ))
noncomputable def Itl (K : PySem.W.Frag) (a : Addr) : It :=
 ⟨fun i H => ∃ xs x, SqL K H a xs ∧ xs[i]? = some x, fun i H x H' => H' = H ∧ ∀ xs, SqL K H a xs → xs[i]? = some x, fun i H => ∃ xs, SqL K H a xs ∧ xs.length ≤ i⟩
noncomputable def Itr (lo : Int) (n : Nat) : It := ⟨fun i _ => i < n, fun i H x H' => H' = H ∧ x = .int (lo + i), fun i _ => n ≤ i⟩
theorem turn_list {P : Program} {w : World} {K : PySem.W.Frag} {tg : Expr} (a it : Addr) : Turn P w K tg (Itl K a) [it] it (fun i h => h.IsListIter it a i) where
 mem := by simp
 obj := fun i h st b hb => by
   have e : b = it := by simpa using hb
   subst e
   obtain ⟨o, e, c, d⟩ := st
   exact ⟨o, e, fun v z => by rw [d] at z; cases z⟩
 keep := fun i h h' st k => st.at fun o e => k it (by simp) o e
 item := by
   intro X hP hw hK hc i pins s σ H E I hf st hg
   subst hP hw hK
   obtain ⟨xs, x, hq, hx⟩ := hg
   obtain ⟨its, rv, p, hz⟩ := I.list hq
   obtain ⟨u, hu, ru⟩ := rv.get hx
   obtain ⟨f0, f1, f2, f3, f4, f5⟩ := hf it (by simp)
   refine wpAny_pyNext_list_item st p.isList (x := u) (by simpa using hu) fun h' st' sb => ?_
   have I1 : Inv X pins σ H { s with heap := h' } := I.turned (t' := s.toks) (fun b o hb e => (sb.2 b hb).trans e) f0 f1 f3 f4 f5
   obtain ⟨o, e, c, d⟩ := id st'
   exact ⟨u, rfl, go_of (s := { s with heap := h' }) e c d (by decide) ⟨x, H, I1, ru, ⟨rfl, fun ys hy => by rw [I.list_inj hy hq]; exact hx⟩, st', fun b hb => (hf b hb).1⟩⟩
 done := by
   intro X hP hw hK hc i pins s σ H E I hf st hg
   subst hP hw hK
   obtain ⟨xs, hq, hx⟩ := hg
   obtain ⟨its, rv, p, hz⟩ := I.list hq
   obtain ⟨f0, f1, f2, f3, f4, f5⟩ := hf it (by simp)
   have hl := rv.length
   exact wpAny_pyNext_list_end (I.ok.hd hc) st p.isList (by simp; omega) fun h' eb => ⟨rfl, I.turned (t' := s.toks) (fun b o hb e => eb b o hb e) f0 f1 f3 f4 f5⟩
 self := fun _ _ _ _ _ st h => wpAny_pyIter_listiter st h
theorem turn_range {P : Program} {w : World} {K : PySem.W.Frag} {tg : Expr} (it : Addr) (lo : Int) (n : Nat) : Turn P w K tg (Itr lo n) [it] it (fun i h => IsRangeIter h it (lo + (i : Nat) * 1) ((n : Int) - (i : Nat)) 1) where
 mem := by simp
 obj := fun i h st b hb => by
   have e : b = it := by simpa using hb
   subst e
   exact ⟨_, st, fun v z => by
     have z' : Data.fields _ = Data.cell v := z
     cases z'⟩
 keep := fun i h h' st k => k it (by simp) _ st
 item := by
   intro X hP hw hK hc i pins s σ H E I hf st hg
   subst hP hw hK
   obtain ⟨f0, f1, f2, f3, f4, f5⟩ := hf it (by simp)
   have W := Walks.range (prog := X.prog) (w := X.w) (I.ok.hd hc) it lo 1 n
   refine W.item i s _ _ hg st fun v h' tk hv st' kk => ?_
   obtain ⟨t, rfl⟩ := hv
   have I1 : Inv X pins σ H { s with heap := h', toks := tk } := I.turned (fun b o hb e => kk b o (by simpa using hb) e) f0 f1 f3 f4 f5
   refine ⟨_, rfl, go_of (s := { s with heap := h', toks := tk }) (n := "range_iterator") st' rfl rfl (by decide) ⟨.int (lo + i), H, I1, ⟨t, ?_⟩, ⟨rfl, rfl⟩, st', fun b hb => (hf b hb).1⟩⟩
   rw [Int.mul_one]
 done := by
   intro X hP hw hK hc i pins s σ H E I hf st hg
   subst hP hw hK
   obtain ⟨f0, f1, f2, f3, f4, f5⟩ := hf it (by simp)
   exact wpAny_pyNext_range_end (I.ok.hd hc) st (by have : n ≤ i := hg; omega) fun h' eb => ⟨rfl, I.turned (t' := s.toks) (fun b o hb e => eb b o hb e) f0 f1 f3 f4 f5⟩
 self := fun _ _ _ _ _ st h => wpAny_pyIter_rangeiter st h
end L2
namespace L2
open PySem PySem.Spec PyProof.Rows
section
variable {X : Cx} {tg : Expr}
noncomputable def iList (K : PySem.W.Frag) (tl : TE) : TI := fun σ H R => tl σ H fun x H1 => ∃ a, x = .ref a ∧ (∃ xs, SqL K H1 a xs) ∧ R (Itl K a) H1
theorem pi_list {l : Expr} {tl : TE} (hl : PE X l tl) : PI X tg l (iList X.K tl) := by
 intro pins s σ H R I h
 refine thn (hl pins s σ H _ I h) fun v s1 ⟨x, H1, I1, r1, q1⟩ => ?_
 obtain ⟨a, e, ⟨xs, hq⟩, q⟩ := q1
 subst e
 cases r1
 obtain ⟨its, rv, p, hz⟩ := I1.list hq
 refine wpAny_pyIter_list p.isList ?_
 refine ⟨s1.heap.objs.size, [s1.heap.objs.size], _, _, H1, rfl, I1.kept (t' := s1.toks) fun b o e => Heap.get?_push_of_some _ e, turn_list a _, ⟨_, Heap.get?_push_size _ rfl, rfl, rfl⟩, fun b hb => ?_, q⟩
 have e : b = s1.heap.objs.size := by simpa using hb
 subst e
 exact I1.fpOk (Nat.le_refl _) (I1.hok.fresh (Nat.le_refl _))
theorem range_it {pins : List (Addr × Obj)} {σ : St} {H : Hp} {s : Shared} {R : It → Hp → Prop} {E : Value → Shared → Prop} {lo hi : Int} {t u v : Tok} {tk : Nat} (I : Inv X pins σ H s) (h1 : -(2 ^ 62) ≤ lo) (h2 : lo < 2 ^ 62) (h3 : -(2 ^ 62) ≤ hi) (h4 : hi < 2 ^ 62)
   (q : R (Itr lo (hi - lo).toNat) H) : wpAny (model X.prog X.w) X.A (pyIter (.ref s.heap.objs.size)) (PIE X pins σ tg R) E { s with heap := s.heap.push { cls := .type "range", data := .fields #[.int lo t, .int hi u, .int 1 v] }, toks := tk } := by
 refine wpAny_pyIter_range (IsRange.new ..) (small_one h1 h2 h3 h4) ?_
 have I1 : Inv X pins σ H { s with heap := s.heap.push { cls := .type "range", data := .fields #[.int lo t, .int hi u, .int 1 v] }, toks := tk } := I.kept fun b o e => Heap.get?_push_of_some _ e
 refine ⟨(s.heap.push { cls := .type "range", data := .fields #[.int lo t, .int hi u, .int 1 v] }).objs.size, [(s.heap.push { cls := .type "range", data := .fields #[.int lo t, .int hi u, .int 1 v] }).objs.size], _, _, H, rfl,
   I1.kept (t' := tk) fun b o e => Heap.get?_push_of_some _ e, turn_range _ lo (hi - lo).toNat, ?_, fun b hb => ?_, q⟩
 · have e1 : lo + ((0 : Nat) : Int) * 1 = lo := by simp
   have e2 : (((hi - lo).toNat : Nat) : Int) - ((0 : Nat) : Int) = Builtin.Range.rangeSize lo hi 1 := by rw [rangeSize_one]; split <;> omega
   show IsRangeIter _ _ (lo + ((0 : Nat) : Int) * 1) ((((hi - lo).toNat : Nat) : Int) - ((0 : Nat) : Int)) 1
   rw [e1, e2]
   exact Heap.get?_push_size _ rfl
 · have e : b = (s.heap.push { cls := .type "range", data := .fields #[.int lo t, .int hi u, .int 1 v] }).objs.size := by simpa using hb
   subst e
   exact I1.fpOk (Nat.le_refl _) (I1.hok.fresh (Nat.le_refl _))
noncomputable def iRng1 (ta : TA) : TI := fun σ H R => ta σ H fun vs H1 => ∃ j : Int, vs = [.int j] ∧ -(2 ^ 62) ≤ j ∧ j < 2 ^ 62 ∧ R (Itr 0 j.toNat) H1
theorem pi_range1 {a : Expr} {ta : TA} {p pos : Pos} (hg : Gl X "range") (hm : X.mg "range" = none) (ha : PA X [a] ta) (hs : starEach [a] X.env = [(false, eval a X.env)] := by rfl) : PI X tg (.Call (.Name "range" p) [a] [] pos) (iRng1 ta) := by
 intro pins s σ H R I h
 refine Call_ (ld_blt I hg hm boot_range (PyProof.Rows.callWith_type1 (thn (ha pos pins s σ H _ I h) fun us s1 ⟨vs, H1, I1, r1, q1⟩ => ?_) hs rfl))
 obtain ⟨j, e, q1, q2, q⟩ := q1
 subst e
 cases r1 with
 | cons r rr =>
   cases rr
   obtain ⟨t, rfl⟩ := r
   exact call_range_1 (range_it I1 (by omega) (by omega) q1 q2 (by simpa using q))
noncomputable def tFor (wi : TI) (g : TG) (tb : TS) : TS := fun D σ H => wi σ H fun J H1 => ∃ W : Nat → Nat → St → Hp → Prop, (∃ m, W 0 m σ H1) ∧ ∀ i m σ H, W i m σ H →
 (J.stop i H ∧ D.nx σ H) ∨ (J.go i H ∧ ∃ N : St → Hp → Prop, (∀ σ' H', N σ' H' → ∃ m', m' < m ∧ W (i + 1) m' σ' H') ∧ ∀ x H', J.yld i H x H' → g x σ H' fun σ2 H2 => tb { D with nx := N, ct := N, bk := D.nx } σ2 H2)
noncomputable def pinsAt (fp : List Addr) (h : Heap) : List (Addr × Obj) := fp.filterMap fun b => (h.get? b).map fun o => (b, o)
theorem mem_pinsAt {fp : List Addr} {h : Heap} {b : Addr} {o : Obj} (hb : b ∈ fp) (e : h.get? b = some o) : (b, o) ∈ pinsAt fp h := List.mem_filterMap.mpr ⟨b, hb, by rw [e]; rfl⟩
theorem of_pinsAt {fp : List Addr} {h : Heap} {p : Addr × Obj} (hp : p ∈ pinsAt fp h) : p.1 ∈ fp ∧ h.get? p.1 = some p.2 := by
 obtain ⟨b, hb, e⟩ := List.mem_filterMap.mp hp
 cases q : h.get? b with
 | none => rw [q] at e; cases e
 | some o =>
   rw [q] at e
   have e' : (b, o) = p := Option.some.inj e
   subst e'
   exact ⟨hb, q⟩
theorem Inv.pinned {pins : List (Addr × Obj)} {σ : St} {H : Hp} {s : Shared} {fp : List Addr} (I : Inv X pins σ H s) (hf : ∀ b ∈ fp, FpOk X pins H b) (ho : ∀ b ∈ fp, ∃ o, s.heap.get? b = some o ∧ ∀ v, o.data ≠ .cell v) : Inv X (pins ++ pinsAt fp s.heap) σ H s :=
 I.pins_of fun p hp => (List.mem_append.mp hp).elim (fun z => I.pin p (List.mem_append_right _ z)) fun z => by
   obtain ⟨hb, e⟩ := of_pinsAt z
   obtain ⟨f0, f1, f2, _⟩ := hf p.1 hb
   obtain ⟨o, e', d⟩ := ho p.1 hb
   rw [e] at e'; cases e'
   exact ⟨e, f0, f1, f2, d⟩
theorem Inv.unpinned {pins pl : List (Addr × Obj)} {σ : St} {H : Hp} {s : Shared} (I : Inv X (pins ++ pl) σ H s) : Inv X pins σ H s := I.pins_of fun p hp => I.pin p (List.mem_append_right _ (List.mem_append_left _ hp))
theorem ps_for {iter : Expr} {body : List Stmt} {wi : TI} {g : TG} {tb : TS} {pos : Pos} (hp : PassesOwn (model X.prog X.w) X.A X.env X.xe) (hc : X.calm = true) (hi : PI X tg iter wi) (hg : PG X tg g) (hb : PSs X body tb)
   (hs : ∀ x, foldedSetIterable iter X.env x = pure x := by intro _; rfl) : PS X (.For tg iter body [] pos) (tFor wi g tb) := by
 intro pins s σ H D I h
 refine wpAny_For (thn (hi pins s σ H _ I h) fun v s1 h1 => thn h1 fun itv s2 h2 => ?_) hs
 obtain ⟨it, fp, tn, J, H2, e, I2, T, st2, f2, W, ⟨m0, w0⟩, turn⟩ := h2
 subst e
 -- what stays true of the iterator's objects through the loop
 have stat : ∀ {H' : Hp}, (∀ b ∈ fp, H' b = none) → ∀ b ∈ fp, FpOk X pins H' b := fun hn b hb => ⟨hn b hb, (f2 b hb).2⟩
 refine codeAny_forLoop_any (fun n s' => ∃ i σ' H', Inv X pins σ' H' s' ∧ tn i s'.heap ∧ (∀ b ∈ fp, H' b = none) ∧ W i n σ' H') ?_ m0 ⟨0, σ, H2, I2, st2, fun b hb => (f2 b hb).1, w0⟩
 rintro n s3 ⟨i, σ3, H3, I3, st3, fr3, w3⟩
 rcases turn i n σ3 H3 w3 with ⟨stop, qn⟩ | ⟨go, N, hN, step⟩
 · refine wpAny_passesOwn hp (thn (T.done X rfl rfl rfl hc i pins s3 σ3 H3 X.xe I3 (stat fr3) st3 stop) fun r s4 ⟨hr, I4⟩ => ?_)
   subst hr
   exact wpAny_execs_nil ⟨σ3, H3, I4, qn⟩
 · refine wpAny_passesOwn hp (thn (T.item X rfl rfl rfl hc i pins s3 σ3 H3 X.xe I3 (stat fr3) st3 go) fun r s4 ⟨u, hr, h4⟩ => ?_)
   subst hr
   refine wpAny_passesOwn hp (thn h4 fun _ s5 ⟨x, H5, I5, r5, y5, st5, fr5⟩ => ?_)
   have I5' := I5.pinned (stat fr5) (T.obj _ _ st5)
   refine wpAny_passesOwn hp (thn (hg _ s5 σ3 H5 x u _ I5' r5 (step x H5 y5)) fun _ s6 ⟨σ6, H6, I6, q6⟩ => ?_)
   refine wpAny_passesOwn hp (thn (hb _ s6 σ6 H6 _ I6 q6) fun f s7 q7 => ?_)
   have again : ∀ {σ7 : St} {H7 : Hp}, Inv X (pins ++ pinsAt fp s5.heap) σ7 H7 s7 → N σ7 H7 → ∃ m, m < n ∧ ∃ i σ' H', Inv X pins σ' H' s7 ∧ tn i s7.heap ∧ (∀ b ∈ fp, H' b = none) ∧ W i m σ' H' := fun {σ7 H7} I7 n7 => by
     obtain ⟨m', hm, w7⟩ := hN σ7 H7 n7
     refine ⟨m', hm, i + 1, σ7, H7, I7.unpinned, T.keep _ _ _ st5 fun b hb o e => (I7.pin (b, o) (List.mem_append_right _ (List.mem_append_right _ (mem_pinsAt hb e)))).1, fun b hb => ?_, w7⟩
     obtain ⟨o, e, d⟩ := T.obj _ _ st5 b hb
     exact (I7.pin (b, o) (List.mem_append_right _ (List.mem_append_right _ (mem_pinsAt hb e)))).2.1
   cases f with
   | next => obtain ⟨σ7, H7, I7, n7⟩ := q7; exact again I7 n7
   | cont => obtain ⟨σ7, H7, I7, n7⟩ := q7; exact again I7 n7
   | brk => obtain ⟨σ7, H7, I7, q7⟩ := q7; exact ⟨σ7, H7, I7.unpinned, q7⟩
   | ret v => obtain ⟨x7, σ7, H7, I7, r7, q7⟩ := q7; exact ⟨x7, σ7, H7, I7.unpinned, r7, q7⟩
end
theorem for_list {K : PySem.W.Frag} {a : Addr} {xs : List V} {g : TG} {tb : TS} {D : Ends} {σ : St} {H : Hp} (Pv : Nat → St → Hp → Prop) (h0 : Pv 0 σ H) (hl : ∀ i σ H, i ≤ xs.length → Pv i σ H → SqL K H a xs)
   (hs : ∀ i x σ H, xs[i]? = some x → Pv i σ H → g x σ H fun σ2 H2 => tb { D with nx := Pv (i + 1), ct := Pv (i + 1), bk := D.nx } σ2 H2) (hd : ∀ σ H, Pv xs.length σ H → D.nx σ H) :
   ∃ W : Nat → Nat → St → Hp → Prop, (∃ m, W 0 m σ H) ∧ ∀ i m σ H, W i m σ H →
     ((Itl K a).stop i H ∧ D.nx σ H) ∨ ((Itl K a).go i H ∧ ∃ N : St → Hp → Prop, (∀ σ' H', N σ' H' → ∃ m', m' < m ∧ W (i + 1) m' σ' H') ∧ ∀ x H', (Itl K a).yld i H x H' → g x σ H' fun σ2 H2 => tb { D with nx := N, ct := N, bk := D.nx } σ2 H2) := by
 refine ⟨fun i m σ H => m = xs.length - i ∧ i ≤ xs.length ∧ Pv i σ H, ⟨xs.length, by simp, Nat.zero_le _, h0⟩, ?_⟩
 rintro i m σ H ⟨rfl, hi, p⟩
 have q := hl i σ H hi p
 by_cases hlt : i < xs.length
 · refine .inr ⟨⟨xs, xs[i], q, by simp [hlt]⟩, Pv (i + 1), fun σ' H' p' => ⟨xs.length - (i + 1), by omega, rfl, hlt, p'⟩, fun x H' y => ?_⟩
   obtain ⟨e, y⟩ := y
   subst e
   exact hs i x σ _ (y xs q) p
 · have e : i = xs.length := by omega
   subst e
   exact .inl ⟨⟨xs, q, Nat.le_refl _⟩, hd σ H p⟩
theorem for_range {lo : Int} {n : Nat} {g : TG} {tb : TS} {D : Ends} {σ : St} {H : Hp} (Pv : Nat → St → Hp → Prop) (h0 : Pv 0 σ H)
   (hs : ∀ i σ H, i < n → Pv i σ H → g (.int (lo + i)) σ H fun σ2 H2 => tb { D with nx := Pv (i + 1), ct := Pv (i + 1), bk := D.nx } σ2 H2) (hd : ∀ σ H, Pv n σ H → D.nx σ H) :
   ∃ W : Nat → Nat → St → Hp → Prop, (∃ m, W 0 m σ H) ∧ ∀ i m σ H, W i m σ H →
     ((Itr lo n).stop i H ∧ D.nx σ H) ∨ ((Itr lo n).go i H ∧ ∃ N : St → Hp → Prop, (∀ σ' H', N σ' H' → ∃ m', m' < m ∧ W (i + 1) m' σ' H') ∧ ∀ x H', (Itr lo n).yld i H x H' → g x σ H' fun σ2 H2 => tb { D with nx := N, ct := N, bk := D.nx } σ2 H2) := by
 refine ⟨fun i m σ H => m = n - i ∧ i ≤ n ∧ Pv i σ H, ⟨n, by simp, Nat.zero_le _, h0⟩, ?_⟩
 rintro i m σ H ⟨rfl, hi, p⟩
 by_cases hlt : i < n
 · refine .inr ⟨hlt, Pv (i + 1), fun σ' H' p' => ⟨n - (i + 1), by omega, rfl, hlt, p'⟩, fun x H' y => ?_⟩
   obtain ⟨e, y⟩ := y
   subst e y
   exact hs i σ _ hlt p
 · have e : i = n := by omega
   subst e
   exact .inl ⟨Nat.le_refl _, hd σ H p⟩
end L2
namespace L2
open PySem PySem.Spec PyProof.Rows
noncomputable abbrev R2 := V → V → Hp → VK → Prop
noncomputable def OpR (X : Cx) (f : Value → Value → Sem Value) (r : R2) : Prop :=
 ∀ (pins : List (Addr × Obj)) (s : Shared) (σ : St) (H : Hp) (x y : V) (v u : Value) (Q : VK), Inv X pins σ H s → RelV x v → RelV y u → r x y H Q →
   wpAny (model X.prog X.w) X.A (f v u) (EP X pins σ Q) X.xe s
noncomputable def UnR (X : Cx) (f : Value → Sem Value) (r : V → Hp → VK → Prop) : Prop :=
 ∀ (pins : List (Addr × Obj)) (s : Shared) (σ : St) (H : Hp) (x : V) (v : Value) (Q : VK), Inv X pins σ H s → RelV x v → r x H Q →
   wpAny (model X.prog X.w) X.A (f v) (EP X pins σ Q) X.xe s
noncomputable def CallR (X : Cx) (f : Value) (r : List V → Hp → VK → Prop) : Prop :=
 ∀ (pins : List (Addr × Obj)) (s : Shared) (σ : St) (H : Hp) (xs : List V) (us : List Value) (Q : VK), Inv X pins σ H s → Vals xs us → r xs H Q →
   wpAny (model X.prog X.w) X.A (call f us) (EP X pins σ Q) X.xe s
noncomputable def tOp (r : R2) (ta tb : TE) : TE := fun σ H Q => ta σ H fun x H1 => tb σ H1 fun y H2 => r x y H2 Q
noncomputable def tUn (r : V → Hp → VK → Prop) (ta : TE) : TE := fun σ H Q => ta σ H fun x H1 => r x H1 Q
noncomputable def rI (C : Int → Int → Prop) (g : Int → Int → V) : R2 := fun x y H Q => ∃ i j, x = .int i ∧ y = .int j ∧ C i j ∧ Q (g i j) H
noncomputable def rI0 (g : Int → Int → V) : R2 := fun x y H Q => ∃ i j, x = .int i ∧ y = .int j ∧ Q (g i j) H
noncomputable def rU (g : Int → V) : V → Hp → VK → Prop := fun x H Q => ∃ i, x = .int i ∧ Q (g i) H
section
variable {X : Cx} {a b c : Expr} {ta tb tc : TE} {pos : Pos}
theorem binT (ha : PE X a ta) (hb : PE X b tb) {pins : List (Addr × Obj)} {s : Shared} {σ : St} {H : Hp} {R : V → V → Hp → Prop} (I : Inv X pins σ H s)
   (h : ta σ H fun x H1 => tb σ H1 fun y H2 => R x y H2) {Q : Value → Shared → Prop} {f : Value → Value → Sem Value}
   (hf : ∀ v u s2 x y H2, Inv X pins σ H2 s2 → RelV x v → RelV y u → R x y H2 → wpAny (model X.prog X.w) X.A (f v u) Q X.xe s2) :
   wpAny (model X.prog X.w) X.A (eval a X.env) (fun v s₁ => wpAny (model X.prog X.w) X.A (eval b X.env) (fun u s₂ => wpAny (model X.prog X.w) X.A (f v u) Q X.xe s₂) X.xe s₁) X.xe s := by
 refine thn (ha pins s σ H _ I h) fun v s1 ⟨x, H1, I1, r1, q1⟩ => ?_
 refine thn (hb pins s1 σ H1 _ I1 q1) fun u s2 ⟨y, H2, I2, r2, q2⟩ => ?_
 exact hf v u s2 x y H2 I2 r1 r2 q2
theorem pe_op {op : Operator} {r : R2} (ho : OpR X (binaryOp op) r) (ha : PE X a ta) (hb : PE X b tb) : PE X (.BinOp a op b pos) (tOp r ta tb) := by
 intro pins s σ H Q I h
 exact wpAny_BinOp (binT ha hb I h fun v u s2 x y H2 I2 rx ry q => ho pins s2 σ H2 x y v u Q I2 rx ry q)
theorem pe_un {op : UnaryOp} {r : V → Hp → VK → Prop} (ho : UnR X (unaryOp op) r) (ha : PE X a ta) : PE X (.UnaryOp op a pos) (tUn r ta) := by
 intro pins s σ H Q I h
 exact UnaryOp_ (thn (ha pins s σ H _ I h) fun v s1 ⟨x, H1, I1, r1, q1⟩ => ho pins s1 σ H1 x v Q I1 r1 q1)
theorem opI {f : Value → Value → Sem Value} {C : Int → Int → Prop} {g : Int → Int → Int}
   (rule : ∀ (i j : Int) (t u : Tok) (s : Shared) (Q : Value → Shared → Prop) (E : Value → Shared → Prop), C i j → Q (.int (g i j) s.toks) { s with toks := s.toks + 1 } → wpAny (model X.prog X.w) X.A (f (.int i t) (.int j u)) Q E s) :
   OpR X f (rI C fun i j => .int (g i j)) := by
 intro pins s σ H x y v u Q I rx ry h
 obtain ⟨i, j, rfl, rfl, hc, q⟩ := h
 obtain ⟨t, rfl⟩ := rx
 obtain ⟨t', rfl⟩ := ry
 exact rule i j t t' s _ _ hc ⟨.int (g i j), H, I.tok _, ⟨_, rfl⟩, q⟩
theorem opI0 {f : Value → Value → Sem Value} {g : Int → Int → Int}
   (rule : ∀ (i j : Int) (t u : Tok) (s : Shared) (Q : Value → Shared → Prop) (E : Value → Shared → Prop), Q (.int (g i j) s.toks) { s with toks := s.toks + 1 } → wpAny (model X.prog X.w) X.A (f (.int i t) (.int j u)) Q E s) :
   OpR X f (rI0 fun i j => .int (g i j)) := by
 intro pins s σ H x y v u Q I rx ry h
 obtain ⟨i, j, rfl, rfl, q⟩ := h
 obtain ⟨t, rfl⟩ := rx
 obtain ⟨t', rfl⟩ := ry
 exact rule i j t t' s _ _ ⟨.int (g i j), H, I.tok _, ⟨_, rfl⟩, q⟩
theorem opB0 {f : Value → Value → Sem Value} {g : Int → Int → Bool}
   (rule : ∀ (i j : Int) (t u : Tok) (s : Shared) (Q : Value → Shared → Prop) (E : Value → Shared → Prop), Q (.bool (g i j)) s → wpAny (model X.prog X.w) X.A (f (.int i t) (.int j u)) Q E s) :
   OpR X f (rI0 fun i j => .bl (g i j)) := by
 intro pins s σ H x y v u Q I rx ry h
 obtain ⟨i, j, rfl, rfl, q⟩ := h
 obtain ⟨t, rfl⟩ := rx
 obtain ⟨t', rfl⟩ := ry
 exact rule i j t t' s _ _ ⟨.bl (g i j), H, I, rfl, q⟩
noncomputable def CPow (i j : Int) : Prop := 0 ≤ j ∧ j ≤ 1000000 ∧ i.natAbs < 2 ^ 64
theorem op_add : OpR X (binaryOp .Add) (rI0 fun i j => .int (i + j)) := opI0 fun _ _ _ _ _ _ _ q => add_int q
theorem op_sub : OpR X (binaryOp .Sub) (rI0 fun i j => .int (i - j)) := opI0 fun _ _ _ _ _ _ _ q => sub_int q
theorem op_mod : OpR X (binaryOp .Mod) (rI (fun _ j => 0 < j) fun i j => .int (i % j)) := opI fun i j _ _ _ _ _ hc q => by
 have h1 : (0 : Int) < j := hc
 exact mod_int' (by omega) (by rw [Int.fmod_eq_emod_of_nonneg i (by omega)]; exact q)
theorem op_pow : OpR X (binaryOp .Pow) (rI CPow fun i j => .int (i ^ j.toNat)) := opI fun _ _ _ _ _ _ _ hc q => pow_int_small hc.1 hc.2.1 hc.2.2 q
theorem unI {f : Value → Sem Value} {g : Int → Int}
   (rule : ∀ (i : Int) (t : Tok) (s : Shared) (Q : Value → Shared → Prop) (E : Value → Shared → Prop), Q (.int (g i) s.toks) { s with toks := s.toks + 1 } → wpAny (model X.prog X.w) X.A (f (.int i t)) Q E s) :
   UnR X f (rU fun i => .int (g i)) := by
 intro pins s σ H x v Q I rx h
 obtain ⟨i, rfl, q⟩ := h
 obtain ⟨t, rfl⟩ := rx
 exact rule i t s _ _ ⟨.int (g i), H, I.tok _, ⟨_, rfl⟩, q⟩
theorem un_neg : UnR X (unaryOp .USub) (rU fun i => .int (-i)) := unI fun _ _ _ _ _ q => neg_int q
end
noncomputable def scal : V → V → Bool
 | .non, .non => true | .non, .int _ => true | .int _, .non => true | .non, .bl _ => true | .bl _, .non => true | .non, .str _ => true | .str _, .non => true
 | .int _, .int _ => true | .bl _, .bl _ => true | .str _, .str _ => true | .byt _, .byt _ => true
 | .int _, .str _ => true | .str _, .int _ => true | .bl _, .str _ => true | .str _, .bl _ => true
 | _, _ => false
noncomputable def rEq : R2 := fun x y H Q => scal x y = true ∧ Q (.bl (decide (x = y))) H
noncomputable def rNe : R2 := fun x y H Q => scal x y = true ∧ Q (.bl (!decide (x = y))) H
theorem dec_int {i j : Int} : decide (V.int i = V.int j) = (i == j) := by
 rw [Bool.eq_iff_iff]
 simp
theorem dec_bl {i j : Bool} : decide (V.bl i = V.bl j) = (i == j) := by
 rw [Bool.eq_iff_iff]
 simp
theorem dec_str {i j : Str} : decide (V.str i = V.str j) = (i == j) := by
 rw [Bool.eq_iff_iff]
 simp
theorem dec_byt {i j : Array UInt8} : decide (V.byt i = V.byt j) = (i.toList == j.toList) := by
 rw [Bool.eq_iff_iff]
 cases i
 cases j
 simp
section
variable {X : Cx} {a b c : Expr} {ta tb tc : TE} {pos : Pos}
theorem fin_bl {pins : List (Addr × Obj)} {σ : St} {H : Hp} {s : Shared} {Q : VK} {k k' : Bool} (I : Inv X pins σ H s) (q : Q (.bl k) H) (e : k = k') : EP X pins σ Q (.bool k') s := by
 subst e
 exact ⟨.bl k, H, I, rfl, q⟩
theorem op_eq : OpR X (compareOp .Eq) rEq := by
 intro pins s σ H x y v u Q I rx ry h
 obtain ⟨hs, q⟩ := h
 cases x with
 | non =>
   cases rx
   cases y with
   | non => cases ry; exact PySem.EqNone.eq_none_none (fin_bl I q (by simp))
   | bl j => cases ry; exact PySem.EqNone.eq_none_bool (fin_bl I q (by simp))
   | int j => obtain ⟨t', rfl⟩ := ry; exact PySem.EqNone.eq_none_int (fin_bl I q (by simp))
   | str j => obtain ⟨t', rfl⟩ := ry; exact PySem.EqNone.eq_none_str (fin_bl I q (by simp))
   | _ => exact absurd (show false = true from hs) Bool.false_ne_true
 | bl i =>
   cases rx
   cases y with
   | non => cases ry; exact PySem.EqNone.eq_bool_none (fin_bl I q (by simp))
   | bl j => cases ry; exact eq_bool (fin_bl I q dec_bl)
   | str j => obtain ⟨t', rfl⟩ := ry; exact PySem.EqMixed.eq_bool_str (fin_bl I q (by simp))
   | _ => exact absurd (show false = true from hs) Bool.false_ne_true
 | int i =>
   obtain ⟨t, rfl⟩ := rx
   cases y with
   | non => cases ry; exact PySem.EqNone.eq_int_none (fin_bl I q (by simp))
   | int j => obtain ⟨t', rfl⟩ := ry; exact eq_int (fin_bl I q dec_int)
   | str j => obtain ⟨t', rfl⟩ := ry; exact PySem.EqMixed.eq_int_str (fin_bl I q (by simp))
   | _ => exact absurd (show false = true from hs) Bool.false_ne_true
 | str i =>
   obtain ⟨t, rfl⟩ := rx
   cases y with
   | non => cases ry; exact PySem.EqNone.eq_str_none (fin_bl I q (by simp))
   | bl j => cases ry; exact PySem.EqMixed.eq_str_bool (fin_bl I q (by simp))
   | int j => obtain ⟨t', rfl⟩ := ry; exact PySem.EqMixed.eq_str_int (fin_bl I q (by simp))
   | str j => obtain ⟨t', rfl⟩ := ry; exact eq_str (fin_bl I q dec_str)
   | _ => exact absurd (show false = true from hs) Bool.false_ne_true
 | byt i =>
   obtain ⟨t, rfl⟩ := rx
   cases y with
   | byt j => obtain ⟨t', rfl⟩ := ry; exact PySem.W.eq_bytes (fin_bl I q dec_byt)
   | _ => exact absurd (show false = true from hs) Bool.false_ne_true
 | _ => cases y <;> exact absurd (show false = true from hs) Bool.false_ne_true
theorem op_ne : OpR X (compareOp .NotEq) rNe := by
 intro pins s σ H x y v u Q I rx ry h
 obtain ⟨hs, q⟩ := h
 cases x with
 | non =>
   cases rx
   cases y with
   | non => cases ry; exact PySem.EqNone.ne_none_none (fin_bl I q (by simp))
   | bl j => cases ry; exact PySem.EqNone.ne_none_bool (fin_bl I q (by simp))
   | int j => obtain ⟨t', rfl⟩ := ry; exact PySem.EqNone.ne_none_int (fin_bl I q (by simp))
   | str j => obtain ⟨t', rfl⟩ := ry; exact PySem.EqNone.ne_none_str (fin_bl I q (by simp))
   | _ => exact absurd (show false = true from hs) Bool.false_ne_true
 | bl i =>
   cases rx
   cases y with
   | non => cases ry; exact PySem.EqNone.ne_bool_none (fin_bl I q (by simp))
   | bl j => cases ry; exact ne_bool (fin_bl I q (congrArg not dec_bl))
   | str j => obtain ⟨t', rfl⟩ := ry; exact PySem.EqMixed.ne_bool_str (fin_bl I q (by simp))
   | _ => exact absurd (show false = true from hs) Bool.false_ne_true
 | int i =>
   obtain ⟨t, rfl⟩ := rx
   cases y with
   | non => cases ry; exact PySem.EqNone.ne_int_none (fin_bl I q (by simp))
   | int j => obtain ⟨t', rfl⟩ := ry; exact ne_int (fin_bl I q (congrArg not dec_int))
   | str j => obtain ⟨t', rfl⟩ := ry; exact PySem.EqMixed.ne_int_str (fin_bl I q (by simp))
   | _ => exact absurd (show false = true from hs) Bool.false_ne_true
 | str i =>
   obtain ⟨t, rfl⟩ := rx
   cases y with
   | non => cases ry; exact PySem.EqNone.ne_str_none (fin_bl I q (by simp))
   | bl j => cases ry; exact PySem.EqMixed.ne_str_bool (fin_bl I q (by simp))
   | int j => obtain ⟨t', rfl⟩ := ry; exact PySem.EqMixed.ne_str_int (fin_bl I q (by simp))
   | str j => obtain ⟨t', rfl⟩ := ry; exact ne_str (fin_bl I q (congrArg not dec_str))
   | _ => exact absurd (show false = true from hs) Bool.false_ne_true
 | byt i =>
   obtain ⟨t, rfl⟩ := rx
   cases y with
   | byt j => obtain ⟨t', rfl⟩ := ry; exact PySem.W.ne_bytes (fin_bl I q (congrArg not dec_byt))
   | _ => exact absurd (show false = true from hs) Bool.false_ne_true
 | _ => cases y <;> exact absurd (show false = true from hs) Bool.false_ne_true
theorem op_lt : OpR X (compareOp .Lt) (rI0 fun i j => .bl (decide (i < j))) := opB0 fun _ _ _ _ _ _ _ q => lt_int q
theorem op_gt : OpR X (compareOp .Gt) (rI0 fun i j => .bl (decide (j < i))) := opB0 fun _ _ _ _ _ _ _ q => gt_int q
theorem op_ge : OpR X (compareOp .GtE) (rI0 fun i j => .bl (decide (j ≤ i))) := opB0 fun _ _ _ _ _ _ _ q => ge_int q
theorem op_in_str : OpR X (compareOp .In) (fun x y H Q => ∃ i j, x = .str i ∧ y = .str j ∧ Q (.bl (!(Builtin.Str.occurrences j i 0 j.length 1).isEmpty)) H) := by
 intro pins s σ H x y v u Q I rx ry h
 obtain ⟨i, j, rfl, rfl, q⟩ := h
 obtain ⟨t, rfl⟩ := rx
 obtain ⟨t', rfl⟩ := ry
 exact in_str (fin_bl I q rfl)
theorem op_isN : OpR X (compareOp .Is) (fun x y H Q => y = .non ∧ Q (.bl (decide (x = .non))) H) := by
 intro pins s σ H x y v u Q I rx ry h
 obtain ⟨rfl, q⟩ := h
 cases ry
 refine is_none_gen (fin_bl I q ?_)
 cases x <;> first
   | (cases rx; rfl)
   | (obtain ⟨t, rfl⟩ := rx; rfl)
theorem op_notin_str : OpR X (compareOp .NotIn) (fun x y H Q => ∃ i j, x = .str i ∧ y = .str j ∧ Q (.bl (!(!(Builtin.Str.occurrences j i 0 j.length 1).isEmpty))) H) := by
 intro pins s σ H x y v u Q I rx ry h
 obtain ⟨i, j, rfl, rfl, q⟩ := h
 obtain ⟨t, rfl⟩ := rx
 obtain ⟨t', rfl⟩ := ry
 exact notIn_str (fin_bl I q rfl)
theorem nomark (b : Expr) {op : CmpOp} (h : op ≠ .In := by decide) (h2 : op ≠ .NotIn := by decide) : behindInMarks op b = false := by
 have e1 : (op == CmpOp.In) = false := by cases op <;> first | rfl | exact absurd rfl h
 have e2 : (op == CmpOp.NotIn) = false := by cases op <;> first | rfl | exact absurd rfl h2
 cases b <;> simp [behindInMarks, e1, e2]
theorem pe_cmpR {op : CmpOp} {r : R2} (ho : OpR X (compareOp op) r) (ha : PE X a ta) (hb : PE X b tb) (hm : behindInMarks op b = false) : PE X (.Compare a [op] [b] pos) (tOp r ta tb) := by
 intro pins s σ H Q I h
 exact wpAny_Compare1 (binT ha hb I h fun v u s2 x y H2 I2 rx ry q => ho pins s2 σ H2 x y v u Q I2 rx ry q) hm
noncomputable def tTest (t : TE) : TT := fun σ H Q => t σ H fun x H' => ∃ k, x = .bl k ∧ Q k H'
theorem pt_cmpR {op : CmpOp} {r : R2} (ho : OpR X (compareOp op) r) (ha : PE X a ta) (hb : PE X b tb) (hm : behindInMarks op b = false) : PT X (.Compare a [op] [b] pos) (tTest (tOp r ta tb)) := by
 intro pins s σ H Q I h
 refine wpAny_isTrue_Compare1 (thn (ha pins s σ H _ I h) fun v s1 ⟨x, H1, I1, r1, q1⟩ => thn (hb pins s1 σ H1 _ I1 q1) fun u s2 ⟨y, H2, I2, r2, q2⟩ =>
   thn (ho pins s2 σ H2 x y v u _ I2 r1 r2 q2) fun c s3 ⟨z, H3, I3, r3, k, e, q3⟩ => ?_) hm
 subst e
 cases r3
 exact wpAny_truthy_bool ⟨H3, I3, q3⟩
theorem line63 : (sizeLine : Nat) < 2 ^ 63 := by rw [sizeLine_eq]; decide
theorem op_add_str : OpR X (binaryOp .Add) (fun x y H Q => ∃ i j, x = .str i ∧ y = .str j ∧ i.length + j.length ≤ sizeLine ∧ Q (.str (i ++ j)) H) := by
 intro pins s σ H x y v u Q I rx ry h
 obtain ⟨i, j, rfl, rfl, hz, q⟩ := h
 obtain ⟨t, rfl⟩ := rx
 obtain ⟨t', rfl⟩ := ry
 exact add_str (fun t' tk => ⟨.str (i ++ j), H, I.tok _, ⟨_, rfl⟩, q⟩) hz
theorem vals1 {x : V} {us : List Value} (r : Vals [x] us) : ∃ u, us = [u] ∧ RelV x u := by
 cases r with
 | cons r1 r2 => cases r2; exact ⟨_, rfl, r1⟩
theorem vals2 {x y : V} {us : List Value} (r : Vals [x, y] us) : ∃ u w', us = [u, w'] ∧ RelV x u ∧ RelV y w' := by
 cases r with
 | cons r1 r2 =>
   cases r2 with
   | cons r3 r4 => cases r4; exact ⟨_, _, rfl, r1, r3⟩
theorem call_max2 (hc : X.calm = true) : CallR X (.builtin "max") (fun xs H Q => ∃ i j, xs = [.int i, .int j] ∧ Q (.int (if j > i then j else i)) H) := by
 intro pins s σ H xs us Q I r h
 obtain ⟨i, j, rfl, q⟩ := h
 obtain ⟨u, w', rfl, ⟨t, rfl⟩, ⟨t', rfl⟩⟩ := vals2 r
 refine max_two_ints (I.ok.hd hc) fun h' tk k => ⟨_, H, I.kept k, ?_, q⟩
 by_cases hj : j > i
 · rw [if_pos hj, if_pos hj]; exact ⟨_, rfl⟩
 · rw [if_neg hj, if_neg hj]; exact ⟨_, rfl⟩
theorem call_min2 (hc : X.calm = true) : CallR X (.builtin "min") (fun xs H Q => ∃ i j, xs = [.int i, .int j] ∧ Q (.int (if j < i then j else i)) H) := by
 intro pins s σ H xs us Q I r h
 obtain ⟨i, j, rfl, q⟩ := h
 obtain ⟨u, w', rfl, ⟨t, rfl⟩, ⟨t', rfl⟩⟩ := vals2 r
 refine min_two_ints (I.ok.hd hc) fun h' tk k => ⟨_, H, I.kept k, ?_, q⟩
 by_cases hj : j < i
 · rw [if_pos hj, if_pos hj]; exact ⟨_, rfl⟩
 · rw [if_neg hj, if_neg hj]; exact ⟨_, rfl⟩
theorem call_int1 : CallR X (.type "int") (fun xs H Q => (∃ i, xs = [.int i] ∧ Q (.int i) H) ∨ ∃ k, xs = [.bl k] ∧ Q (.int (if k then 1 else 0)) H) := by
 intro pins s σ H xs us Q I r h
 rcases h with ⟨i, rfl, q⟩ | ⟨k, rfl, q⟩
 · obtain ⟨u, rfl, t, rfl⟩ := vals1 r
   exact call_int_int ⟨.int i, H, I, ⟨_, rfl⟩, q⟩
 · obtain ⟨u, rfl, r1⟩ := vals1 r
   cases r1
   exact call_int_bool ⟨.int (if k then 1 else 0), H, I.tok _, ⟨_, rfl⟩, q⟩
theorem call_str_int : CallR X (.type "str") (fun xs H Q => ∃ i, xs = [.int i] ∧ i.natAbs.log2 < 1920 ∧ Q (.str (toString i)) H) := by
 intro pins s σ H xs us Q I r h
 obtain ⟨i, rfl, hz, q⟩ := h
 obtain ⟨u, rfl, t, rfl⟩ := vals1 r
 exact PySem.P.str_of_int hz ⟨.str _, H, I.tok _, ⟨_, rfl⟩, q⟩
end
end L2
namespace L2
open PySem PySem.Spec PyProof.Rows
structure ObjM (h : Heap) (x dx C : Addr) (mA : Str → Option Value) : Prop where
 obj : h.get? x = some (PySem.W.instObj C dx)
 ns : h.Ns1 dx mA
 ne : dx ≠ x
theorem lookIn_ns {h : Heap} {dx : Addr} {mA : Str → Option Value} (n : h.Ns1 dx mA) : ∃ od, h.get? dx = some od ∧ ∀ name, PySem.W.lookIn name od = some (mA name) := by
 obtain ⟨o, es, ep, ho, hd, hk, _, hm⟩ := n
 refine ⟨o, ho, fun name => ?_⟩
 have e := hm name
 unfold nsFind findBy at e
 rw [← Array.find?_toList] at e
 unfold PySem.W.lookIn
 rw [hd]
 dsimp only
 split
 · rename_i y q
   rw [q] at e
   exact congrArg some e
 · rename_i q
   rw [q] at e
   have a : es.toList.any (·.refKey) = false := by
     rw [List.any_eq_false]
     intro y hy
     obtain ⟨z, t, hkey⟩ := hk y (Array.mem_toList_iff.mp hy)
     simp [DictEntry.refKey, hkey]
   have a' : ¬ es.toList.any (·.refKey) = true := by rw [a]; exact Bool.false_ne_true
   rw [if_neg a']
   exact congrArg some e
theorem ObjM.look {h : Heap} {x dx C : Addr} {mA : Str → Option Value} (I : ObjM h x dx C mA) : ∃ od, PySem.W.InstAt h x (PySem.W.instObj C dx) C (some od) ∧ ∀ name, PySem.W.lookIn name od = some (mA name) :=
 let ⟨od, ho, hl⟩ := lookIn_ns I.ns
 ⟨od, ⟨I.obj, rfl, rfl, ho⟩, hl⟩
section
variable {prog : Program} {w : World} {A : Around} {E : Value → Shared → Prop} {s : Shared} {K : PySem.W.Frag} {x dx C f : Addr} {mA : Str → Option Value} {name : Str} {v : Value}
theorem get_map {expr : Bool} {Q : Value → Shared → Prop} (X : K.In s.heap) (I : ObjM s.heap x dx C mA) (hg : PySem.W.plainGet K C name = true) (hh : PySem.W.hasDictIn K C = true)
   (ha : PySem.W.findIn K (.ref C) name = some none) (hv : mA name = some v) (hv' : PySem.W.handedIn v = true) (h : Q v { s with toks := s.toks + 1 }) :
   wpAny (model prog w) A (getAttr (.ref x) name expr) Q E s := by
 obtain ⟨od, J, hl⟩ := I.look
 exact PySem.W.get_value X J (PySem.W.plainGet_of hg).1 (PySem.W.findObj_own hh ha rfl (by rw [hl, hv])) hv' h
theorem get_meth {pl : Sem Bool} {Q : Value × List Value → Shared → Prop} (X : K.In s.heap) (I : ObjM s.heap x dx C mA) (hg : PySem.W.plainGet K C name = true)
   (hf : PySem.W.findIn K (.ref C) name = some (some (.ref f))) (ht : PySem.W.isFn K (.ref f) = true) (hv : mA name = none) (h : Q (.ref f, [.ref x]) s) :
   wpAny (model prog w) A (getMethod (.ref x) name pl) Q E s := by
 obtain ⟨od, J, hl⟩ := I.look
 exact PySem.W.method_fn X J (PySem.W.plainGet_of hg).1 (PySem.W.plainGet_of hg).2 hf (beq_iff_eq.mp ht) (by show (PySem.W.lookIn name od).map (·.isSome) = some false; rw [hl, hv]; rfl) h
theorem set_map {ns : List Str} {Q : Unit → Shared → Prop} (X : K.In s.heap) (I : ObjM s.heap x dx C mA)
   (hs : PySem.W.findIn K (.ref C) "__setattr__" = some (some (.builtin "object.__setattr__"))) (hp : PySem.W.plainOver K C = true) (ht : PySem.W.takerIn K C name = some none) (hh : PySem.W.hasDictIn K C = true)
   (hw : PySem.Within mA ns) (hsz : ns.length ≤ sizeLine)
   (h : ∀ h', ObjM h' x dx C (fun y => if y = name then some v else mA y) → Heap.SameBut dx s.heap h' → Q () { s with heap := h', toks := s.toks + 2 }) :
   wpAny (model prog w) A (setAttr (.ref x) name v) Q E s := by
 obtain ⟨od, J, hl⟩ := I.look
 refine PySem.W.set_plain X J hs (PySem.W.osa_open (s := { s with toks := s.toks + 1 }) (r := none) X J hp ht fun b => ?_)
 obtain ⟨cd, hc, hd'⟩ := PySem.W.any_some hh
 have hx : s.heap.get? x = some ⟨.ref C, some dx, .plain, #[]⟩ := I.obj
 refine wpAny_bind (wpAny_pure (wpAny_bind (wpAny_bind (wpAny_loadPart hx (wpAny_bind (PySem.W.Looks.here (s := { s with toks := s.toks + 1 }) (PySem.W.looks_clsIn X hc) ?_))))))
 rw [hd']
 refine wpAny_pure (a := some dx) (wpAny_bind (wpAny_pure (wpAny_bind ?_)))
 refine wpAny_nsSet1 (s := { s with toks := s.toks + 1 }) I.ns fun h' hn2 hs2 => ?_
 obtain ⟨oD, esD, epD, hoD, hdD, hcD⟩ := hn2.count (PySem.Within.cons name v hw)
 refine wpAny_bind (wpAny_lookBehind hoD (by rw [hdD]; exact pastItsLine_dict (Nat.le_trans hcD (by rw [List.length_cons]; omega))) ?_)
 exact wpAny_pure (h _ ⟨(hs2.2 _ (Ne.symm I.ne)).trans I.obj, hn2, I.ne⟩ hs2)
theorem make_map {R : Result → Shared → Prop} {vs : List Value} {kw : List (Str × Value)} (X : K.In s.heap) (hm : PySem.W.makesIn K C = true)
   (hi : PySem.W.findIn K (.ref C) "__init__" = some (some (.ref f))) (hf : PySem.W.typeIn K (.ref f) = some (.type "function"))
   (h : codeAny (model prog w) (A.under (.builtin "type.__call__" ⟨.ref C :: vs, kw⟩)) (.call (.ref f) ⟨.ref (s.heap.objs.size + 1) :: vs, kw⟩) (PySem.W.InitBack (s.heap.objs.size + 1) R)
     { s with heap := (s.heap.push PySem.W.emptyDict).push (PySem.W.instObj C s.heap.objs.size) }) :
   codeAny (model prog w) A (.call (.ref C) ⟨vs, kw⟩) R s := by
 obtain ⟨hh, g, d, t, os⟩ := s
 exact PySem.W.make_core (PySem.W.makes_of X hm) (PySem.W.looks_findIn X hi) (fun self => PySem.W.bind_fn X self hf) (.inl rfl) h
end
noncomputable def putF (f : Str) (v : V) : List (Str × V) → List (Str × V)
 | [] => [(f, v)]
 | (g, x) :: r => if g = f then (g, v) :: r else (g, x) :: putF f v r
theorem lookup_putF (f g : Str) (v : V) : ∀ fs : List (Str × V), (putF f v fs).lookup g = if g = f then some v else fs.lookup g
 | [] => by
   show List.lookup g [(f, v)] = _
   by_cases h : g = f
   · have hb : (g == f) = true := beq_iff_eq.mpr h
     simp only [List.lookup, hb, if_pos h]
   · have hb : (g == f) = false := beq_eq_false_iff_ne.mpr h
     simp only [List.lookup, hb, if_neg h]
 | (k, x) :: r => by
   have ih := lookup_putF f g v r
   rw [show putF f v ((k, x) :: r) = (if k = f then (k, v) :: r else (k, x) :: putF f v r) from rfl]
   by_cases hk : k = f
   · rw [if_pos hk]
     by_cases h : g = k
     · have hb : (g == k) = true := beq_iff_eq.mpr h
       simp only [List.lookup, hb, if_pos (h.trans hk)]
     · have hb : (g == k) = false := beq_eq_false_iff_ne.mpr h
       simp only [List.lookup, hb, if_neg (fun e : g = f => h (e.trans hk.symm))]
   · rw [if_neg hk]
     by_cases h : g = k
     · have hb : (g == k) = true := beq_iff_eq.mpr h
       simp only [List.lookup, hb, if_neg (fun e : g = f => hk (h.symm.trans e))]
     · have hb : (g == k) = false := beq_eq_false_iff_ne.mpr h
       simp only [List.lookup, hb]
       exact ih
theorem keys_putF (f : Str) (v : V) : ∀ fs : List (Str × V), f ∈ (putF f v fs).map (·.1) ∧ ∀ g, g ∈ fs.map (·.1) → g ∈ (putF f v fs).map (·.1)
 | [] => ⟨by simp [putF], fun g h => by simp at h⟩
 | (k, x) :: r => by
   obtain ⟨i1, i2⟩ := keys_putF f v r
   rw [show putF f v ((k, x) :: r) = (if k = f then (k, v) :: r else (k, x) :: putF f v r) from rfl]
   by_cases hk : k = f
   · rw [if_pos hk]
     subst hk
     exact ⟨by simp, fun g h => by simpa using h⟩
   · rw [if_neg hk]
     refine ⟨?_, fun g h => ?_⟩
     · rw [List.map_cons]
       exact List.mem_cons_of_mem _ i1
     · rw [List.map_cons] at h ⊢
       rcases List.mem_cons.mp h with e | e
       · exact List.mem_cons.mpr (.inl e)
       · exact List.mem_cons_of_mem _ (i2 g e)
theorem length_putF (f : Str) (v : V) : ∀ fs : List (Str × V), (putF f v fs).length ≤ fs.length + 1
 | [] => by simp [putF]
 | (k, x) :: r => by
   have ih := length_putF f v r
   rw [show putF f v ((k, x) :: r) = (if k = f then (k, v) :: r else (k, x) :: putF f v r) from rfl]
   by_cases hk : k = f
   · rw [if_pos hk, List.length_cons, List.length_cons]; omega
   · rw [if_neg hk, List.length_cons, List.length_cons]; omega
theorem RelO.some_of {v : V} {o : Option Value} (r : RelO (some v) o) : ∃ u, o = some u ∧ RelV v u := by
 cases o with
 | none => exact (show False from r).elim
 | some u => exact ⟨u, rfl, r⟩
theorem RelO.none_of {o : Option Value} (r : RelO none o) : o = none := by
 cases o with
 | none => rfl
 | some u => exact (show False from r).elim
theorem handed_of {v : V} {u : Value} (r : RelV v u) : PySem.W.handedIn u = true := by
 cases v with
 | non => cases (show u = Value.none from r); rfl
 | bl b => cases (show u = Value.bool b from r); rfl
 | int i => obtain ⟨t, e⟩ := (show ∃ t, u = Value.int i t from r); cases e; rfl
 | str x => obtain ⟨t, e⟩ := (show ∃ t, u = Value.str x t from r); cases e; rfl
 | byt b => obtain ⟨t, e⟩ := (show ∃ t, u = Value.bytes b t from r); cases e; rfl
 | flt b => obtain ⟨t, e⟩ := (show ∃ t, u = Value.float b t from r); cases e; rfl
 | ref a => cases (show u = Value.ref a from r); rfl
 | ty n => cases (show u = Value.type n from r); rfl
section
variable {P : Program} {w : World} {H H' : Hp} {h h' : Heap} {a C dx : Addr} {fs fs' : List (Str × V)}
theorem ins_get (hok : HOk P w H h) (e : H a = some (.ins C dx fs)) : ∃ mA, ObjM h a dx C mA ∧ (∀ f, RelO (fs.lookup f) (mA f)) ∧ PySem.Within mA (fs.map (·.1)) ∧ fs.length ≤ 1000 ∧ H dx = some (.own a) := by
 obtain ⟨d, z, ne, ob, mA, n, r, q⟩ := (show ObjOk P w H h a (.ins C dx fs) from hok a _ e)
 exact ⟨mA, ⟨ob, n, ne⟩, r, q, z, d⟩
end
structure Cls (K : PySem.W.Frag) (C : Addr) : Prop where
 pg : PySem.W.plainGet K C Str.empty = true
 hd : PySem.W.hasDictIn K C = true
 po : PySem.W.plainOver K C = true
 sa : PySem.W.findIn K (.ref C) "__setattr__" = some (some (.builtin "object.__setattr__"))
theorem Cls.get {K : PySem.W.Frag} {C : Addr} (c : Cls K C) (f : Str) : PySem.W.plainGet K C f = true := c.pg
noncomputable def NoAttr (K : PySem.W.Frag) (C : Addr) (f : Str) : Prop := PySem.W.findIn K (.ref C) f = some none
theorem NoAttr.taker {K : PySem.W.Frag} {C : Addr} {f : Str} (n : NoAttr K C f) : PySem.W.takerIn K C f = some none := by
 unfold PySem.W.takerIn
 rw [show PySem.W.findIn K (.ref C) f = some none from n]
 rfl
structure Meth (K : PySem.W.Frag) (C : Addr) (m : Str) (f : Addr) : Prop where
 at_ : PySem.W.findIn K (.ref C) m = some (some (.ref f))
 fn : PySem.W.isFn K (.ref f) = true
 kp : PySem.W.keepIn K (.ref f) = true
section
variable {X : Cx} {pins : List (Addr × Obj)} {σ : St} {H : Hp} {s : Shared} {a C dx : Addr} {fs : List (Str × V)} {f : Str} {v : V} {A : Around} {E : Value → Shared → Prop}
theorem getattr_ok {b : Bool} {Q : Value → Shared → Prop} (I : Inv X pins σ H s) (e : H a = some (.ins C dx fs)) (c : Cls X.K C) (n : NoAttr X.K C f) (l : fs.lookup f = some v)
   (h : ∀ u s', Inv X pins σ H s' → RelV v u → Q u s') : wpAny (model X.prog X.w) A (getAttr (.ref a) f b) Q E s := by
 obtain ⟨mA, O, r, _, _, _⟩ := ins_get I.hok e
 obtain ⟨u, hu, ru⟩ := RelO.some_of (v := v) (o := mA f) (by rw [← l]; exact r f)
 exact get_map I.kIn O (c.get f) c.hd n hu (handed_of ru) (h u _ (I.tok _) ru)
theorem getmeth_ok {m : Str} {g : Addr} {pl : Sem Bool} {Q : Value × List Value → Shared → Prop} (I : Inv X pins σ H s) (e : H a = some (.ins C dx fs)) (c : Cls X.K C) (k : Meth X.K C m g) (l : fs.lookup m = none)
   (h : Q (.ref g, [.ref a]) s) : wpAny (model X.prog X.w) A (getMethod (.ref a) m pl) Q E s := by
 obtain ⟨mA, O, r, _, _, _⟩ := ins_get I.hok e
 have hn : mA m = none := RelO.none_of (by rw [← l]; exact r m)
 exact get_meth I.kIn O (c.get m) k.at_ k.fn hn h
theorem setattr_ok {y : V} {u : Value} {Q : Unit → Shared → Prop} (I : Inv X pins σ H s) (e : H a = some (.ins C dx fs)) (c : Cls X.K C) (n : NoAttr X.K C f) (hl : fs.length < 1000) (ry : RelV y u)
   (h : ∀ s', Inv X pins σ (upd H a (.ins C dx (putF f y fs))) s' → Q () s') : wpAny (model X.prog X.w) A (setAttr (.ref a) f u) Q E s := by
 obtain ⟨mA, O, r, wi, _, ho⟩ := ins_get I.hok e
 have hz : (fs.map (·.1)).length ≤ sizeLine := by rw [List.length_map, sizeLine_eq]; omega
 refine set_map I.kIn O c.sa c.po n.taker c.hd wi hz fun h' O' sb => h _ ?_
 have hd : ∃ o, h'.get? dx = some o := let ⟨o, _, _, e', _⟩ := O'.ns; ⟨o, e'⟩
 refine I.write (x := a) (e := dx) (by rw [e]; exact True.intro) (.inr ho) (fun b q hb z => (sb.2 b hb).trans z) hd ?_
 refine ⟨by rw [upd_ne O.ne]; exact ho, ?_, O.ne, O'.obj, _, O'.ns, fun g => ?_, fun g hg => ?_⟩
 · have := length_putF f y fs; omega
 · show RelO ((putF f y fs).lookup g) (if g = f then some u else mA g)
   rw [lookup_putF]
   by_cases q : g = f
   · rw [if_pos q, if_pos q]; exact ry
   · rw [if_neg q, if_neg q]; exact r g
 · by_cases q : g = f
   · rw [q]; exact (keys_putF f y fs).1
   · refine (keys_putF f y fs).2 g (wi g fun z => hg ?_)
     show (if g = f then some u else mA g) = none
     rw [if_neg q]; exact z
theorem Inv.made (I : Inv X pins σ H s) : Inv X pins σ (upd (upd H s.heap.objs.size (.own (s.heap.objs.size + 1))) (s.heap.objs.size + 1) (.ins C s.heap.objs.size []))
   { s with heap := (s.heap.push PySem.W.emptyDict).push (PySem.W.instObj C s.heap.objs.size) } := by
 have e1 : (s.heap.push PySem.W.emptyDict).get? s.heap.objs.size = some PySem.W.emptyDict := Heap.get?_push_size s.heap rfl
 have e2 : ((s.heap.push PySem.W.emptyDict).push (PySem.W.instObj C s.heap.objs.size)).get? (s.heap.objs.size + 1) = some (PySem.W.instObj C s.heap.objs.size) := by
   have := Heap.get?_push_size (s.heap.push PySem.W.emptyDict) (o := PySem.W.instObj C s.heap.objs.size) rfl
   rwa [Heap.size_push] at this
 have e3 : (s.heap.push PySem.W.emptyDict).Ns s.heap.objs.size (fun _ => none) := ⟨PySem.W.emptyDict, #[], _, e1, rfl, (fun e he => absurd he (by simp)), fun _ => rfl⟩
 have I1 := I.laid (a := s.heap.objs.size) (o := .own (s.heap.objs.size + 1)) (h' := s.heap.push PySem.W.emptyDict) (t' := s.toks) (fun b u q => Heap.get?_push_of_some _ q) (Nat.le_refl _) ⟨_, e1⟩
 refine I1.laid (a := s.heap.objs.size + 1) (o := .ins C s.heap.objs.size []) (t' := s.toks) (fun b u q => Heap.get?_push_of_some _ q) (Nat.le_of_eq (Heap.size_push _ _)) ?_
 have ne : s.heap.objs.size ≠ s.heap.objs.size + 1 := Nat.ne_of_lt (Nat.lt_succ_self _)
 refine ⟨by rw [upd_ne ne, upd_same], Nat.zero_le _, ne, e2, fun _ => none, (Heap.Ns1.of_empty e3).at fun o q => Heap.get?_push_of_some _ q, fun _ => True.intro, fun y hy => absurd rfl hy⟩
theorem attr_of {prog : Program} {w : World} {env : Env} {e : Expr} {f : Str} {pos : Pos} {s : Shared} {Q : Value → Shared → Prop} (hb : attributeBase e f env (eval e env) = eval e env)
   (h : wpAny (model prog w) A (eval e env) (fun o s₁ => wpAny (model prog w) A (getAttr o f true) Q E s₁) E s) : wpAny (model prog w) A (eval (.Attribute e f pos) env) Q E s :=
 Attribute_any_ h (by rw [arm_eval_Attribute, hb])
end
noncomputable def tFld (K : PySem.W.Frag) (ta : TE) (f : Str) : TE := fun σ H Q => ta σ H fun x H1 => ∃ a C dx fs v, x = .ref a ∧ H1 a = some (.ins C dx fs) ∧ Cls K C ∧ NoAttr K C f ∧ fs.lookup f = some v ∧ Q v H1
noncomputable def sFld (K : PySem.W.Frag) (ta tv : TE) (f : Str) : TS := fun D σ H => tv σ H fun y H1 => ta σ H1 fun x H2 => ∃ a C dx fs, x = .ref a ∧ H2 a = some (.ins C dx fs) ∧ Cls K C ∧ NoAttr K C f ∧ fs.length < 1000 ∧
 D.nx σ (upd H2 a (.ins C dx (putF f y fs)))
section
variable {X : Cx} {o e value : Expr} {f : Str} {pos pos' tpos : Pos} {ta tv : TE}
theorem pe_fld (he : PE X e ta) (hb : attributeBase e f X.env (eval e X.env) = eval e X.env) : PE X (.Attribute e f pos) (tFld X.K ta f) := by
 intro pins s σ H Q I h
 refine attr_of hb (thn (he pins s σ H _ I h) fun u s1 ⟨x, H1, I1, rx, a, C, dx, fs, v, ex, ea, c, n, l, q⟩ => ?_)
 subst ex
 obtain rfl : u = Value.ref a := rx
 exact getattr_ok I1 ea c n l fun u' s2 I2 ru => ⟨v, H1, I2, ru, q⟩
theorem ps_fld (ha : PE X o ta) (hv : PE X value tv) (hs : swapsWith value (some (.Attribute o f pos')) pos.line X.env = pure false) : PS X (.Assign [.Attribute o f pos'] value pos) (sFld X.K ta tv f) := by
 intro pins s σ H D I h
 refine plainObj_wpAny_Assign_Attribute (thn (hv pins s σ H _ I h) fun u s1 ⟨y, H1, I1, ry, q⟩ => thn (ha pins s1 σ H1 _ I1 q) fun ov s2 ⟨x, H2, I2, rx, a, C, dx, fs, ex, ea, c, n, l, q2⟩ => ?_) hs
 subst ex
 obtain rfl : ov = Value.ref a := rx
 exact setattr_ok I2 ea c n l ry fun s3 I3 => ⟨σ, _, I3, q2⟩
end
section
variable {X : Cx} {pins : List (Addr × Obj)} {σ : St} {H : Hp} {s : Shared} {A : Around} {E : Value → Shared → Prop} {Q : Value → Shared → Prop} {c : Value} {b : Bool}
inductive TyOf (K : PySem.W.Frag) (H : Hp) : V → Value → Prop where
 | non : TyOf K H .non (.type "NoneType")
 | bl (x : Bool) : TyOf K H (.bl x) (.type "bool")
 | int (i : Int) : TyOf K H (.int i) (.type "int")
 | str (x : Str) : TyOf K H (.str x) (.type "str")
 | flt (x : UInt64) : TyOf K H (.flt x) (.type "float")
 | lst {a : Addr} {xs : List V} (e : H a = some (.lst xs)) : TyOf K H (.ref a) (.type "list")
 | frz {a : Addr} {o : Obj} {xs : List V} (e : H a = some (.frz o (.lst xs))) : TyOf K H (.ref a) (.type "list")
 | tup {a : Addr} {xs : List V} (e : H a = some (.tup xs)) : TyOf K H (.ref a) (.type "tuple")
 | dK {a : Addr} {kvs : List (Key × V)} (e : H a = some (.dK kvs)) : TyOf K H (.ref a) (.type "dict")
 | dT {a : Addr} {kvs : List (List Key × V)} (e : H a = some (.dT kvs)) : TyOf K H (.ref a) (.type "dict")
 | ins {a C dx : Addr} {fs : List (Str × V)} (e : H a = some (.ins C dx fs)) (cl : Cls K C) (ha : PySem.W.findIn K (.ref C) "__class__" = some (some (.builtin "object.__class__")))
     (hn : PySem.W.specialIn K (.builtin "object.__class__") "__get__" = some (some (.builtin "getset_descriptor.__get__"))) (htk : PySem.W.takesIn K (.builtin "object.__class__") = some true)
     (hm : PySem.W.mroIn K C (.type "object") = some true) : TyOf K H (.ref a) (.ref C)
theorem isinst_ok {x : V} {u t : Value} (I : Inv X pins σ H s) (rx : RelV x u) (ty : TyOf X.K H x t) (e : PySem.W.kitOne X.K t c = some b) (h : ∀ tk, Q (.bool b) { s with toks := tk }) :
   wpAny (model X.prog X.w) A (call (.builtin "isinstance") [u, c]) Q E s := by
 cases ty with
 | non => cases (show u = Value.none from rx); exact PySem.W.kia_one PySem.W.kitx_none I.kIn True.intro e (fun z => nomatch z) h
 | bl y => cases (show u = Value.bool y from rx); exact PySem.W.kia_one PySem.W.kitx_bool I.kIn True.intro e (fun z => nomatch z) h
 | int i => obtain ⟨t, q⟩ := (show ∃ t, u = Value.int i t from rx); cases q; exact PySem.W.kia_one PySem.W.kitx_int I.kIn True.intro e (fun z => nomatch z) h
 | str y => obtain ⟨t, q⟩ := (show ∃ t, u = Value.str y t from rx); cases q; exact PySem.W.kia_one PySem.W.kitx_str I.kIn True.intro e (fun z => nomatch z) h
 | flt y => obtain ⟨t, q⟩ := (show ∃ t, u = Value.float y t from rx); cases q; exact PySem.W.kia_one PySem.W.kitx_float I.kIn True.intro e (fun z => nomatch z) h
 | @lst a xs ea =>
   cases (show u = Value.ref a from rx)
   obtain ⟨_, _, n, _, h1⟩ := (show ObjOk X.prog X.w H s.heap a (.lst xs) from I.hok a _ ea)
   exact PySem.W.kia_one PySem.W.kitx_list I.kIn ⟨_, h1, rfl⟩ e (fun z => nomatch z) h
 | @frz a ob xs ea =>
   cases (show u = Value.ref a from rx)
   obtain ⟨_, _, _, n, _, h1⟩ := (show ObjOk X.prog X.w H s.heap a (.frz ob (.lst xs)) from I.hok a _ ea)
   exact PySem.W.kia_one PySem.W.kitx_list I.kIn ⟨_, h1, rfl⟩ e (fun z => nomatch z) h
 | @tup a xs ea =>
   cases (show u = Value.ref a from rx)
   obtain ⟨_, _, _, p⟩ := (show ObjOk X.prog X.w H s.heap a (.tup xs) from I.hok a _ ea)
   obtain ⟨o, h1, h2, _⟩ := p
   exact PySem.W.kia_one PySem.W.kitx_tuple I.kIn ⟨o, h1, h2⟩ e (fun z => nomatch z) h
 | @dK a kvs ea =>
   cases (show u = Value.ref a from rx)
   obtain ⟨_, _, vs, _, p⟩ := (show ObjOk X.prog X.w H s.heap a (.dK kvs) from I.hok a _ ea)
   obtain ⟨o, es, ep, h1, h2, _⟩ := p
   exact PySem.W.kia_one PySem.W.kitx_dict I.kIn ⟨o, h1, h2.1⟩ e (fun z => nomatch z) h
 | @dT a kvs ea =>
   cases (show u = Value.ref a from rx)
   obtain ⟨_, _, xs, _, o, es, ep, h1, h2, _⟩ := (show ObjOk X.prog X.w H s.heap a (.dT kvs) from I.hok a _ ea)
   exact PySem.W.kia_one PySem.W.kitx_dict I.kIn ⟨o, h1, h2.1⟩ e (fun z => nomatch z) h
 | @ins a C dx fs ea cl ha hn htk hm =>
   cases (show u = Value.ref a from rx)
   obtain ⟨mA, O, _⟩ := ins_get I.hok ea
   obtain ⟨od, J, _⟩ := O.look
   exact PySem.W.kia_one (PySem.W.kitx_own (cl.get _) cl.hd ha hn htk hm) I.kIn J e (fun z => nomatch z) h
end
end L2
namespace L2
open PySem PySem.Spec PyProof.Rows
structure Room (k : Nat) (A : Around) : Prop where
 hd : A.handled = none
 dp : A.depth + 3 * k + 5 < recursionLimit
 un : A.units + 16 * k + 200 < cLine
theorem Room.mono {j k : Nat} {A : Around} (r : Room k A) (h : j ≤ k) : Room j A := ⟨r.hd, by have := r.dp; omega, by have := r.un; omega⟩
theorem Room.deeper {k : Nat} {A : Around} (r : Room (k + 1) A) (env : Env) : Room k (A.deeper env) :=
 ⟨r.hd, by have := r.dp; show A.depth + 1 + 3 * k + 5 < _; omega, by have := r.un; show A.units + 3 + 16 * k + 200 < _; omega⟩
theorem make_depth {A : Around} {C : Addr} {us : List Value} {kw : List (Str × Value)} : (A.under (.builtin "type.__call__" ⟨.ref C :: us, kw⟩)).depth = A.depth + 1 := by
 first | rfl | simp [Around.under, Code.weight, Code.isCreation, Code.isGuard, Code.isCaller, Code.frames, Code.isFrame, guardIds]
theorem make_units {A : Around} {C : Addr} {us : List Value} {kw : List (Str × Value)} : (A.under (.builtin "type.__call__" ⟨.ref C :: us, kw⟩)).units = A.units + 1 := by
 first | rfl | simp [Around.under, Code.cUnits, Code.frames, Code.isFrame]
theorem Room.make {k : Nat} {A : Around} (r : Room (k + 1) A) (C : Addr) (us : List Value) (kw : List (Str × Value)) : Room k (A.under (.builtin "type.__call__" ⟨.ref C :: us, kw⟩)) :=
 ⟨r.hd, by have := r.dp; rw [make_depth]; omega, by have := r.un; rw [make_units]; omega⟩
theorem Room.depth {k : Nat} {A : Around} (r : Room k A) : A.depth < recursionLimit := by have := r.dp; omega
theorem Room.units0 {k : Nat} {A : Around} (r : Room k A) : A.units < cLine := by have := r.un; omega
noncomputable def tNil : TA := fun _ H Q => Q [] H
noncomputable def tCons (ta : TE) (tr : TA) : TA := fun σ H Q => ta σ H fun x H1 => tr σ H1 fun xs H2 => Q (x :: xs) H2
section
variable {X : Cx} {e : Expr} {es : List Expr} {te : TE} {t : TA} {pos : Pos}
theorem pa_nil : PA X [] tNil := fun _ _ _ _ H Q I h => Calls.spliced_nil ⟨[], H, I, .nil, h⟩
theorem pa_cons (ha : PE X e te) (hr : PA X es t) (hs : starEach (e :: es) X.env = (false, eval e X.env) :: starEach es X.env := by rfl) : PA X (e :: es) (tCons te t) := by
 intro pos pins s σ H Q I h
 rw [hs]
 show wpAny _ _ (spliced ((false, eval e X.env) :: backTo pos (starEach es X.env))) _ _ s
 refine Calls.spliced_cons (thn (ha pins s σ H _ I h) fun u s1 ⟨x, H1, I1, r1, q1⟩ => ?_)
 exact thn (hr pos pins s1 σ H1 _ I1 q1) fun us s2 ⟨xs, H2, I2, r2, q2⟩ => ⟨x :: xs, H2, I2, .cons r1 r2, q2⟩
end
noncomputable abbrev Sp := List V → Hp → VK → XK → Prop
noncomputable abbrev CXT := List Env → Hp → Shared → XK → Value → Shared → Prop
structure Env0 (P : Program) (w : World) (K : PySem.W.Frag) (mg : Str → Option Value) (base : Heap) (A : Around) (outer : List Env) (s : Shared) (H : Hp) : Prop where
 frames : A.frames = some outer
 mod : Mod K mg base
 bs : ∀ b o, base.get? b = some o → s.heap.get? b = some o ∧ H b = none
 bsz : base.objs.size ≤ s.heap.objs.size
 funs : s.heap.FunFrames base outer
 frf : ∀ b ∈ frs outer, H b = none
 hok : HOk P w H s.heap
 bare : AllBare s.gens
noncomputable def CE (outer : List Env) (P : Program) (w : World) (H : Hp) (s : Shared) (Q : VK) (u : Value) (s' : Shared) : Prop :=
 ∃ v H', s'.os = s.os ∧ AllBare s'.gens ∧ Un (frs outer) [] H H' s.heap s'.heap ∧ HOk P w H' s'.heap ∧ RelV v u ∧ Q v H'
noncomputable def CR (CX : CXT) (outer : List Env) (P : Program) (w : World) (H : Hp) (s : Shared) (Q : VK) (E : XK) (r : Result) (s' : Shared) : Prop :=
 match r with
 | .ok (.ret u) => CE outer P w H s Q u s'
 | .ok _ => False
 | .error e => CX outer H s E e s'
structure FnOk (P : Program) (w : World) (K : PySem.W.Frag) (mg : Str → Option Value) (base : Heap) (CX : CXT) (k : Nat) (f : Addr) (fd : FuncData) (ps : List Str) (sp : Sp) : Prop where
 len : ∀ vs H Q E, sp vs H Q E → vs.length = ps.length
 run : ∀ (A : Around) (outer : List Env) (s : Shared) (H : Hp) (args : Args) (us : List Value) (vs : List V) (Q : VK) (E : XK), Room k A → Env0 P w K mg base A outer s H → BindsTo s fd args (ps.zip us) → Vals vs us → sp vs H Q E →
   codeAny (model P w) A (.call (.ref f) args) (CR CX outer P w H s Q E) s
theorem FnOk.mono {P : Program} {w : World} {K : PySem.W.Frag} {mg : Str → Option Value} {base : Heap} {CX : CXT} {j k : Nat} {f : Addr} {fd : FuncData} {ps : List Str} {sp : Sp} (F : FnOk P w K mg base CX j f fd ps sp) (h : j ≤ k) :
   FnOk P w K mg base CX k f fd ps sp := ⟨F.len, fun A outer s H args us vs Q E hr => F.run A outer s H args us vs Q E (hr.mono h)⟩
theorem Env0.make {P : Program} {w : World} {K : PySem.W.Frag} {mg : Str → Option Value} {base : Heap} {A : Around} {outer : List Env} {s : Shared} {H : Hp} (e : Env0 P w K mg base A outer s H) (C : Addr) (us : List Value) (kw : List (Str × Value)) :
   Env0 P w K mg base (A.under (.builtin "type.__call__" ⟨.ref C :: us, kw⟩)) outer s H := ⟨by first | exact e.frames | (simpa [Around.under, Code.envs, Code.isFrame, pushEnvs] using e.frames), e.mod, e.bs, e.bsz, e.funs, e.frf, e.hok, e.bare⟩
section
variable {X : Cx} {pins : List (Addr × Obj)} {σ : St} {H : Hp} {s s' : Shared}
theorem Inv.env0 (I : Inv X pins σ H s) : Env0 X.prog X.w X.K X.mg X.base X.A X.stack s H :=
 ⟨I.ok.frames, I.ok.mod, I.bs, Nat.le_trans I.ok.bsz I.sz, I.stack, I.stkFree, I.hok, I.bare⟩
theorem Inv.after {Q : VK} {u : Value} (I : Inv X pins σ H s) (h : CE X.stack X.prog X.w H s Q u s') : EP X pins σ Q u s' := by
 obtain ⟨v, H', os, bare, un, hok, r, q⟩ := h
 obtain ⟨hh, g, d, t, os'⟩ := s'
 obtain rfl : os' = s.os := os
 exact ⟨v, H', I.call (h' := hh) (g' := g) (d' := d) (t' := t) (ch := []) un hok bare (fun b z => absurd z (by simp)), r, q⟩
end
noncomputable def tCall (sp : Sp) (dvs : List V) (E : XK) (t : TA) : TE := fun σ H Q => t σ H fun vs H1 => sp (vs ++ dvs) H1 Q E
noncomputable def tMeth (C : Addr) (m : Str) (sp : Sp) (dvs : List V) (E : XK) (ta : TE) (t : TA) : TE := fun σ H Q => ta σ H fun x H1 => ∃ a dx fs, x = .ref a ∧ H1 a = some (.ins C dx fs) ∧ fs.lookup m = none ∧
 t σ H1 fun vs H2 => sp (x :: (vs ++ dvs)) H2 Q E
noncomputable def tMake (C : Addr) (sp : Sp) (dvs : List V) (E : XK) (t : TA) : TE := fun σ H Q => t σ H fun vs H1 => ∀ x dx, H1 x = none → H1 dx = none → dx ≠ x →
 sp (.ref x :: (vs ++ dvs)) (upd (upd H1 dx (.own x)) x (.ins C dx [])) (fun v H2 => v = .non ∧ Q (.ref x) H2) E
noncomputable def Binds (K : PySem.W.Frag) (fd : FuncData) (ps : List Str) (ds : List Value) : Prop :=
 ∀ (s : Shared) (us : List Value), K.In s.heap → (us ++ ds).length = ps.length → BindsTo s fd ⟨us, []⟩ (ps.zip (us ++ ds))
theorem Binds.all {K : PySem.W.Frag} {fd : FuncData} {ps : List Str} (h : ∀ us : List Value, us.length = ps.length → bindArgs fd ⟨us, []⟩ = pure (ps.zip us)) : Binds K fd ps [] := fun s us _ hl => by
 rw [List.append_nil] at hl ⊢
 exact .of_eq (h us hl)
noncomputable def Passes (CX : CXT) (X : Cx) (E : XK) : Prop := ∀ (pins : List (Addr × Obj)) (σ : St) (H : Hp) (s : Shared) (e : Value) (s' : Shared), Inv X pins σ H s → CX X.stack H s E e s' → X.xe e s'
section
variable {X : Cx} {CX : CXT} {k : Nat} {f C : Addr} {fd : FuncData} {ps : List Str} {sp : Sp} {dvs : List V} {ds : List Value} {E : XK} {x m : Str} {p pos apos : Pos} {e o : Expr} {es : List Expr} {ta : TE} {t : TA}
theorem run_fn {pins : List (Addr × Obj)} {σ : St} {H : Hp} {s : Shared} {Q : VK} {us : List Value} {vs : List V} (F : FnOk X.prog X.w X.K X.mg X.base CX k f fd ps sp) (hr : Room k X.A) (hb : Binds X.K fd ps ds) (hd : Vals dvs ds) (hx : Passes CX X E)
   (I : Inv X pins σ H s) (r : Vals vs us) (h : sp (vs ++ dvs) H Q E) : wpAny (model X.prog X.w) X.A (call (.ref f) us) (EP X pins σ Q) X.xe s := by
 have r2 : Vals (vs ++ dvs) (us ++ ds) := r.append hd
 have hl : (us ++ ds).length = ps.length := by rw [← r2.length]; exact F.len _ _ _ _ h
 refine wpAny_call (codeAny_mono (F.run X.A X.stack s H ⟨us, []⟩ (us ++ ds) (vs ++ dvs) Q E hr I.env0 (hb s us I.kIn hl) r2 h) fun r s' hq => ?_)
 cases r with
 | error e => exact hx pins σ H s e s' I hq
 | ok fl =>
   cases fl with
   | ret u => exact I.after hq
   | next => exact False.elim hq
   | brk => exact False.elim hq
   | cont => exact False.elim hq
theorem pe_call (F : FnOk X.prog X.w X.K X.mg X.base CX k f fd ps sp) (hr : Room k X.A) (hg : Gl X x) (hm : X.mg x = some (.ref f)) (hk : PySem.W.keepIn X.K (.ref f) = true) (hb : Binds X.K fd ps ds) (hd : Vals dvs ds) (hx : Passes CX X E)
   (ha : PA X (e :: es) t) (hdb : (x == ("__debug__" : Str)) = false := by decide) (he : starEach (e :: es) X.env = (false, eval e X.env) :: starEach es X.env := by rfl) (hpl : (backTo pos (starEach es X.env)).any (·.1) = false := by rfl) :
   PE X (.Call (.Name x p) (e :: es) [] pos) (tCall sp dvs E t) := by
 intro pins s σ H Q I h
 refine wpAny_Call_Name_kw (ld_glob I hg hm ?_ hdb)
 refine PySem.W.callWith_K (h₀ := X.base) I.ok.mod.kin hk (thn (ha pos pins s σ H _ I h) fun us s1 ⟨vs, H1, I1, r, q⟩ => ⟨I1.kIn, ?_⟩) he hpl
 exact run_fn F hr hb hd hx I1 r q
theorem pe_meth {pl : Sem Bool} (he : PE X o ta) (c : Cls X.K C) (hm : Meth X.K C m f) (F : FnOk X.prog X.w X.K X.mg X.base CX k f fd ps sp) (hr : Room k X.A) (hb : Binds X.K fd ps ds) (hd : Vals dvs ds) (hx : Passes CX X E) (ha : PA X (e :: es) t)
   (hst : starEach (e :: es) X.env = (false, eval e X.env) :: starEach es X.env := by rfl) (hpl : (backTo pos (starEach es X.env)).any (·.1) = false := by rfl)
   (ht : eval (.Call (.Attribute o m apos) (e :: es) [] pos) X.env = (do
     let ov ← eval o X.env
     standAt apos.atName
     let (f, first) ← holding [ov] (getMethod ov m pl)
     callWith pos f first (backTo pos (starEach (e :: es) X.env)) (backToKw pos (keywordEach [] X.env))) := by rfl) :
   PE X (.Call (.Attribute o m apos) (e :: es) [] pos) (tMeth C m sp dvs E ta t) := by
 intro pins s σ H Q I h
 refine PySem.W.methodCall_KW (pl := pl) (thn (he pins s σ H _ I h) fun u s1 ⟨x, H1, I1, rx, a, dx, fs, ex, ea, l, q⟩ => ?_) ht
 subst ex
 obtain rfl : u = Value.ref a := rx
 refine getmeth_ok I1 ea c hm l ?_
 refine PySem.W.callWith_K (first := [.ref a]) (h₀ := X.base) I.ok.mod.kin hm.kp (thn (ha pos pins s1 σ H1 _ I1 q) fun us s2 ⟨vs, H2, I2, r, q2⟩ => ⟨I2.kIn, ?_⟩) hst hpl
 exact run_fn (us := .ref a :: us) (vs := .ref a :: vs) F hr hb hd hx I2 (.cons rfl r) q2
theorem pe_meth0 {pl : Sem Bool} (he : PE X o ta) (c : Cls X.K C) (hm : Meth X.K C m f) (F : FnOk X.prog X.w X.K X.mg X.base CX k f fd ps sp) (hr : Room k X.A) (hb : Binds X.K fd ps ds) (hd : Vals dvs ds) (hx : Passes CX X E)
   (ht : eval (.Call (.Attribute o m apos) [] [] pos) X.env = (do
     let ov ← eval o X.env
     standAt apos.atName
     let (f, first) ← holding [ov] (getMethod ov m pl)
     callWith pos f first (backTo pos (starEach [] X.env)) (backToKw pos (keywordEach [] X.env))) := by rfl) :
   PE X (.Call (.Attribute o m apos) [] [] pos) (tMeth C m sp dvs E ta tNil) := by
 intro pins s σ H Q I h
 refine PySem.W.methodCall_KW (pl := pl) (thn (he pins s σ H _ I h) fun u s1 ⟨x, H1, I1, rx, a, dx, fs, ex, ea, l, q⟩ => ?_) ht
 subst ex
 obtain rfl : u = Value.ref a := rx
 refine getmeth_ok I1 ea c hm l ?_
 exact PySem.W.callWith_K0 (first := [.ref a]) I1.kIn hm.kp (run_fn (us := [.ref a]) (vs := [.ref a]) F hr hb hd hx I1 (.cons rfl .nil) q)
structure Mk (K : PySem.W.Frag) (C f : Addr) : Prop where
 makes : PySem.W.makesIn K C = true
 init : PySem.W.findIn K (.ref C) "__init__" = some (some (.ref f))
 fn : PySem.W.isFn K (.ref f) = true
 kp : PySem.W.keepIn K (.ref C) = true
theorem run_make {pins : List (Addr × Obj)} {σ : St} {H : Hp} {s : Shared} {Q : VK} {us : List Value} {vs : List V} (M : Mk X.K C f) (F : FnOk X.prog X.w X.K X.mg X.base CX k f fd ps sp) (hr : Room (k + 1) X.A) (hb : Binds X.K fd ps ds) (hd : Vals dvs ds)
   (hx : Passes CX X E) (I : Inv X pins σ H s) (r : Vals vs us)
   (h : ∀ x dx, H x = none → H dx = none → dx ≠ x → sp (.ref x :: (vs ++ dvs)) (upd (upd H dx (.own x)) x (.ins C dx [])) (fun v H2 => v = .non ∧ Q (.ref x) H2) E) :
   wpAny (model X.prog X.w) X.A (call (.ref C) us) (EP X pins σ Q) X.xe s := by
 have hq := h (s.heap.objs.size + 1) s.heap.objs.size (I.hok.fresh (Nat.le_succ _)) (I.hok.fresh (Nat.le_refl _)) (Nat.ne_of_lt (Nat.lt_succ_self _))
 have I2 := Inv.made (C := C) I
 have r2 : Vals (V.ref (s.heap.objs.size + 1) :: (vs ++ dvs)) (Value.ref (s.heap.objs.size + 1) :: (us ++ ds)) := .cons rfl (r.append hd)
 have hl : (Value.ref (s.heap.objs.size + 1) :: us ++ ds).length = ps.length := by
   have e := r2.length
   rw [F.len _ _ _ _ hq] at e
   exact e.symm
 refine wpAny_call (make_map (f := f) I.kIn M.makes M.init (beq_iff_eq.mp M.fn) (codeAny_mono (F.run _ X.stack _ _ ⟨Value.ref (s.heap.objs.size + 1) :: us, []⟩ (Value.ref (s.heap.objs.size + 1) :: (us ++ ds)) _ _ E (hr.make C us [])
   (I2.env0.make C us []) (hb _ (Value.ref (s.heap.objs.size + 1) :: us) I2.kIn hl) r2 hq) fun r s' hq' => ?_))
 cases r with
 | error e => exact hx pins σ _ _ e s' I2 hq'
 | ok fl =>
   cases fl with
   | ret u =>
     obtain ⟨v, H', I3, rv, ev, q3⟩ := I2.after hq'
     subst ev
     exact ⟨rv, ⟨V.ref (s.heap.objs.size + 1), H', I3, rfl, q3⟩⟩
   | next => exact False.elim hq'
   | brk => exact False.elim hq'
   | cont => exact False.elim hq'
theorem pe_make (M : Mk X.K C f) (F : FnOk X.prog X.w X.K X.mg X.base CX k f fd ps sp) (hr : Room (k + 1) X.A) (hg : Gl X x) (hm : X.mg x = some (.ref C)) (hb : Binds X.K fd ps ds) (hd : Vals dvs ds) (hx : Passes CX X E)
   (ha : PA X (e :: es) t) (hdb : (x == ("__debug__" : Str)) = false := by decide) (he : starEach (e :: es) X.env = (false, eval e X.env) :: starEach es X.env := by rfl) (hpl : (backTo pos (starEach es X.env)).any (·.1) = false := by rfl) :
   PE X (.Call (.Name x p) (e :: es) [] pos) (tMake C sp dvs E t) := by
 intro pins s σ H Q I h
 refine wpAny_Call_Name_kw (ld_glob I hg hm ?_ hdb)
 refine PySem.W.callWith_K (h₀ := X.base) I.ok.mod.kin M.kp (thn (ha pos pins s σ H _ I h) fun us s1 ⟨vs, H1, I1, r, q⟩ => ⟨I1.kIn, ?_⟩) he hpl
 exact run_make M F hr hb hd hx I1 r q
end
section
variable {X : Cx} {CX : CXT} {k : Nat} {f C : Addr} {fd : FuncData} {ps ks : List Str} {sp : Sp} {E : XK} {x m : Str} {p pos apos kpos : Pos} {e o : Expr} {es : List Expr} {kws : List Keyword} {te ta : TE} {t tk : TA} {nm : Option Str}
variable {g : List Value → List Value → List Value} {gV : List V → List V → List V}
end
structure FnScope (N P : List Str) (sc : Scope) : Prop where
 kind : sc.kind = .function
 co : sc.isCoroutine = false
 gen : sc.isGenerator = false
 nd : N.Nodup
 pre : N.take P.length = P
 par : ∀ x ∈ P, sc.names.lookup x = some .local ∨ sc.names.lookup x = some .cell
 nofree : ∀ y ∈ sc.names, y.2 ≠ .free
theorem bindL_out {kindOf : Str → Option NameKind} {x : Str} : ∀ {binds : List (Str × Value)} {m : Str → Option Value}, (∀ v, (x, v) ∉ binds) → bindL kindOf binds m x = m x
 | [], _, _ => rfl
 | (n, v) :: r, m, h => by
   unfold bindL
   rw [bindL_out fun w hw => h w (List.mem_cons_of_mem _ hw)]
   split
   · have : x ≠ n := by rintro rfl; exact h v List.mem_cons_self
     simp [this]
   · rfl
theorem bindC_out {kindOf : Str → Option NameKind} {x : Str} : ∀ {binds : List (Str × Value)} {m : Str → Option Value}, (∀ v, (x, v) ∉ binds) → bindC kindOf binds m x = m x
 | [], _, _ => rfl
 | (n, v) :: r, m, h => by
   unfold bindC
   rw [bindC_out fun w hw => h w (List.mem_cons_of_mem _ hw)]
   split
   · rfl
   · have : x ≠ n := by rintro rfl; exact h v List.mem_cons_self
     simp [this]
theorem bindL_get {kindOf : Str → Option NameKind} {x : Str} {v : Value} : ∀ {P : List Str} {vs : List Value} {i : Nat} {m : Str → Option Value}, P.Nodup → P[i]? = some x → vs[i]? = some v → kindOf x = some .local →
   bindL kindOf (P.zip vs) m x = some v
 | [], _, _, _, _, h, _, _ => by simp at h
 | _ :: _, [], _, _, _, _, h, _ => by simp at h
 | p :: P, w :: vs, 0, m, nd, h1, h2, hk => by
   simp at h1 h2; subst h1; subst h2
   show bindL kindOf ((p, w) :: P.zip vs) m p = _
   unfold bindL
   rw [bindL_out fun v hv => (List.nodup_cons.mp nd).1 (List.of_mem_zip hv).1, if_pos hk]
   simp
 | p :: P, w :: vs, i + 1, m, nd, h1, h2, hk => by
   show bindL kindOf ((p, w) :: P.zip vs) m x = _
   unfold bindL
   exact bindL_get (i := i) (List.nodup_cons.mp nd).2 (by simpa using h1) (by simpa using h2) hk
theorem bindC_get {kindOf : Str → Option NameKind} {x : Str} {v : Value} : ∀ {P : List Str} {vs : List Value} {i : Nat} {m : Str → Option Value}, P.Nodup → P[i]? = some x → vs[i]? = some v → kindOf x ≠ some .local →
   bindC kindOf (P.zip vs) m x = some v
 | [], _, _, _, _, h, _, _ => by simp at h
 | _ :: _, [], _, _, _, _, h, _ => by simp at h
 | p :: P, w :: vs, 0, m, nd, h1, h2, hk => by
   simp at h1 h2; subst h1; subst h2
   show bindC kindOf ((p, w) :: P.zip vs) m p = _
   unfold bindC
   rw [bindC_out fun v hv => (List.nodup_cons.mp nd).1 (List.of_mem_zip hv).1, if_neg hk]
   simp
 | p :: P, w :: vs, i + 1, m, nd, h1, h2, hk => by
   show bindC kindOf ((p, w) :: P.zip vs) m x = _
   unfold bindC
   exact bindC_get (i := i) (List.nodup_cons.mp nd).2 (by simpa using h1) (by simpa using h2) hk
noncomputable def start (N : List Str) (vs : List V) : St := vs.map some ++ List.replicate (N.length - vs.length) none
noncomputable def cxOf (CX : CXT) (P : Program) (w : World) (K : PySem.W.Frag) (mg : Str → Option Value) (base : Heap) (N : List Str) (qual : Str) (scope : Scope) (f : Addr) (cd : Value) (A : Around) (outer : List Env) (s : Shared) (H : Hp) (E : XK) : Cx where
 prog := P
 w := w
 K := K
 mg := mg
 base := base
 A := A.deeper (envOfC qual scope s.heap.objs.size f cd)
 N := N
 s₀ := s
 H₀ := H
 env := envOfC qual scope s.heap.objs.size f cd
 outer := outer
 stack := envOfC qual scope s.heap.objs.size f cd :: outer
 ex := []
 calm := true
 fn := fun _ => true
 pn := []
 xe := fun e s' => wpAny (model P w) (A.deeper (envOfC qual scope s.heap.objs.size f cd)) (leaving (envOfC qual scope s.heap.objs.size f cd) e) (fun _ s'' => CX outer H s E e s'') (fun e' s'' => CX outer H s E e' s'') s'
theorem cell_has {sc : Scope} {n : Nat} {x : Str} (h : sc.names.lookup x = some .cell) : ∃ c, (cellsFrom n sc.names []).lookup x = some c := by
 have q := PySem.W.cellsFrom_some sc.names n [] (.inl h)
 exact Option.isSome_iff_exists.mp q
theorem inv_start {CX : CXT} {P : Program} {w : World} {K : PySem.W.Frag} {mg : Str → Option Value} {base : Heap} {N ps : List Str} {qual : Str} {scope : Scope} {f : Addr} {cd : Value} {A : Around} {outer : List Env} {s s1 : Shared} {H : Hp} {E : XK} {us : List Value} {vs : List V}
   (S : FnScope N ps scope) (hd : A.handled = none) (e0 : Env0 P w K mg base A outer s H) (hl : vs.length = ps.length) (r : Vals vs us)
   (x : InCallC s s.heap.objs.size (bindL (envOfC qual scope s.heap.objs.size f cd).kindOf (ps.zip us) fun _ => none) (cellsFrom (s.heap.objs.size + 1) scope.names []) (bindC (envOfC qual scope s.heap.objs.size f cd).kindOf (ps.zip us) fun _ => none) s1) :
   Inv (cxOf CX P w K mg base N qual scope f cd A outer s H E) [] (start N vs) H s1 := by
 have hpl : ps.length ≤ N.length := by have := congrArg List.length S.pre; rw [List.length_take] at this; omega
 obtain ⟨h1, tk, rfl, hk⟩ := x.done
 have noA : ∀ b : Addr, b ∉ (cxOf CX P w K mg base N qual scope f cd A outer s H E).ex := fun b z => absurd (show b ∈ ([] : List Addr) from z) (by simp)
 refine ⟨⟨e0.mod, S.kind, rfl, rfl, Nat.le_refl _, fun y z c h1 h2 => ?_, fun y hy => ?_, fun y c _ h => ?_, fun _ => hd, Around.frames_deeper e0.frames, .inr ⟨rfl, rfl⟩, fun b z => absurd z (noA b), e0.bs, e0.bsz, fun b _ _ => noA b, fun b z => absurd z (noA b), e0.funs, e0.frf⟩,
   rfl, e0.bare, Un.kept hk, ⟨_, x.toInCall.ns, fun i y v h1 h2 h3 => ?_⟩, fun y c h => ⟨_, x.cell y c h⟩, e0.hok.fresh (Nat.le_refl _), fun y c h => ?_, fun p hp => absurd (show p ∈ ([] : List (Addr × Obj)) from hp) (by simp), e0.hok.kept hk, ?_⟩
 · exact name_of_addr x.apart (PySem.mem_of_lookup h1) (PySem.mem_of_lookup h2)
 · have hy : scope.names.lookup y = some .cell ∨ scope.names.lookup y = some .free := hy
   rcases hy with hy | hy
   · exact cell_has hy
   · exact absurd rfl (S.nofree _ (PySem.mem_of_lookup hy))
 · exact Nat.le_of_lt (x.above y c (PySem.mem_of_lookup h))
 · have hi : i < vs.length := by
     unfold start at h2
     by_cases hi : i < vs.length
     · exact hi
     · rw [List.getElem?_append_right (by simpa using hi)] at h2
       rw [List.getElem?_replicate] at h2
       split at h2 <;> cases h2
   have ha : vs[i]? = some v := by
     unfold start at h2
     rw [List.getElem?_append_left (by simpa using hi), List.getElem?_map] at h2
     cases e : vs[i]? with
     | none => rw [e] at h2; cases h2
     | some a => rw [e] at h2; cases h2; rfl
   obtain ⟨u, hu, rv⟩ := r.get ha
   have hp : ps[i]? = some y := by
     rw [← S.pre, List.getElem?_take_of_lt (by omega)]; exact h1
   have ndP : ps.Nodup := by rw [← S.pre]; exact S.nd.sublist (List.take_sublist _ _)
   refine ⟨u, rv, ?_⟩
   rcases S.par y (List.mem_of_getElem? hp) with k | k
   · exact .inl ⟨k, bindL_get ndP hp hu k⟩
   · obtain ⟨c, e⟩ := cell_has (n := s.heap.objs.size + 1) k
     refine .inr ⟨.inl k, c, e, ?_⟩
     have q := x.cell y c e
     rw [bindC_get ndP hp hu (by show scope.names.lookup y ≠ _; rw [k]; decide)] at q
     exact q
 · exact e0.hok.fresh (Nat.le_of_lt (x.above y c (PySem.mem_of_lookup h)))
 · unfold start
   show _ = N.length
   rw [List.length_append, List.length_map, List.length_replicate]
   omega
theorem fn_of {CX : CXT} {P : Program} {w : World} {K : PySem.W.Frag} {mg : Str → Option Value} {base : Heap} {k : Nat} {f : Addr} {name qual : Str} {params : Arguments} {body : List Stmt} {scope : Scope} {dV kV doc pm cdv ct oc : Value} {an od : Option Addr}
   {osl : Array (Option Value)} {N ps : List Str} {sp : Sp} (lk : K.lookup f = some ⟨oc, od, .func (PySem.W.fnOf name qual params body scope dV kV doc pm an cdv ct), osl⟩) (hcd : PySem.W.codeIn K cdv qual = true) (S : FnScope N ps scope)
   (len : ∀ vs H Q E, sp vs H Q E → vs.length = ps.length)
   (hbody : ∀ (A : Around) (outer : List Env) (s : Shared) (H : Hp) (vs : List V) (Q : VK) (E : XK), Room k (A.deeper (envOfC qual scope s.heap.objs.size f cdv)) → sp vs H Q E →
     ∃ t, PSs (cxOf CX P w K mg base N qual scope f cdv A outer s H E) body t ∧ t { nx := fun _ H' => Q .non H', rt := Q } (start N vs) H) :
   FnOk P w K mg base CX (k + 1) f (PySem.W.fnOf name qual params body scope dV kV doc pm an cdv ct) ps sp := by
 refine ⟨len, fun A outer s H args us vs Q E hr e0 hb r hsp => ?_⟩
 have hl := len _ _ _ _ hsp
 have KX : K.In s.heap := e0.mod.kin.keeps fun b o e => (e0.bs b o e).1
 have lim : s.heap.NoLimit := e0.mod.nolimit.keeps fun b o e => (e0.bs b o e).1
 have hkind : ∀ y ∈ ps.zip us, scope.names.lookup y.1 = some .local ∨ (scope.names.lookup y.1 = some .cell ∧ ((cellsFrom (s.heap.objs.size + 1) scope.names []).lookup y.1).isSome = true) := fun ⟨n, v⟩ hy => by
   rcases S.par n (List.of_mem_zip hy).1 with q | q
   · exact .inl q
   · exact .inr ⟨q, PySem.W.cellsFrom_some _ _ _ (.inl q)⟩
 refine codeAny_call_function hr.depth (KX _ _ lk) rfl S.co S.gen rfl (PySem.W.codeRec_of KX hcd) (hb _ _ _ _ ?_)
 refine wpAny_newFunctionEnv_cells S.kind hkind fun env he s1 x => ?_
 subst he
 refine ⟨lim.keeps x.toInCall.keep, codeAny_func ?_⟩
 obtain ⟨t, ht, hq⟩ := hbody A outer s H vs Q E (hr.deeper _) hsp
 have I : Inv (cxOf CX P w K mg base N qual scope f cdv A outer s H E) [] (start N vs) H s1 := inv_start S hr.hd e0 hl r x
 refine wpAny_mono (ht [] s1 (start N vs) H _ I hq) (fun fl s' hs => ?_) fun e s' hs => hs
 have fin : ∀ {σ' : St} {H' : Hp} {v : V} {u : Value}, Inv (cxOf CX P w K mg base N qual scope f cdv A outer s H E) [] σ' H' s' → RelV v u → Q v H' → CE outer P w H s Q u s' :=
   fun {σ' H' v u} J rv q => ⟨v, H', J.os, J.bare, J.base, J.hok, rv, q⟩
 cases fl with
 | ret u =>
   obtain ⟨v, σ', H', J, rv, q⟩ := hs
   exact fin J rv q
 | next =>
   obtain ⟨σ', H', J, q⟩ := hs
   exact fin (v := V.non) (u := Value.none) J rfl q
 | brk =>
   obtain ⟨_, _, _, q⟩ := hs
   exact False.elim q
 | cont =>
   obtain ⟨_, _, _, q⟩ := hs
   exact False.elim q
end L2
namespace L2
open PySem PySem.Spec PyProof.Rows
section
variable {X : Cx} {x : Str} {p pos : Pos} {e : Expr} {es : List Expr} {t : TA} {id T : String} {r : List V → Hp → VK → Prop}
noncomputable def tCB (r : List V → Hp → VK → Prop) (t : TA) : TE := fun σ H Q => t σ H fun vs H1 => r vs H1 Q
theorem pe_callB (hc : CallR X (.builtin id) r) (hg : Gl X x) (hm : X.mg x = none) (hv : bootBuiltins x = some (.builtin id)) (ha : PA X (e :: es) t) (hn : x ≠ "__name__" := by decide) (hdb : (x == ("__debug__" : Str)) = false := by decide)
   (he : starEach (e :: es) X.env = (false, eval e X.env) :: starEach es X.env := by rfl) (hpl : (backTo pos (starEach es X.env)).any (·.1) = false := by rfl) : PE X (.Call (.Name x p) (e :: es) [] pos) (tCB r t) := by
 intro pins s σ H Q I h
 refine wpAny_Call_Name_kw (ld_blt I hg hm hv ?_ hn hdb)
 exact PyProof.Rows.callWith_builtin1 (thn (ha pos pins s σ H _ I h) fun us s1 ⟨vs, H1, I1, r1, q1⟩ => hc pins s1 σ H1 vs us Q I1 r1 q1) he hpl
theorem pe_callTy (hc : CallR X (.type T) r) (hg : Gl X x) (hm : X.mg x = none) (hv : bootBuiltins x = some (.type T)) (ha : PA X (e :: es) t) (hn : x ≠ "__name__" := by decide) (hdb : (x == ("__debug__" : Str)) = false := by decide)
   (he : starEach (e :: es) X.env = (false, eval e X.env) :: starEach es X.env := by rfl) (hpl : (backTo pos (starEach es X.env)).any (·.1) = false := by rfl) : PE X (.Call (.Name x p) (e :: es) [] pos) (tCB r t) := by
 intro pins s σ H Q I h
 refine wpAny_Call_Name_kw (ld_blt I hg hm hv ?_ hn hdb)
 exact PyProof.Rows.callWith_type1 (thn (ha pos pins s σ H _ I h) fun us s1 ⟨vs, H1, I1, r1, q1⟩ => hc pins s1 σ H1 vs us Q I1 r1 q1) he hpl
end
end L2
namespace HT
open PySem PyProof.Rows
section
open PySem.SeqAt
open PySem.AutoSeq1 (wpAny_loadPart')
open PySem.MeetsSeq PySem.MeetsSeq2 PySem.MeetsSeq3
end
section
variable {prog : Program} {w : World} {A : Around} {E : Value → Shared → Prop} {s : Shared}
theorem cat_tup {t b : Addr} {vs ws : List Value} {Q : Value → Shared → Prop} (ht : IsTup s.heap t vs.toArray) (hb : IsTup s.heap b ws.toArray) (hv : vs ≠ [])
   (h1 : ws = [] → Q (.ref t) s) (h2 : ws ≠ [] → Q (.ref s.heap.objs.size) { s with heap := s.heap.push { cls := .type "tuple", data := .seq (vs ++ ws).toArray } })
   (hsz : vs.length + ws.length ≤ sizeLine) : wpAny (model prog w) A (binaryOp .Add (.ref t) (.ref b)) Q E s := by
 obtain ⟨⟨cls, dd, data, sl⟩, ho, hc, n, hd⟩ := id ht
 obtain ⟨⟨cls2, dd2, data2, sl2⟩, ho2, hc2, n2, hd2⟩ := id hb
 simp only at hc hd hc2 hd2
 subst hc hd hc2 hd2
 have e : vs.toArray ++ ws.toArray = (vs ++ ws).toArray := by simp
 by_cases hw : ws = []
 · exact concat_meets ⟨_, ho, rfl⟩ ⟨_, ho2, rfl⟩ noFill_tuple_add seq_tuple_add PySem.F.slot_tuple_add PySem.F.entry_tuple_add (PySem.F.args_tuple_add_2 _ _)
     (tuple_addW1 t b vs.toArray ws.toArray n n2 dd dd2 sl sl2 (by simpa using hv) (by simp [hw])) ⟨ho, ho2, h1 hw⟩
 · refine concat_meets ⟨_, ho, rfl⟩ ⟨_, ho2, rfl⟩ noFill_tuple_add seq_tuple_add PySem.F.slot_tuple_add PySem.F.entry_tuple_add (PySem.F.args_tuple_add_2 _ _)
     (tuple_addW2 t b vs.toArray ws.toArray n n2 dd dd2 sl sl2 (by simpa using hv) (by simpa using hw) (by rw [List.size_toArray, List.size_toArray]; exact hsz)) ⟨ho, ho2, ?_⟩
   rw [e]
   exact h2 hw
noncomputable def sIx (n d : Nat) : Option Int → Nat
 | none => d
 | some v => if v < 0 then (v + (n : Int)).toNat else min v.toNat n
theorem sIx_le (n d : Nat) (hd : d ≤ n) (o : Option Int) : sIx n d o ≤ n := by
 cases o with
 | none => exact hd
 | some v =>
   show (if v < 0 then (v + (n : Int)).toNat else min v.toNat n) ≤ n
   by_cases hv : v < 0
   · rw [if_pos hv]; omega
   · rw [if_neg hv]; exact Nat.min_le_right _ _
theorem clip_eq (v : Int) (n d : Nat) : (if v < 0 then max (v + (n : Int)) 0 else min v (n : Int)) = ((sIx n d (some v) : Nat) : Int) := by
 show (if v < 0 then max (v + (n : Int)) 0 else min v (n : Int)) = (((if v < 0 then (v + (n : Int)).toNat else min v.toNat n) : Nat) : Int)
 by_cases hv : v < 0
 · simp only [if_pos hv]; omega
 · simp only [if_neg hv]; omega
theorem adjust_gen (lo hi : Option Int) (n : Nat) : Builtin.Slice.sliceAdjust lo hi 1 (n : Int) = (((sIx n 0 lo : Nat) : Int), ((sIx n n hi : Nat) : Int)) := by
 have h1 : ¬ ((1 : Int) < 0) := by omega
 unfold Builtin.Slice.sliceAdjust
 simp only [h1, if_false]
 refine Prod.ext ?_ ?_
 · cases lo with
   | none => rfl
   | some v => exact clip_eq v n 0
 · cases hi with
   | none => rfl
   | some v => exact clip_eq v n n
theorem places_gen (i j : Nat) : Builtin.Slice.slicePlaces (i : Int) (j : Int) 1 = j - i := by
 unfold Builtin.Slice.slicePlaces
 have h1 : (1 : Int) > 0 := by omega
 simp only [h1, if_true, Int.ediv_one]
 split <;> omega
theorem slicePart_ {v : Value} {o : Option Int} {Q : Option Int → Shared → Prop} (p : IsPart v o) (h : Q o s) : wpAny (model prog w) A (Builtin.Slice.slicePartIndex v) Q E s := by
 cases p with
 | none => exact slicePart_none h
 | int i t => exact slicePart_int h
theorem sliceApplied_gen {sl : Addr} {vl vu : Value} {lo hi : Option Int} {n : Nat} {Q : Int × Int × Nat → Shared → Prop} (hs : s.heap.IsSliceOf sl vl vu .none) (pl : IsPart vl lo) (pu : IsPart vu hi)
   (h : Q (((sIx n 0 lo : Nat) : Int), 1, sIx n n hi - sIx n 0 lo) s) : wpAny (model prog w) A (Builtin.Slice.sliceApplied (.ref sl) (pure (n : Int))) Q E s := by
 obtain ⟨os, hos, hcs, hds⟩ := id hs
 unfold Builtin.Slice.sliceApplied Builtin.Slice.sliceFields
 refine wpAny_bind (wpAny_bind (wpAny_field hos hds (x := vl) rfl (wpAny_bind (wpAny_field hos hds (x := vu) rfl (wpAny_bind (wpAny_field hos hds (x := .none) rfl (wpAny_pure ?_)))))))
 refine wpAny_bind (slicePart_none ?_)
 show wpAny _ _ (if ((1 : Int) == 0) = true then _ else _) _ _ s
 rw [if_neg (by decide)]
 refine wpAny_bind (slicePart_ pl (wpAny_bind (slicePart_ pu (wpAny_bind (wpAny_pure ?_)))))
 show wpAny _ _ (match Builtin.Slice.sliceAdjust lo hi 1 (n : Int) with | (lo, hi) => pure (lo, (1 : Int), Builtin.Slice.slicePlaces lo hi 1)) _ _ s
 rw [adjust_gen lo hi n]
 show wpAny _ _ (pure (((sIx n 0 lo : Nat) : Int), (1 : Int), Builtin.Slice.slicePlaces ((sIx n 0 lo : Nat) : Int) ((sIx n n hi : Nat) : Int) 1)) _ _ s
 rw [places_gen]
 exact wpAny_pure h
theorem pick_gen (xs : Array Value) (i k : Nat) : ((List.range k).filterMap fun (m : Nat) => xs[((i : Int) + (m : Int) * 1).toNat]?).toArray = ((xs.toList.drop i).take k).toArray := by
 have e : (fun (m : Nat) => xs[((i : Int) + (m : Int) * 1).toNat]?) = fun m => xs[i + m]? := by
   funext m
   have : ((i : Int) + (m : Int) * 1).toNat = i + m := by omega
   rw [this]
 rw [e]
 have := pick_run xs i k
 rw [List.filterMap_map] at this
 have e2 : ((fun x => xs[x]?) ∘ fun x => i + x) = fun m => xs[i + m]? := rfl
 rw [e2] at this
 rw [this]
theorem getItem_tuple_cut {t sl : Addr} {items : Array Value} {vl vu : Value} {lo hi : Option Int} {Q : Value → Shared → Prop} (ht : IsTup s.heap t items) (hs : s.heap.IsSliceOf sl vl vu .none) (pl : IsPart vl lo) (pu : IsPart vu hi)
   (hw : ¬ (sIx items.size 0 lo = 0 ∧ sIx items.size items.size hi = items.size))
   (h : Q (.ref s.heap.objs.size) { s with heap := s.heap.push { cls := .type "tuple", data := .seq ((items.toList.drop (sIx items.size 0 lo)).take (sIx items.size items.size hi - sIx items.size 0 lo)).toArray } })
   (hsz : items.size ≤ sizeLine) : wpAny (model prog w) A (getItem (.ref t) (.ref sl)) Q E s := by
 have htake : sizeOk (.seq ((items.toList.drop (sIx items.size 0 lo)).take (sIx items.size items.size hi - sIx items.size 0 lo)).toArray) := by
   show ((items.toList.drop (sIx items.size 0 lo)).take (sIx items.size items.size hi - sIx items.size 0 lo)).toArray.size ≤ sizeLine
   rw [List.size_toArray, List.length_take, List.length_drop, Array.length_toList]
   omega
 have hj : sIx items.size items.size hi ≤ items.size := sIx_le _ _ (Nat.le_refl _) hi
 obtain ⟨os, hos, hcs, hds⟩ := id hs
 have hTs : s.TypeIs (.ref sl) "slice" := ⟨os, hos, hcs⟩
 unfold getItem
 try with_reducible refine wpAny_holding ?_
 first | refine wpAny_bind (wpAny_pure ?_) | skip
 refine wpAny_bind (wpAny_sequenceKey ht.typeIs (by decide) ?_)
 refine wpAny_bind (wpAny_callSpecial?_slot (name := Str.ofString "__getitem__") ht.typeIs PyProof.Rows.slot_tuple_getitem
   (wpAny_call_entry PyProof.Rows.slot_tuple_getitem ht.typeIs entry_tuple_getitem ?_ (args_tuple_getitem _ _)))
 show wpAny _ _ (Builtin.Tuple.tupleItemsOf (.ref t) >>= _) _ _ s
 refine wpAny_bind (tupleItemsOf_ ht ?_)
 refine wpAny_bind (wpAny_typeOf hTs ?_)
 rw [if_pos (by decide)]
 refine wpAny_bind (sliceApplied_gen hs pl pu ?_)
 have hno : ¬ ((((sIx items.size 0 lo : Nat) : Int) == 0 && (1 : Int) == 1 && (sIx items.size items.size hi - sIx items.size 0 lo) == items.size) = true) := by
   intro q
   rw [Bool.and_eq_true, Bool.and_eq_true] at q
   have q1 : ((sIx items.size 0 lo : Nat) : Int) = 0 := eq_of_beq q.1.1
   have q2 : sIx items.size items.size hi - sIx items.size 0 lo = items.size := eq_of_beq q.2
   exact hw ⟨by omega, by omega⟩
 show wpAny _ _ (if (((sIx items.size 0 lo : Nat) : Int) == 0 && (1 : Int) == 1 && (sIx items.size items.size hi - sIx items.size 0 lo) == items.size) = true then _ else _) _ _ s
 rw [if_neg hno, pick_gen]
 first
   | exact wpAny_bind (m := Builtin.Tuple.tupleExact _) (wpAny_newObj_type (wpAny_pure ⟨_, rfl, wpAny_pure h⟩) htake)
   | exact wpAny_bind (m := Builtin.Tuple.tupleExact _) (wpAny_newObj_type (wpAny_bind (wpAny_pure (wpAny_pure ⟨_, rfl, wpAny_pure h⟩))) htake)
   | exact wpAny_bind (wpAny_bind (m := Builtin.Tuple.tupleExact _) (wpAny_newObj_type (wpAny_pure (wpAny_pure ⟨_, rfl, wpAny_pure h⟩)) htake))
   | exact wpAny_bind (wpAny_bind (m := Builtin.Tuple.tupleExact _) (wpAny_newObj_type (wpAny_pure ⟨_, rfl, wpAny_pure h⟩) htake))
end
end HT
namespace L2
open PySem PySem.Spec PyProof.Rows
noncomputable abbrev TO := St → Hp → (Option Int → Hp → Prop) → Prop
noncomputable def PO (X : Cx) (e : Option Expr) (t : TO) : Prop :=
 ∀ (pins : List (Addr × Obj)) (s : Shared) (σ : St) (H : Hp) (Q : Option Int → Hp → Prop), Inv X pins σ H s → t σ H Q →
   wpAny (model X.prog X.w) X.A (evalPart e X.env) (fun u s' => ∃ o H', Inv X pins σ H' s' ∧ IsPart u o ∧ Q o H') X.xe s
noncomputable def tNoPart : TO := fun _ H Q => Q none H
noncomputable def tPart (t : TE) : TO := fun σ H Q => t σ H fun x H1 => ∃ i, x = .int i ∧ Q (some i) H1
section
variable {X : Cx} {e : Expr} {te : TE} {lo hi : Option Expr} {tl th : TO} {pos p2 : Pos}
theorem po_none : PO X none tNoPart := by
 intro pins s σ H Q I h
 rw [evalPart_none]
 exact wpAny_pure ⟨none, H, I, .none, h⟩
theorem po_some (h : PE X e te) : PO X (some e) (tPart te) := by
 intro pins s σ H Q I hw
 rw [evalPart_some]
 refine thn (h pins s σ H _ I hw) fun u s1 ⟨x, H1, I1, r1, q1⟩ => ?_
 obtain ⟨i, rfl, q⟩ := q1
 obtain ⟨t, rfl⟩ := r1
 exact ⟨some i, H1, I1, .int i t, q⟩
noncomputable def SlR (X : Cx) (r : V → Option Int → Option Int → Hp → VK → Prop) : Prop :=
 ∀ (pins : List (Addr × Obj)) (s : Shared) (σ : St) (H : Hp) (x : V) (v vl vu : Value) (lo hi : Option Int) (sl : Addr) (Q : VK), Inv X pins σ H s → RelV x v → s.heap.IsSliceOf sl vl vu .none → IsPart vl lo → IsPart vu hi → r x lo hi H Q →
   ∃ T id, typeLookup (.type T) "__getitem__" = pure (some (.builtin id)) ∧ s.TypeIs v T ∧ wpAny (model X.prog X.w) X.A (getItem v (.ref sl)) (EP X pins σ Q) X.xe s
noncomputable def tSl (r : V → Option Int → Option Int → Hp → VK → Prop) (te : TE) (tl th : TO) : TE := fun σ H Q => te σ H fun x H1 => tl σ H1 fun l H2 => th σ H2 fun u H3 => r x l u H3 Q
theorem pe_slice {r : V → Option Int → Option Int → Hp → VK → Prop} (hr : SlR X r) (he : PE X e te) (hl : PO X lo tl) (hu : PO X hi th) : PE X (.Subscript e (.Slice lo hi none p2) pos) (tSl r te tl th) := by
 intro pins s σ H Q I h
 refine Subscript_ (thn (he pins s σ H _ I h) fun v s1 ⟨x, H1, I1, r1, q1⟩ => ?_)
 refine wpAny_Slice (thn (hl pins s1 σ H1 _ I1 q1) fun vl s2 ⟨l, H2, I2, pl, q2⟩ => thn (hu pins s2 σ H2 _ I2 q2) fun vu s3 ⟨u, H3, I3, pu, q3⟩ => ?_)
 rw [evalPart_none]
 refine wpAny_pure ?_
 have I4 : Inv X pins σ H3 { s3 with heap := s3.heap.push { cls := .type "slice", data := .fields #[vl, vu, .none] } } := I3.kept (t' := s3.toks) fun b ob q => Heap.get?_push_of_some _ q
 obtain ⟨T, id, hT, ht, hg⟩ := hr pins { s3 with heap := s3.heap.push { cls := .type "slice", data := .fields #[vl, vu, .none] } } σ H3 x v vl vu l u s3.heap.objs.size Q I4 r1 (Heap.IsSliceOf.new ..) pl pu q3
 show wpAny (model X.prog X.w) X.A (subscriptTail e (.Slice lo hi none p2) v (.ref s3.heap.objs.size)) (EP X pins σ Q) X.xe { s3 with heap := s3.heap.push { cls := .type "slice", data := .fields #[vl, vu, .none] } }
 exact tail_any (ops := [.ref s3.heap.objs.size, v]) ht hT hg (by with_unfolding_all rfl)
noncomputable def cutV (xs : List V) (lo hi : Option Int) : List V := (xs.drop (HT.sIx xs.length 0 lo)).take (HT.sIx xs.length xs.length hi - HT.sIx xs.length 0 lo)
theorem cutV_length (xs : List V) (lo hi : Option Int) : (cutV xs lo hi).length ≤ xs.length := by
 unfold cutV
 rw [List.length_take, List.length_drop]
 omega
noncomputable def rSlT (K : PySem.W.Frag) : V → Option Int → Option Int → Hp → VK → Prop := fun x lo hi H Q => ∃ a xs, x = .ref a ∧ SqT K H a xs ∧
 ¬ (HT.sIx xs.length 0 lo = 0 ∧ HT.sIx xs.length xs.length hi = xs.length) ∧ ∀ p, H p = none → Q (.ref p) (upd H p (.tup (cutV xs lo hi)))
theorem sl_tup : SlR X (rSlT X.K) := by
 intro pins s σ H x v vl vu lo hi sl Q I rx hs pl pu h
 obtain ⟨a, xs, rfl, hx, hw, q⟩ := h
 cases rx
 obtain ⟨its, r, ht, hz⟩ := I.tuple hx
 have hlen : its.toArray.size = xs.length := by rw [List.size_toArray]; exact r.length.symm
 refine ⟨"tuple", _, PyProof.Rows.slot_tuple_getitem.lookup, ht.typeIs, ?_⟩
 refine HT.getItem_tuple_cut ht hs pl pu (by rw [hlen]; exact hw) ?_ (by rw [hlen]; exact hz)
 rw [hlen]
 refine ⟨.ref s.heap.objs.size, _, I.laid (t' := s.toks) (o := .tup (cutV xs lo hi)) (fun b ob q => Heap.get?_push_of_some _ q) (Nat.le_refl _) ?_, rfl, q _ (I.hok.fresh (Nat.le_refl _))⟩
 exact ⟨Nat.le_trans (cutV_length xs lo hi) hz, _, (r.drop (HT.sIx xs.length 0 lo)).take (HT.sIx xs.length xs.length hi - HT.sIx xs.length 0 lo), IsTup.new _ _⟩
noncomputable def rCatT (K : PySem.W.Frag) : R2 := fun x y H Q => ∃ a b xs ys, x = .ref a ∧ y = .ref b ∧ SqT K H a xs ∧ SqT K H b ys ∧ xs ≠ [] ∧ xs.length + ys.length ≤ sizeLine ∧
 (ys = [] → Q (.ref a) H) ∧ (ys ≠ [] → ∀ p, H p = none → Q (.ref p) (upd H p (.tup (xs ++ ys))))
theorem Vals.nil_iff {xs : List V} {us : List Value} (r : Vals xs us) : us = [] ↔ xs = [] := by
 cases r with
 | nil => simp
 | cons _ _ => simp
theorem op_catT : OpR X (binaryOp .Add) (rCatT X.K) := by
 intro pins s σ H x y v u Q I rx ry h
 obtain ⟨a, b, xs, ys, rfl, rfl, ha, hb, hx, hz, q1, q2⟩ := h
 cases rx
 cases ry
 obtain ⟨its, r1, p1, _⟩ := I.tuple ha
 obtain ⟨its2, r2, p2, _⟩ := I.tuple hb
 refine HT.cat_tup p1 p2 (fun z => hx (r1.nil_iff.mp z)) (fun z => ⟨.ref a, H, I, rfl, q1 (r2.nil_iff.mp z)⟩) (fun z => ?_) (by rw [← r1.length, ← r2.length]; exact hz)
 refine ⟨.ref s.heap.objs.size, _, I.laid (t' := s.toks) (o := .tup (xs ++ ys)) (fun b ob q => Heap.get?_push_of_some _ q) (Nat.le_refl _) ?_, rfl, q2 (fun w => z (r2.nil_iff.mpr w)) _ (I.hok.fresh (Nat.le_refl _))⟩
 exact ⟨by rw [List.length_append]; exact hz, _, r1.append r2, IsTup.new _ _⟩
end
end L2
namespace L2
open PySem PySem.Spec PyProof.Rows
noncomputable def ixN (n : Nat) (i : Int) : Option Nat := if 0 ≤ i then (if i < n then some i.toNat else none) else if -(n : Int) ≤ i then some (i + n).toNat else none
noncomputable def atI {α : Type} (xs : List α) (i : Int) : Option α := (ixN xs.length i).bind fun j => xs[j]?
theorem ixN_seq {n : Nat} {i : Int} {j : Nat} (h : ixN n i = some j) : seqIndex? i n = some j ∧ j < n ∧ -(n : Int) ≤ i ∧ i < n := by
 unfold ixN at h
 by_cases h0 : 0 ≤ i
 · rw [if_pos h0] at h
   by_cases h1 : i < n
   · rw [if_pos h1] at h
     have e : i.toNat = j := Option.some.inj h
     exact ⟨by rw [seqIndex_of h0 h1, e], by omega, by omega, h1⟩
   · rw [if_neg h1] at h; cases h
 · rw [if_neg h0] at h
   by_cases h1 : -(n : Int) ≤ i
   · rw [if_pos h1] at h
     have e : (i + n).toNat = j := Option.some.inj h
     exact ⟨by rw [seqIndex_neg (by omega) h1, e], by omega, h1, by omega⟩
   · rw [if_neg h1] at h; cases h
theorem atI_get {α : Type} {xs : List α} {i : Int} {v : α} (h : atI xs i = some v) : ∃ j, seqIndex? i xs.length = some j ∧ xs[j]? = some v ∧ j < xs.length ∧ -(xs.length : Int) ≤ i ∧ i < xs.length := by
 unfold atI at h
 cases e : ixN xs.length i with
 | none => rw [e] at h; cases h
 | some j =>
   rw [e] at h
   obtain ⟨h1, h2, h3, h4⟩ := ixN_seq e
   exact ⟨j, h1, h, h2, h3, h4⟩
theorem atI_nat {α : Type} {xs : List α} {j : Nat} {v : α} (h : xs[j]? = some v) : atI xs (j : Int) = some v := by
 have hj : j < xs.length := (List.getElem?_eq_some_iff.mp h).1
 have e : ixN xs.length (j : Int) = some j := by
   unfold ixN
   rw [if_pos (by omega), if_pos (by omega)]; simp
 unfold atI; rw [e]; exact h
theorem atI_last {α : Type} (xs : List α) (v : α) : atI (xs ++ [v]) (-1) = some v := by
 have hl : (xs ++ [v]).length = xs.length + 1 := by simp
 have e : ixN (xs ++ [v]).length (-1) = some xs.length := by
   unfold ixN
   rw [hl, if_neg (by decide), if_pos (by omega)]
   congr 1
   omega
 unfold atI
 rw [e]
 show (xs ++ [v])[xs.length]? = some v
 simp
noncomputable def PlainIx (b : Expr) : Prop := ∀ o i, subscripted b false o i = operate [o, i] (getItem o i)
noncomputable def IxR (X : Cx) (r : R2) : Prop :=
 ∀ (value slice : Expr) (pins : List (Addr × Obj)) (s : Shared) (σ : St) (H : Hp) (x y : V) (v u : Value) (Q : VK), Inv X pins σ H s → RelV x v → RelV y u → r x y H Q →
   subscripted slice false v u = operate [v, u] (getItem v u) → wpAny (model X.prog X.w) X.A (subscriptTail value slice v u) (EP X pins σ Q) X.xe s
noncomputable def MtR (X : Cx) (id : String) (r : V → List V → Hp → VK → Prop) : Prop :=
 ∀ (pins : List (Addr × Obj)) (s : Shared) (σ : St) (H : Hp) (x : V) (xs : List V) (v : Value) (us : List Value) (Q : VK), Inv X pins σ H s → RelV x v → Vals xs us → r x xs H Q →
   wpAny (model X.prog X.w) X.A (call (.builtin id) (v :: us)) (EP X pins σ Q) X.xe s
section
variable {X : Cx} {a b : Expr} {ta tb : TE} {pos : Pos}
theorem IxR.or {r r' : R2} (h : IxR X r) (h' : IxR X r') : IxR X (fun x y H Q => r x y H Q ∨ r' x y H Q) := by
 intro value slice pins s σ H x y v u Q I rx ry q hs
 rcases q with q | q
 · exact h value slice pins s σ H x y v u Q I rx ry q hs
 · exact h' value slice pins s σ H x y v u Q I rx ry q hs
theorem pe_ix {r : R2} (hr : IxR X r) (ha : PE X a ta) (hb : PE X b tb) (hs : PlainIx b) : PE X (.Subscript a b pos) (tOp r ta tb) := by
 intro pins s σ H Q I h
 exact Subscript_ (binT ha hb I h fun v u s2 x y H2 I2 rx ry q => hr a b pins s2 σ H2 x y v u Q I2 rx ry q (hs _ _))
noncomputable def rIxL (K : PySem.W.Frag) : R2 := fun x y H Q => ∃ p xs i v, x = .ref p ∧ y = .int i ∧ SqL K H p xs ∧ atI xs i = some v ∧ Q v H
noncomputable def rIxT (K : PySem.W.Frag) : R2 := fun x y H Q => ∃ p xs i v, x = .ref p ∧ y = .int i ∧ SqT K H p xs ∧ atI xs i = some v ∧ Q v H
noncomputable def rIxS : R2 := fun x y H Q => ∃ z i c, x = .str z ∧ y = .int i ∧ z.length ≤ sizeLine ∧ atI z.cps.toList i = some c ∧ Q (.str ⟨#[c]⟩) H
theorem ix_list : IxR X (rIxL X.K) := by
 intro value slice pins s σ H x y v u Q I rx ry h hs
 obtain ⟨p, xs, i, z, rfl, rfl, hq, he, q⟩ := h
 cases rx
 obtain ⟨t, rfl⟩ := ry
 obtain ⟨its, r, pl, hz⟩ := I.list hq
 obtain ⟨j, h1, h2, h3, h4, h5⟩ := atI_get he
 obtain ⟨w, ew, rw'⟩ := r.get h2
 have hl := r.length
 have hn := line63
 have fin : EP X pins σ Q w s := ⟨z, H, I, rw', q⟩
 by_cases h0 : 0 ≤ i
 · have hj : i.toNat = j := by
     rw [seqIndex_of h0 h5] at h1
     exact Option.some.inj h1
   exact item_listR pl.isList h0 (by omega) (by rw [hj]; simpa using ew) fin hs
 · have hj : (i + (its.toArray.size : Int)).toNat = j := by
     rw [seqIndex_neg (by omega) h4] at h1
     rw [List.size_toArray, ← hl]
     exact Option.some.inj h1
   exact subscriptTail_builtinR (x := w) pl.isList.typeIs slot_list_getitem.lookup
     (wpAny_getItem_list_neg (Q := fun r s' => r = w ∧ EP X pins σ Q r s') pl.isList (by omega) (by rw [List.size_toArray] <;> omega) (by omega) (by rw [hj]; simpa using ew) ⟨rfl, fin⟩) hs
theorem ix_tup : IxR X (rIxT X.K) := by
 intro value slice pins s σ H x y v u Q I rx ry h hs
 obtain ⟨p, xs, i, z, rfl, rfl, hq, he, q⟩ := h
 cases rx
 obtain ⟨t, rfl⟩ := ry
 obtain ⟨its, r, pl, hz⟩ := I.tuple hq
 obtain ⟨j, h1, h2, h3, h4, h5⟩ := atI_get he
 obtain ⟨w, ew, rw'⟩ := r.get h2
 have hl := r.length
 have hn := line63
 have fin : EP X pins σ Q w s := ⟨z, H, I, rw', q⟩
 exact subscriptTail_builtinR (x := w) pl.typeIs slot_tuple_getitem.lookup
   (getItem_tuple (j := j) (Q := fun r s' => r = w ∧ EP X pins σ Q r s') pl (by omega) (by omega) (by rw [List.size_toArray, ← hl]; exact h1) (by simpa using ew) ⟨rfl, fin⟩) hs
theorem ix_str : IxR X rIxS := by
 intro value slice pins s σ H x y v u Q I rx ry h hs
 obtain ⟨z, i, c, rfl, rfl, hz, he, q⟩ := h
 obtain ⟨t, rfl⟩ := rx
 obtain ⟨t', rfl⟩ := ry
 obtain ⟨j, h1, h2, h3, h4, h5⟩ := atI_get he
 have hl : z.cps.toList.length = z.length := by simp [Str.length]
 rw [hl] at h1 h4 h5
 have hn := line63
 exact tail_any (typeIs_str s z t) slot_str_getitem.lookup (getItem_str (c := c) (by
   have e1 : decide (i < -(2 ^ 63 : Int)) = false := decide_eq_false (by omega)
   have e2 : decide (i ≥ 2 ^ 63) = false := decide_eq_false (by omega)
   rw [e1, e2, Bool.or_false]) (by rw [h1]; simpa using h2) ⟨.str ⟨#[c]⟩, H, I.tok _, ⟨_, rfl⟩, q⟩) hs
theorem call_len_seq : CallR X (.builtin "len") (fun xs H Q => ∃ p ys, xs = [.ref p] ∧ (SqL X.K H p ys ∨ SqT X.K H p ys) ∧ Q (.int ys.length) H) := by
 intro pins s σ H xs us Q I r h
 obtain ⟨p, ys, rfl, hq, q⟩ := h
 obtain ⟨u, rfl, rx⟩ := vals1 r
 cases rx
 have hn := line63
 rcases hq with hq | hq
 · obtain ⟨its, r', pl, hz⟩ := I.list hq
   have hlen := r'.length
   exact Calls.call_len_list pl.isList (by simp only [List.size_toArray] <;> omega) ⟨.int ys.length, H, I.tok _, ⟨s.toks + 1, by rw [List.size_toArray, hlen]⟩, q⟩
 · obtain ⟨its, r', pl, hz⟩ := I.tuple hq
   have hlen := r'.length
   exact len_tuple pl (by simp only [List.size_toArray] <;> omega) ⟨.int ys.length, H, I.tok _, ⟨s.toks + 1, by rw [List.size_toArray, hlen]⟩, q⟩
theorem call_len_str : CallR X (.builtin "len") (fun xs H Q => ∃ z, xs = [.str z] ∧ z.length ≤ sizeLine ∧ Q (.int z.length) H) := by
 intro pins s σ H xs us Q I r h
 obtain ⟨z, rfl, hz, q⟩ := h
 obtain ⟨u, rfl, t, rfl⟩ := vals1 r
 have hn := line63
 exact len_str (by omega) ⟨.int z.length, H, I.tok _, ⟨_, rfl⟩, q⟩
noncomputable def tyV (K : PySem.W.Frag) (T : String) (x : V) (H : Hp) : Prop := match x with
 | .str _ => T = "str"
 | .int _ => T = "int"
 | .ref p => (T = "list" ∧ ∃ xs, SqL K H p xs) ∨ (T = "tuple" ∧ ∃ o, K.lookup p = some o ∧ o.cls = .type "tuple" ∧ o.dict = none) ∨
     (T = "dict" ∧ ((∃ kvs, H p = some (.dK kvs)) ∨ ∃ kvs, H p = some (.dT kvs))) ∨ (T = "set" ∧ ∃ S n, H p = some (.set S n))
 | _ => False
theorem tyV_is {pins : List (Addr × Obj)} {σ : St} {H : Hp} {s : Shared} {T : String} {x : V} {v : Value} (I : Inv X pins σ H s) (r : RelV x v) (ty : tyV X.K T x H) :
   s.TypeIs v T ∧ ∀ a, v = .ref a → ∃ ob, s.heap.get? a = some ob ∧ ob.dict = none := by
 cases x with
 | str z =>
   obtain ⟨t, rfl⟩ := r
   cases (show T = "str" from ty)
   exact ⟨typeIs_str s z t, fun _ e => nomatch e⟩
 | int i =>
   obtain ⟨t, rfl⟩ := r
   cases (show T = "int" from ty)
   exact ⟨typeIs_int s i t, fun _ e => nomatch e⟩
 | ref p =>
   cases r
   rcases ty with ⟨rfl, xs, hq⟩ | ⟨rfl, o, hk, hc, hd⟩ | ⟨rfl, hk⟩ | ⟨rfl, S, n, hk⟩
   · obtain ⟨its, _, pl, _⟩ := I.list hq
     refine ⟨pl.isList.typeIs, fun a e => ?_⟩
     cases e
     obtain ⟨o, n, e, c, hd, _⟩ := pl
     exact ⟨o, e, hd⟩
   · refine ⟨⟨o, I.kIn p o hk, hc⟩, fun a e => ?_⟩
     cases e
     exact ⟨o, I.kIn _ o hk, hd⟩
   · have z : ∃ o, s.heap.get? p = some o ∧ o.ExactDict := by
       rcases hk with ⟨kvs, hk⟩ | ⟨kvs, hk⟩
       · obtain ⟨_, _, _, _, o, _, _, e, ex, _⟩ := I.hok p _ hk
         exact ⟨o, e, ex⟩
       · obtain ⟨_, _, _, _, o, _, _, e, ex, _⟩ := I.hok p _ hk
         exact ⟨o, e, ex⟩
     obtain ⟨o, e, ex⟩ := z
     refine ⟨⟨o, e, ex.1⟩, fun a e2 => ?_⟩
     cases e2
     exact ⟨o, e, ex.2.1⟩
   · obtain ⟨o, _, _, _, e, ex, _⟩ := I.hok p _ hk
     refine ⟨⟨o, e, ex.1⟩, fun a e2 => ?_⟩
     cases e2
     exact ⟨o, e, ex.2.1⟩
 | _ => exact False.elim ty
noncomputable def tBM0 (K : PySem.W.Frag) (T : String) (r : V → List V → Hp → VK → Prop) (to : TE) : TE := fun σ H Q => to σ H fun x H1 => tyV K T x H1 ∧ r x [] H1 Q
noncomputable def tBM (K : PySem.W.Frag) (T : String) (r : V → List V → Hp → VK → Prop) (to : TE) (t : TA) : TE := fun σ H Q => to σ H fun x H1 => tyV K T x H1 ∧ t σ H1 fun xs H2 => r x xs H2 Q
variable {o e : Expr} {es : List Expr} {to : TE} {t : TA} {name : Str} {apos cpos : Pos} {T id : String} {r : V → List V → Hp → VK → Prop}
theorem pe_bm0 (pa : PlainAttrs T) (slot : Slot T name id) (hty : typeOf (.builtin id) = pure (.type "method_descriptor")) (hm : MtR X id r) (ho : PE X o to)
   (hbase : attributeBase o name X.env (eval o X.env) = eval o X.env := by rfl) (hline : (apos.endLine == cpos.line) = true := by rfl) : PE X (.Call (.Attribute o name apos) [] [] cpos) (tBM0 X.K T r to) := by
 intro pins s σ H Q I h
 refine wpAny_Call_method0_late hbase hline (thn (ho pins s σ H _ I h) fun v s1 ⟨x, H1, I1, r1, ty, q1⟩ => ?_)
 obtain ⟨h1, h2⟩ := tyV_is I1 r1 ty
 exact ⟨T, id, pa, slot, hty, h1, h2, Calls.callWith_builtin rfl (PySem.evalArgs_none (hm pins s1 σ H1 x [] v [] Q I1 r1 .nil q1))⟩
theorem pe_bm (pa : PlainAttrs T) (slot : Slot T name id) (hty : typeOf (.builtin id) = pure (.type "method_descriptor")) (hm : MtR X id r) (ho : PE X o to) (ha : PA X (e :: es) t)
   (hbase : attributeBase o name X.env (eval o X.env) = eval o X.env := by rfl)
   (hfew : ((backTo cpos (starEach (e :: es) X.env)).all (fun x => !x.1) && (backToKw cpos (keywordEach [] X.env)).all (fun x => x.1.isSome)
     && decide ((e :: es).length + ([] : List Keyword).length + (if ([] : List Keyword).isEmpty then 0 else 1) < 30)) = true := by rfl)
   (hline : (apos.endLine == cpos.line) = true := by rfl) (hs : starEach (e :: es) X.env = (false, eval e X.env) :: starEach es X.env := by rfl) (hplain : (backTo cpos (starEach es X.env)).any (·.1) = false := by rfl) :
   PE X (.Call (.Attribute o name apos) (e :: es) [] cpos) (tBM X.K T r to t) := by
 intro pins s σ H Q I h
 refine wpAny_Call_method_late hbase hfew hline rfl (thn (ho pins s σ H _ I h) fun v s1 ⟨x, H1, I1, r1, ty, q1⟩ => ?_)
 obtain ⟨h1, h2⟩ := tyV_is I1 r1 ty
 refine ⟨T, id, pa, slot, hty, h1, h2, ?_⟩
 have hA := ha cpos pins s1 σ H1 _ I1 q1
 rw [hs] at hA ⊢
 refine Calls.callWith_builtin (by show (false || (backTo cpos (starEach es X.env)).any (·.1)) = false; rw [hplain] <;> rfl) (Calls.evalArgs_plain ?_)
 exact thn hA fun us s2 ⟨vs, H2, I2, r2, q2⟩ => hm pins s2 σ H2 x vs v us Q I2 r1 r2 q2
/- xs.append(e), list.index on a module's tuple .. are MtR facts of 06m -/
end
end L2
namespace L2
open PySem PySem.Spec PyProof.Rows
noncomputable def MtM (X : Cx) (id : String) (r : V → List V → Hp → VK → Prop) : Prop :=
 ∀ (pins : List (Addr × Obj)) (s : Shared) (σ : St) (H : Hp) (x : V) (xs : List V) (v : Value) (us : List Value) (Q : VK), Inv X pins σ H s → RelV x v → Vals xs us → r x xs H Q →
   wpAny (model X.prog X.w) X.A (call (.builtin id) (v :: us)) (EP X pins σ Q) X.xe s
theorem Vals.one : ∀ {x : V} {us : List Value}, Vals [x] us → ∃ u, us = [u] ∧ RelV x u
 | _, _, .cons r .nil => ⟨_, rfl, r⟩
theorem Vals.two {x y : V} {us : List Value} (h : Vals [x, y] us) : ∃ u v, us = [u, v] ∧ RelV x u ∧ RelV y v := by
 cases h with
 | cons r t => cases t with
   | cons q t => cases t; exact ⟨_, _, rfl, r, q⟩
theorem Vals.zero : ∀ {us : List Value}, Vals [] us → us = []
 | _, .nil => rfl
theorem Vals.dropLast {xs : List V} {us : List Value} (h : Vals xs us) : Vals xs.dropLast us.dropLast := by
 induction h with
 | nil => exact .nil
 | cons r t ih =>
   cases t with
   | nil => exact .nil
   | cons q t' => exact .cons r ih
theorem erase_last {α : Type} (l : List α) : l.eraseIdx (l.length - 1) = l.dropLast := by
 induction l with
 | nil => rfl
 | cons a r ih =>
   cases r with
   | nil => rfl
   | cons b r =>
     have e : (a :: b :: r).length - 1 = ((b :: r).length - 1) + 1 := by
       have h1 : (a :: b :: r).length = r.length + 2 := rfl
       have h2 : (b :: r).length = r.length + 1 := rfl
       omega
     rw [e, List.eraseIdx_cons_succ, ih]
     all_goals rfl
section
variable {X : Cx} {pins : List (Addr × Obj)} {σ : St} {H : Hp} {s : Shared} {l b : Addr} {xs ys zs : List V}
theorem Inv.lset {its its' : List Value} {n : Nat} {f : Array Value → Array Value} {t' : Nat} (I : Inv X pins σ H s) (hH : H l = some (.lst xs))
   (e : s.heap.get? l = some { cls := .type "list", data := .seq its.toArray n }) (hf : f its.toArray = its'.toArray) (hv : Vals ys its') (hz : ys.length ≤ sizeLine) :
   Inv X pins σ (upd H l (.lst ys)) { s with heap := s.heap.update l (Obj.mapSeq f), toks := t' } := by
 have q := PySem.IsL.update e f
 rw [hf] at q
 refine I.write (x := l) (e := l) (by rw [hH]; exact trivial) (.inl rfl) (fun b' u hb hu => (Heap.get?_update_other s.heap (Obj.mapSeq f) (Ne.symm hb)).trans hu) ⟨_, q⟩ ?_
 exact ⟨hz, its', _, hv, q⟩
theorem Inv.lnew {its : List Value} {t' : Nat} (I : Inv X pins σ H s) (hv : Vals ys its) (hz : ys.length ≤ sizeLine) :
   Inv X pins σ (upd H s.heap.objs.size (.lst ys)) { s with heap := s.heap.push { cls := .type "list", data := .seq its.toArray }, toks := t' } :=
 I.laid (fun _ _ q => Heap.get?_push_of_some _ q) (Nat.le_refl _) ⟨hz, its, 0, hv, Heap.get?_push_size _ rfl⟩
theorem Inv.fresh (I : Inv X pins σ H s) : H s.heap.objs.size = none := I.hok.fresh (Nat.le_refl _)
theorem Inv.lstM (I : Inv X pins σ H s) (hH : H l = some (.lst xs)) : xs.length ≤ sizeLine ∧ ∃ (its : List Value) (n : Nat), Vals xs its ∧ xs.length = its.length ∧ s.heap.get? l = some { cls := .type "list", data := .seq its.toArray n } := by
 obtain ⟨z, its, n, r, e⟩ := I.hok l _ hH
 exact ⟨z, its, n, r, r.length, e⟩
end
section
variable {X : Cx}
noncomputable def rAppend : V → List V → Hp → VK → Prop := fun x vs H Q => ∃ l xs y, x = .ref l ∧ vs = [y] ∧ H l = some (.lst xs) ∧ xs.length < sizeLine ∧ Q .non (upd H l (.lst (xs ++ [y])))
theorem mt_append : MtM X "list.append" rAppend := by
 intro pins s σ H x vs v us Q I rx rv h
 obtain ⟨l, xs, y, rfl, rfl, hH, hz, q⟩ := h
 cases rx
 obtain ⟨u, rfl, ru⟩ := rv.one
 obtain ⟨z, its, n, r, hl, e⟩ := I.lstM hH
 refine call_meets F.slot_list_append ⟨_, e, rfl⟩ F.entry_list_append (F.args_list_append_2 _ _) (PySem.list_append l its.toArray n u (by rw [List.size_toArray]; omega)) ⟨e, ?_⟩
 refine ⟨.non, _, I.lset (its' := its ++ [u]) hH e (by simp) (r.append (.cons ru .nil)) ?_, rfl, q⟩
 rw [List.length_append, List.length_singleton]
 omega
noncomputable def rPop : V → List V → Hp → VK → Prop := fun x vs H Q => ∃ l xs y, x = .ref l ∧ vs = [] ∧ H l = some (.lst xs) ∧ xs[xs.length - 1]? = some y ∧ Q y (upd H l (.lst xs.dropLast))
theorem mt_pop : MtM X "list.pop" rPop := by
 intro pins s σ H x vs v us Q I rx rv h
 obtain ⟨l, xs, y, rfl, rfl, hH, hy, q⟩ := h
 cases rx
 have hus := rv.zero
 subst hus
 obtain ⟨z, its, n, r, hl, e⟩ := I.lstM hH
 obtain ⟨u, hu, ru⟩ := r.get hy
 have hy' : its.toArray[its.toArray.size - 1]? = some u := by
   show its.toArray[its.length - 1]? = some u
   rw [← Array.getElem?_toList, ← hl]
   exact hu
 refine call_meets F.slot_list_pop ⟨_, e, rfl⟩ F.entry_list_pop (F.args_list_pop_1 _) (MeetsSeq.list_pop_last l its.toArray n u hy' (by rw [List.size_toArray]; omega)) ⟨e, ?_⟩
 refine ⟨y, _, I.lset (its' := its.dropLast) hH e ?_ r.dropLast ?_, ru, q⟩
 · show its.toArray.eraseIdxIfInBounds (its.toArray.size - 1) = its.dropLast.toArray
   rw [List.size_toArray, List.eraseIdxIfInBounds_toArray, erase_last]
 · rw [List.length_dropLast]
   omega
end
section
variable {prog : Program} {w : World} {A : Around} {E : Value → Shared → Prop} {s : Shared}
set_option maxRecDepth 100000 in
end
section
variable {X : Cx}
end
end L2
namespace Att
open PySem PySem.W PySem.Calls PyProof.Rows
theorem ints_of_wellAll {P : Params} {h : Heap} : ∀ (ns : List Int) (vs : List Value), WellAll P h vs (ns.map WData.int) → IntsAre vs ns := by
 intro ns
 induction ns with
 | nil =>
   intro vs w
   rw [List.map_nil] at w
   cases w
   exact .nil
 | cons n ns ih =>
   intro vs w
   rw [List.map_cons] at w
   cases w with
   | cons a b =>
     cases a
     exact .cons _ _ (ih _ b)
theorem script_of {l : OpenLaw} {n : Nat} (hn : l.most = some n) {P : Params} {h : Heap} {args : List WData} {vals : List Value}
   (hpre : l.row.toRowW.claim.pre args = true) (hwl : WellAll P h vals args) :
   ∃ a vs ns, vals = [Value.ref a] ∧ args = [WData.list (ns.map WData.int)] ∧ h.get? a = some { cls := .type "list", data := .seq vs.toArray } ∧ IntsAre vs ns ∧ ns.length ≤ n := by
 have hsh : WShape.hasAll [] args [.list .int] = true := (pre_splitW hpre).1
 have hc : l.pre.holds [] { args := args } = true := (pre_splitW hpre).2
 obtain ⟨d, r, rfl, h1, h2⟩ := hasAllW_cons hsh
 obtain rfl := hasAllW_nil h2
 obtain ⟨xs, rfl, h3⟩ := hasW_list h1
 obtain ⟨ns, rfl⟩ := items_int h3
 have hlen : ns.length ≤ n := by
   unfold OpenLaw.pre at hc
   have h4 : (WTm.not (.lt (.lit (.int (n : Int))) (.len (.arg 0)))).holds [] { args := [.list (ns.map .int)] } = true := by
     have h4 := (holds_andW hc).1
     rw [hn] at h4
     exact h4
   have h5 := condW_of h4 (w_not (w_lt w_lit (w_len_list (w_arg rfl))))
   rw [List.length_map] at h5
   refine Nat.le_of_not_lt fun q => ?_
   have q' : (n : Int) < ((ns.length : Nat) : Int) := by omega
   first
     | (rw [decide_eq_true q'] at h5; exact absurd h5 (by decide))
     | (simp at h5; omega)
 cases hwl with
 | cons w1 w2 =>
   cases w2
   cases w1 with
   | list ho hall => exact ⟨_, _, ns, rfl, rfl, ho, ints_of_wellAll ns _ hall, hlen⟩
theorem post_true (l : OpenLaw) (args : List WData) : l.row.toRowW.claim.post args (.bool true) args = true :=
 postW_of (r := l.row.toRowW) (X := (true == true))
   (show WShape.has [] (.bool true) .bool = true by first | rfl | decide | simp [WShape.has, WShape.arms, WShape.armsAll])
   (show (WTm.eq .res (.lit (.bool true))).value [] { args := args, res := some (.bool true), after := args } = some (.bool (true == true)) from w_eq_bool (w_res rfl) w_lit) rfl
theorem attach_call {l : OpenLaw} {n : Nat} {q : Program} {loose : List Str} {XP : (Str → Option Value) → Heap → Prop} {YP : World → Heap → Prop} {d : DefRec}
   (hn : l.most = some n) (hdf : d.params.defaults = [])
   (call : ∀ (w : World) (s₀ s₁ : Shared) (mg mb : Str → Option Value) (fa : Addr) (o : Obj) (pm cd doc : Value) (a : Addr) (vs : List Value) (ns : List Int),
     Ground q loose [] XP w s₀ mg mb s₁.heap → YP w s₁.heap →
     s₁.heap.get? fa = some o → o.data = .func (docDef d.name d.params d.body d.scope pm cd doc) → s₁.heap.CodeRec cd d.name → mg d.name = some (.ref fa) →
     s₁.heap.get? a = some { cls := .type "list", data := .seq vs.toArray } → IntsAre vs ns → ns.length ≤ n → s₁.gens = #[] →
     codeAny (model l.prog w) callerA (.call (.ref fa) ⟨[.ref a], []⟩) (fun r s' => r = .ok (.ret (.bool true)) ∧ OldK s₁.heap s'.heap ∧ s'.os = s₁.os ∧ AllBare s'.gens) s₁) :
   WalkO q loose XP YP l.row.toRowW d [] (fun f vs => PySem.call f vs) := by
 intro w s₀ s₁ mg mb G Y fa o pm cd doc dV kV ho hd hcd hD hmg hg args vals as hpre hlay hrd hwl hlo
 obtain rfl : dV = .none := Dflts.none hD hdf
 obtain rfl : kV = .none := Dflts.noKw hD
 obtain ⟨a, vs, ns, rfl, rfl, hobj, hints, hlen⟩ := script_of hn hpre hwl
 refine enter_call (codeAny_mono (call w s₀ s₁ mg mb fa o pm cd doc a vs ns G Y ho (fd_plain hd) hcd hmg hobj hints hlen hg) fun r s' hq => ?_)
 obtain ⟨rfl, h2, h3, h4⟩ := hq
 exact ⟨.inl ⟨.bool true, .bool true, [], rfl, fun _ => rfl, .bool true, post_true l _, fun _ => ⟨List.Pairwise.nil, fun _ hm => (nomatch hm)⟩⟩, h2, h3, h4⟩
section
variable {prog : Program} {w : World} {A : Around} {E : Value → Shared → Prop} {s : Shared} {K : Frag}
end
end Att
namespace L2
open PySem PySem.Spec PyProof.Rows
theorem vals_ints : ∀ {vs : List Value} {ns : List Int}, IntsAre vs ns → Vals (ns.map V.int) vs
 | _, _, .nil => .nil
 | _, _, .cons n t h => .cons ⟨t, rfl⟩ (vals_ints h)
noncomputable def Only (H : Hp) : Prop := ∀ b, H b = none ∨ ∃ o xs, H b = some (.frz o (.lst xs))
theorem law_call {P : Program} {w : World} {K : PySem.W.Frag} {mg mb : Str → Option Value} {CX : CXT} {k : Nat} {fa a : Addr} {fd : FuncData} {x : Str} {sp : Sp} {s₁ : Shared} {vs : List Value} {ns : List Int}
   (KX : K.In s₁.heap) (hns : s₁.heap.Ns mainGlobals mg) (hb : s₁.heap.Ns builtinsNs mb) (hbb : ∀ x : Str, x ≠ "__name__" → mb x = bootBuiltins x) (hlim : s₁.heap.NoLimit) (hg : s₁.gens = #[])
   (ha : s₁.heap.get? a = some { cls := .type "list", data := .seq vs.toArray }) (hi : IntsAre vs ns) (hl : ns.length ≤ sizeLine) (hr : Room k callerA)
   (F : ∀ base : Heap, K.In base → base.Ns mainGlobals mg → FnOk P w K mg base CX k fa fd [x] sp) (hbind : ∀ (s : Shared) (u : Value), BindsTo s fd ⟨[u], []⟩ [(x, u)])
   (hsp : ∀ H : Hp, Only H → SqL K H a (ns.map V.int) → sp [.ref a] H (fun v _ => v = .bl true) fun _ _ _ => False)
   (hCX : ∀ H e s', CX [] H s₁ (fun _ _ _ => False) e s' → False) :
   codeAny (model P w) callerA (.call (.ref fa) ⟨[.ref a], []⟩) (fun r s' => r = .ok (.ret (.bool true)) ∧ OldK s₁.heap s'.heap ∧ s'.os = s₁.os ∧ AllBare s'.gens) s₁ := by
 have rv := vals_ints hi
 have lenV := hi.length
 -- from an abstract heap in which nothing but the script may be tracked
 have core : ∀ H : Hp, Only H → SqL K H a (ns.map V.int) → HOk P w H s₁.heap → (∀ b, H b ≠ none → b = a) → (H a ≠ none → K.lookup a = none) →
     codeAny (model P w) callerA (.call (.ref fa) ⟨[.ref a], []⟩) (fun r s' => r = .ok (.ret (.bool true)) ∧ OldK s₁.heap s'.heap ∧ s'.os = s₁.os ∧ AllBare s'.gens) s₁ := by
   intro H hO hS hok hA hK
   have base_of : ∀ {b : Addr} {o : Obj}, s₁.heap.get? b = some o → H b = none → (hidT s₁.heap H).get? b = some o := fun e n => hidT_get e n
   have noA : ∀ {b : Addr} {o : Obj} {es : Array DictEntry} {ep : Nat}, s₁.heap.get? b = some o → o.data = .dict es ep → H b = none := fun {b o es ep} e d => by
     cases q : H b with
     | none => rfl
     | some u =>
       have e' : b = a := hA b (by rw [q]; simp)
       subst e'
       rw [ha] at e; cases e
       have d' : Data.seq vs.toArray _ = Data.dict es ep := d
       cases d'
   have nsK : ∀ {b : Addr} {m : Str → Option Value}, s₁.heap.Ns b m → (hidT s₁.heap H).Ns b m := fun {b m} ⟨o, es, ep, e, d, r⟩ => ⟨o, es, ep, base_of e (noA e d), d, r⟩
   have hKb : K.In (hidT s₁.heap H) := fun b o e => base_of (KX b o e) (by
     cases q : H b with
     | none => rfl
     | some u =>
       have e' : b = a := hA b (by rw [q]; simp)
       subst e'
       rw [hK (by rw [q]; simp)] at e; cases e)
   have hM : Mod K mg (hidT s₁.heap H) := ⟨hKb, nsK hns, ⟨mb, nsK hb, hbb⟩, let ⟨mc, h1, h2⟩ := hlim; ⟨mc, nsK h1, h2⟩⟩
   have e0 : Env0 P w K mg (hidT s₁.heap H) callerA [] s₁ H := ⟨rfl, hM, fun b o e => of_hidT e, Nat.le_of_eq (hidT_size _ _), trivial, fun b hb => absurd (show b ∈ ([] : List Addr) from hb) (by simp), hok, .of_eq hg⟩
   refine codeAny_mono ((F _ hKb (nsK hns)).run callerA [] s₁ H ⟨[.ref a], []⟩ [.ref a] [.ref a] _ _ hr e0 (hbind s₁ (.ref a)) (.cons rfl .nil) (hsp H hO hS)) fun r s' h => ?_
   cases r with
   | error e => exact (hCX H e s' h).elim
   | ok fl =>
     cases fl with
     | next => exact False.elim h
     | brk => exact False.elim h
     | cont => exact False.elim h
     | ret u =>
       obtain ⟨v, H', os, bare, un, hok', r', q⟩ := h
       have q' : v = .bl true := q
       subst q'
       obtain rfl : u = Value.bool true := r'
       refine ⟨rfl, OldK.of_keep fun b o e => ?_, os, bare⟩
       cases q : H b with
       | none => exact un.keep b o e q (by intro z; exact absurd (show b ∈ ([] : List Addr) from z) (by simp)) (by simp)
       | some u =>
         rcases hO b with z | ⟨ob, xs, z⟩
         · rw [q] at z; cases z
         · have z2 := un.frzs b ob _ z
           obtain ⟨e1, _⟩ := hok b _ z
           obtain ⟨e2, _⟩ := hok' b _ z2
           rw [e] at e1; cases e1
           exact e2
 cases hk : K.lookup a with
 | some o =>
   -- the script is one of the module's own objects
   have e := KX a o hk
   rw [ha] at e
   cases e
   refine core (fun _ => none) (fun _ => .inl rfl) (.inr ⟨_, vs.toArray, _, hk, rfl, rfl, rfl, by rw [List.size_toArray, lenV]; exact hl, by simpa using rv⟩) (fun b u z => by have z' : (none : Option HO) = some u := z; cases z') (fun b z => absurd rfl z) fun z => absurd rfl z
 | none =>
   refine core (fun b => if b = a then some (.frz { cls := .type "list", data := .seq vs.toArray } (.lst (ns.map V.int))) else none) (fun b => ?_) (.inl (.inr ⟨{ cls := .type "list", data := .seq vs.toArray }, if_pos rfl⟩)) (fun b u z => ?_) (fun b z => ?_) fun _ => hk
   · by_cases hb : b = a
     · exact .inr ⟨_, _, if_pos hb⟩
     · exact .inl (if_neg hb)
   · by_cases hb : b = a
     · have z' := (if_pos hb).symm.trans z
       cases z'
       subst hb
       exact ⟨ha, by rw [List.length_map]; exact hl, vs, _, rv, ha⟩
     · have z' := (if_neg hb).symm.trans z
       cases z'
   · by_cases hb : b = a
     · exact hb
     · exact absurd (if_neg hb) z
end L2
namespace L2
open PySem PySem.Spec PyProof.Rows
noncomputable abbrev KOf {K : PySem.W.Frag} {h : Heap} (_ : K.In h) : PySem.W.Frag := K
theorem walk_of {l : PySem.W.OpenLaw} {n k : Nat} {q : Program} {loose : List Str} {XP : (Str → Option Value) → Heap → Prop} {YP : World → Heap → Prop} {d : DefRec} {K : Params → PySem.W.Frag} {CX : World → CXT} {sp : World → Sp} {x : Str}
   (hn : l.most = some n) (hn2 : n ≤ sizeLine) (hdf : d.params.defaults = []) (hr : Room k callerA)
   (hY : ∀ (w : World) (h : Heap), YP w h → (K w.params).In h)
   (F : ∀ (w : World) (mg : Str → Option Value) (fa : Addr) (h : Heap), (K w.params).In h → h.Ns mainGlobals mg → mg d.name = some (.ref fa) →
     ∃ fd : FuncData, (∀ (s : Shared) (u : Value), BindsTo s fd ⟨[u], []⟩ [(x, u)]) ∧
       ∀ base : Heap, (K w.params).In base → base.Ns mainGlobals mg → FnOk l.prog w (K w.params) mg base (CX w) k fa fd [x] (sp w))
   (hsp : ∀ (w : World) (H : Hp) (a : Addr) (ns : List Int), ns.length ≤ n → Only H → SqL (K w.params) H a (ns.map V.int) → sp w [.ref a] H (fun v _ => v = .bl true) fun _ _ _ => False)
   (hCX : ∀ (w : World) (H : Hp) (s : Shared) (e : Value) (s' : Shared), CX w [] H s (fun _ _ _ => False) e s' → False) :
   PySem.W.WalkO q loose XP YP l.row.toRowW d [] (fun f vs => PySem.call f vs) := by
 refine Att.attach_call hn hdf fun w s₀ s₁ mg mb fa o pm cd doc a vs ns G Y ho hd hcd hmg hobj hints hlen hg => ?_
 have KX := hY w _ Y
 obtain ⟨fd, hb, hF⟩ := F w mg fa _ KX G.T.g hmg
 exact law_call KX G.T.g G.T.b G.T.builtins G.T.nolimit hg hobj hints (Nat.le_trans hlen hn2) hr hF hb (fun H hO hS => hsp w H a ns hlen hO hS) fun H e s' => hCX w H s₁ e s'
end L2
/- THE LAST THEOREM (shape; LID, My.* are yours):
  My.Adr: a structure of the addresses that your layer names (classes, functions); My.Txt K t: a structure (Prop) of the equations over K;
  My.txt_mk : {K} {implicit addresses ..} (e1 : nsIn K mainGlobals "law" = some (some (.ref f))) (e2 : K.lookup f = some ⟨oc, od, .func (fnOf "law" "law" params body scope dV kV doc pm an cdv ct), sl⟩) (e3 : codeIn K cdv "law" = true) .. : ∃ t, My.Txt K t
set_option maxRecDepth 100000 in
set_option maxHeartbeats 0 in
theorem PySem.Challenge.cw_LID_holds : PySem.Challenge.rw_LID.Holds := by
 w_on; o_law; k_head; (case hw => w_witness2)
 k_fill
 refine L2.walk_of (l := PySem.Challenge.rw_LID) (n := 63) (k := 40) (x := "script") (CX := fun w => ..) (sp := fun _ => My.sp_law) rfl (by decide) rfl ⟨rfl, by decide, by decide⟩ (fun w h Y => PySem.W.kIn_of Y) ?F ?S ?C
 case F =>
   intro w mg fa h KX G hmg
   have T : ∃ t, My.Txt (L2.KOf KX) t := by
     dsimp only [L2.KOf]                          -- K must stand as «<heap const> w.params» for k_is
     refine' My.txt_mk ?e1 ?e2 ?e3 ..
     (case e1 => PySem.W.k_is)                    -- in the order: a name -> its address -> its object -> its parts
     (case e2 => PySem.W.k_is)
     ..
   obtain ⟨t, T⟩ := T
   have e0 := hmg.symm.trans (PySem.W.mg_of KX G T.law)
   cases e0                                       -- fa is the law's own address
   exact ⟨_, fun s u => .of_eq rfl, fun base kb nb => My.law_fn T kb nb⟩     -- if «.of_eq rfl» comes too early: refine' ⟨_, ?b, fun base kb nb => My.law_fn T kb nb⟩; exact fun s u => .of_eq rfl
 case S => exact fun w H a ns hl hO hS => ..
 case C => exact ..
(the tactic k_is has no namespace: write k_is) -/
namespace L2
open PySem PySem.Spec PyProof.Rows
noncomputable def inClass (s : Stmt) (j : Nat) : Stmt := match s with
 | .ClassDef _ _ _ body _ _ _ _ _ _ _ => body.getD j (.Pass ⟨0, 0, 0, 0⟩)
 | _ => .Pass ⟨0, 0, 0, 0⟩
noncomputable def defArgs (s : Stmt) : Arguments := match s with
 | .FunctionDef _ a _ _ _ _ _ _ _ _ => a
 | _ => { posonlyargs := [], args := [], vararg := none, kwonlyargs := [], kw_defaults := [], kwarg := none, defaults := [] }
noncomputable def defBody (s : Stmt) : List Stmt := match s with
 | .FunctionDef _ _ b _ _ _ _ _ _ _ => b
 | _ => []
noncomputable def defScope (s : Stmt) : Scope := match s with
 | .FunctionDef _ _ _ _ _ _ sc _ _ _ => sc
 | _ => { kind := .function, names := [], isGenerator := false, isCoroutine := false }
noncomputable abbrev CX0 : CXT := fun _ _ _ _ _ _ => False
noncomputable abbrev E0 : XK := fun _ _ _ => False
theorem pass0 {X : Cx} : Passes CX0 X E0 := fun _ _ _ _ _ _ _ h => h.elim
structure Fun (K : PySem.W.Frag) (x qual : Str) (st : Stmt) (f : Addr) (fd : FuncData) : Prop where
 ex : ∃ (oc : Value) (od : Option Addr) (kV doc pm : Value) (an : Option Addr) (cdv ct : Value) (osl : Array (Option Value)),
   fd = PySem.W.fnOf x qual (defArgs st) (defBody st) (defScope st) .none kV doc pm an cdv ct ∧ K.lookup f = some ⟨oc, od, .func fd, osl⟩ ∧ PySem.W.codeIn K cdv qual = true
 kp : PySem.W.keepIn K (.ref f) = true
section
variable {P : Program} {w : World} {K : PySem.W.Frag} {mg : Str → Option Value} {base : Heap}
theorem Fun.ok {x qual : Str} {st : Stmt} {f : Addr} {fd : FuncData} {N ps : List Str} {k : Nat} {sp : Sp} (F : Fun K x qual st f fd) (S : FnScope N ps (defScope st)) (len : ∀ vs H Q E, sp vs H Q E → vs.length = ps.length)
   (hbody : ∀ (cdv : Value) (A : Around) (outer : List Env) (s : Shared) (H : Hp) (vs : List V) (Q : VK) (E : XK), Room k (A.deeper (envOfC qual (defScope st) s.heap.objs.size f cdv)) → sp vs H Q E →
     ∃ t, PSs (cxOf CX0 P w K mg base N qual (defScope st) f cdv A outer s H E).nox (defBody st) t ∧ t { nx := fun _ H' => Q .non H', rt := Q } (start N vs) H) : FnOk P w K mg base CX0 (k + 1) f fd ps sp := by
 obtain ⟨oc, od, kV, doc, pm, an, cdv, ct, osl, rfl, lk, hcd⟩ := F.ex
 refine fn_of lk hcd S len fun A outer s H vs Q E hr hsp => ?_
 obtain ⟨t, h, q⟩ := hbody cdv A outer s H vs Q E hr hsp
 exact ⟨t, h.nox, q⟩
theorem Fun.binds {x qual : Str} {st : Stmt} {f : Addr} {fd : FuncData} {ps : List Str} (F : Fun K x qual st f fd)
   (h : ∀ (kV doc pm : Value) (an : Option Addr) (cdv ct : Value) (us : List Value), us.length = ps.length → bindArgs (PySem.W.fnOf x qual (defArgs st) (defBody st) (defScope st) .none kV doc pm an cdv ct) ⟨us, []⟩ = pure (ps.zip us)) : Binds K fd ps [] := by
 obtain ⟨oc, od, kV, doc, pm, an, cdv, ct, osl, rfl, lk, hcd⟩ := F.ex
 exact .all (h kV doc pm an cdv ct)
theorem fun_mk {x qual : Str} {st : Stmt} {f : Addr} {oc : Value} {od an : Option Addr} {osl : Array (Option Value)} {kV doc pm cdv ct : Value} (l : K.lookup f = some ⟨oc, od, .func (PySem.W.fnOf x qual (defArgs st) (defBody st) (defScope st) .none kV doc pm an cdv ct), osl⟩)
   (c : PySem.W.codeIn K cdv qual = true) (k : PySem.W.keepIn K (.ref f) = true) : Fun K x qual st f (PySem.W.fnOf x qual (defArgs st) (defBody st) (defScope st) .none kV doc pm an cdv ct) := ⟨⟨oc, od, kV, doc, pm, an, cdv, ct, osl, rfl, l, c⟩, k⟩
end
theorem small1000 {n : Nat} (h : n ≤ 1000) : n < sizeLine := Nat.lt_of_le_of_lt h (by decide)
section
variable {X : Cx}
theorem pv (i : Nat) {x : Str} {pos : Pos} (hN : X.N[i]? = some x := by rfl) (hv : Vis X.env.scope x := by first | exact Or.inl rfl | exact Or.inr (Or.inl rfl) | exact Or.inr (Or.inr rfl)) (hd : (x == ("__debug__" : Str)) = false := by decide)
   (hcd : (x == ("__classdict__" : Str)) = false := by decide) : PE X (.Name x pos) (tVar i) := pe_var hN hv hd hcd
end
theorem iteF {A B : Prop} (h : B) : if false = true then A else B := by
 rw [if_neg Bool.false_ne_true]
 exact h
theorem ite2 {c A B : Prop} [Decidable c] (h1 : c → A) (h2 : ¬ c → B) : if c then A else B := by
 by_cases h : c
 · rw [if_pos h]
   exact h1 h
 · rw [if_neg h]
   exact h2 h
noncomputable def Same (H H' : Hp) : Prop := ∀ b o, H b = some o → H' b = some o
theorem Same.refl (H : Hp) : Same H H := fun _ _ h => h
theorem Same.trans {H H1 H2 : Hp} (a : Same H H1) (b : Same H1 H2) : Same H H2 := fun c o h => b c o (a c o h)
theorem Same.free {H H' : Hp} (e : Same H H') {l : Addr} (h : H' l = Option.none) : H l = Option.none := by
 cases q : H l with
 | none => rfl
 | some o =>
   rw [e l o q] at h
   cases h
theorem Same.seq {K : PySem.W.Frag} {H H' : Hp} {a : Addr} {xs : List V} (e : Same H H') (h : SqL K H a xs) : SqL K H' a xs := by
 rcases h with (h | ⟨o, h⟩) | h
 · exact .inl (.inl (e _ _ h))
 · exact .inl (.inr ⟨o, e _ _ h⟩)
 · exact .inr h
end L2
namespace L2
open PySem PySem.Spec PyProof.Rows
section
variable {X : Cx}
noncomputable def CMB (i j : Int) : Prop := (-(10 ^ 150) < i ∧ i < 10 ^ 150) ∧ (-(10 ^ 150) < j ∧ j < 10 ^ 150)
theorem bits_wb {k : Int} (h1 : -(10 ^ 150) < k) (h2 : k < 10 ^ 150) : Builtin.Int.intBits k ≤ 2 ^ 20 := by
 unfold Builtin.Int.intBits
 split
 · exact Nat.zero_le _
 · have e : (10 : Int) ^ 150 ≤ 2 ^ 500 := by decide +kernel
   have hn : k.natAbs < 2 ^ 500 := by
     have : (k.natAbs : Int) < 2 ^ 500 := by omega
     exact_mod_cast this
   have : k.natAbs.log2 < 500 := by
     rcases Nat.eq_zero_or_pos k.natAbs with h0 | hp
     · rw [h0]; decide
     · exact (Nat.log2_lt (Nat.ne_of_gt hp)).mpr hn
   have : (500 : Nat) ≤ 2 ^ 20 := by decide
   omega
theorem op_mulB : OpR X (binaryOp .Mult) (rI CMB fun i j => .int (i * j)) := opI fun _ _ _ _ _ _ _ hc q => mul_int q (IntMulOk.of_bits (bits_wb hc.1.1 hc.1.2) (bits_wb hc.2.1 hc.2.2))
noncomputable def CDB (i j : Int) : Prop := 0 < j ∧ j < 10 ^ 150
theorem nopy_wb {i j : Int} (h : CDB i j) : Builtin.divisionGoesByPylong i j = false := by
 refine PyProof.noPylong_of_log2 ?_
 have e : (10 : Int) ^ 150 ≤ 2 ^ 500 := by decide +kernel
 have hn : j.natAbs < 2 ^ 500 := by
   have : (j.natAbs : Int) < 2 ^ 500 := by unfold CDB at *; omega
   exact_mod_cast this
 have h0 : j.natAbs ≠ 0 := by unfold CDB at h; omega
 have := (Nat.log2_lt h0).mpr hn
 omega
theorem op_fdivB : OpR X (binaryOp .FloorDiv) (rI CDB fun i j => .int (i / j)) := opI fun i j _ _ _ _ _ hc q => by
 have e : i.fdiv j = i / j := Int.fdiv_eq_ediv_of_nonneg _ (by unfold CDB at hc; omega)
 exact floordiv_int (by unfold CDB at hc; omega) (by rw [e]; exact q) (.inl (nopy_wb hc))
theorem call_isinst : CallR X (.builtin "isinstance") (fun xs H Q => ∃ x t c b, xs = [x, .ty c] ∧ TyOf X.K H x t ∧ PySem.W.kitOne X.K t (.type c) = some b ∧ Q (.bl b) H) := by
 intro pins s σ H xs us Q I r h
 obtain ⟨x, t, c, b, rfl, ty, e, q⟩ := h
 obtain ⟨u, w', rfl, rx, ry⟩ := vals2 r
 cases ry
 exact isinst_ok I rx ty e fun tk => ⟨.bl b, H, I.tok tk, rfl, q⟩
theorem kit_ii {K : PySem.W.Frag} : PySem.W.kitOne K (.type "int") (.type "int") = some true := by rfl
theorem kit_ib {K : PySem.W.Frag} : PySem.W.kitOne K (.type "int") (.type "bool") = some false := by rfl
theorem kit_tt {K : PySem.W.Frag} : PySem.W.kitOne K (.type "tuple") (.type "tuple") = some true := by rfl
theorem bt_int : bootBuiltins "int" = some (.type "int") := by decide +kernel
theorem bt_bool : bootBuiltins "bool" = some (.type "bool") := by decide +kernel
theorem bt_tuple : bootBuiltins "tuple" = some (.type "tuple") := by decide +kernel
theorem bt_isinstance : bootBuiltins "isinstance" = some (.builtin "isinstance") := by decide +kernel
theorem bt_max : bootBuiltins "max" = some (.builtin "max") := by decide +kernel
theorem bt_min : bootBuiltins "min" = some (.builtin "min") := by decide +kernel
theorem bt_len : bootBuiltins "len" = some (.builtin "len") := by decide +kernel
end
end L2
namespace L2
open PySem PySem.Spec PyProof.Rows
noncomputable def Got (P : Program) (w : World) (K : PySem.W.Frag) (mg : Str → Option Value) (base : Heap) (x : Str) (ps : List Str) (k : Nat) (sp : Sp) : Prop :=
 ∃ (f : Addr) (fd : FuncData), FnOk P w K mg base CX0 k f fd ps sp ∧ Binds K fd ps [] ∧ PySem.W.keepIn K (.ref f) = true ∧ mg x = some (.ref f)
theorem pe_got {X : Cx} {x : Str} {ps : List Str} {k k' : Nat} {sp : Sp} {e : Expr} {es : List Expr} {t : TA} {p pos : Pos} (g : Got X.prog X.w X.K X.mg X.base x ps k sp) (hr : Room k' X.A) (hk : k ≤ k') (hg : Gl X x)
   (ha : PA X (e :: es) t) (hdb : (x == ("__debug__" : Str)) = false := by decide) (he : starEach (e :: es) X.env = (false, eval e X.env) :: starEach es X.env := by rfl) (hpl : (backTo pos (starEach es X.env)).any (·.1) = false := by rfl) :
   PE X (.Call (.Name x p) (e :: es) [] pos) (tCall sp [] E0 t) := by
 obtain ⟨f, fd, F, b, kp, m⟩ := g
 exact pe_call (F.mono hk) hr hg m kp b .nil pass0 ha hdb he hpl
noncomputable def But (p : Addr) (H H' : Hp) : Prop := ∀ b o, b ≠ p → H b = some o → H' b = some o
theorem But.refl {p : Addr} {H : Hp} : But p H H := fun _ _ _ h => h
theorem But.trans {p : Addr} {H H1 H2 : Hp} (a : But p H H1) (b : But p H1 H2) : But p H H2 := fun c o n h => b c o n (a c o n h)
theorem But.put {p : Addr} {H : Hp} {o : HO} : But p H (upd H p o) := fun b u n e => by rw [upd_ne n]; exact e
theorem Same.new {q : Addr} {H : Hp} {o : HO} (h : H q = none) : Same H (upd H q o) := fun b u e => by rw [upd_ne (ne_of_none e h)]; exact e
theorem Same.but {p : Addr} {H H' : Hp} (h : Same H H') : But p H H' := fun b o _ e => h b o e
theorem len_small {n : Nat} (h : n ≤ 1000) : n ≤ sizeLine := Nat.le_of_lt (small1000 h)
end L2
namespace L2
open PySem PySem.Spec PyProof.Rows
section
variable {X : Cx}
theorem pe_powc {i j : Int} {k1 k2 p1 p2 pos} (v : Int) (hv : i ^ j.toNat = v := by rfl) (h : CPow i j := by exact ⟨by decide, by decide, by decide⟩) :
   PE X (.BinOp (.Constant (.int i) k1 p1) .Pow (.Constant (.int j) k2 p2) pos) (tC (.int v)) := by
 intro pins s σ H Q I q
 exact pe_op op_pow pe_int pe_int pins s σ H Q I ⟨_, _, rfl, rfl, h, by show Q (.int (i ^ j.toNat)) H; rw [hv]; exact q⟩
theorem pe_negc {i : Int} {k1 p1 pos} : PE X (.UnaryOp .USub (.Constant (.int i) k1 p1) pos) (tC (.int (-i))) := by
 intro pins s σ H Q I q
 exact pe_un un_neg pe_int pins s σ H Q I ⟨_, rfl, q⟩
end
end L2
namespace L2
open PySem PySem.Spec PyProof.Rows
section
variable {X : Cx} {es : List Expr} {t : TA} {pos : Pos}
theorem But.fresh {p : Addr} {H H1 H2 : Hp} (n : H p = none) (s : Same H H1) (b : But p H1 H2) : Same H H2 := fun c o e => b c o (ne_of_none e n) (s c o e)
noncomputable def tTupA (t : TA) : TE := fun σ H Q => t σ H fun xs H1 => xs.length ≤ sizeLine ∧ ∀ p H2, Same H1 H2 → H2 p = some (.tup xs) → Q (.ref p) H2
noncomputable def tLstA (t : TA) : TE := fun σ H Q => t σ H fun xs H1 => xs.length ≤ sizeLine ∧ ∀ p H2, H1 p = none → Same H1 H2 → H2 p = some (.lst xs) → Q (.ref p) H2
theorem pe_tupA {x1} (h : PA X es t) : PE X (.Tuple es x1 pos) (tTupA t) := by
 intro pins s σ H Q I hq
 refine wpAny_Tuple_spliced (thn (h pos pins s σ H _ I hq) fun us s1 ⟨xs, H1, I1, r, z, q⟩ => ⟨by rw [← r.length]; exact z, ?_⟩)
 have hf : H1 s1.heap.objs.size = none := I1.hok.fresh (Nat.le_refl _)
 refine ⟨.ref s1.heap.objs.size, upd H1 s1.heap.objs.size (.tup xs), I1.laid (t' := s1.toks) (fun b u e => Heap.get?_push_of_some _ e) (Nat.le_refl _) ?_, rfl, q _ _ (Same.new hf) upd_same⟩
 exact ⟨z, us, r, ⟨_, Heap.get?_push_size _ rfl, rfl, _, rfl⟩⟩
theorem pe_lstA (h : PA X es t) : PE X (.List es pos) (tLstA t) := by
 intro pins s σ H Q I hq
 refine wpAny_List_spliced (thn (h pos pins s σ H _ I hq) fun us s1 ⟨xs, H1, I1, r, z, q⟩ => ⟨by rw [← r.length]; exact z, ?_⟩)
 have hf : H1 s1.heap.objs.size = none := I1.hok.fresh (Nat.le_refl _)
 refine ⟨.ref s1.heap.objs.size, upd H1 s1.heap.objs.size (.lst xs), I1.laid (t' := s1.toks) (fun b u e => Heap.get?_push_of_some _ e) (Nat.le_refl _) ?_, rfl, q _ _ hf (Same.new hf) upd_same⟩
 exact ⟨z, us, 0, r, Heap.get?_push_size _ rfl⟩
end
end L2
namespace L2
open PySem PySem.Spec PyProof.Rows
section
variable {X : Cx} {st : Stmt} {rest : List Stmt} {t u : TS}
noncomputable def tJoin (t u : TS) : TS := fun D σ H => ∃ J : St → Hp → Prop, t { D with nx := J } σ H ∧ ∀ σ' H', J σ' H' → u D σ' H'
theorem pss_join (h1 : PS X st t) (h2 : PSs X rest u) : PSs X (st :: rest) (tJoin t u) := by
 intro pins s σ H D I h
 obtain ⟨J, a, b⟩ := h
 have hh : PS X st (fun D σ H => ∃ J : St → Hp → Prop, t { D with nx := J } σ H ∧ ∀ σ' H', J σ' H' → D.nx σ' H') := by
   intro pins s σ H D I h
   obtain ⟨J, a, b⟩ := h
   refine thn (h1 pins s σ H _ I a) fun f s' q => ?_
   cases f with
   | next =>
     obtain ⟨σ', H', I', j⟩ := q
     exact ⟨σ', H', I', b _ _ j⟩
   | brk => exact q
   | cont => exact q
   | ret v => exact q
 exact pss_cons hh h2 pins s σ H D I ⟨J, a, b⟩
end
end L2
namespace L2
open PySem PySem.Spec PyProof.Rows
section
variable {prog : Program} {w : World} {A : Around} {R : Result → Shared → Prop} {s : Shared}
theorem codeAny_compLoop_go {elt target iter : Expr} {ifs : List Expr} {scope : Scope} {pos : Pos} {it acc : Value} {env : Env} (I : Nat → Shared → Prop)
   (turn : ∀ n s, I n s → wpAny (model prog w) A (pyNext it) (fun r s₁ => match r with
     | none => R (.ok .next) s₁
     | some v => wpAny (model prog w) A (letOwnedTupleGo target it v) (fun _ s₁' => wpAny (model prog w) A (assign target env v) (fun _ s₂ =>
         wpAny (model prog w) A (forIn ifs true fun c r => if r = true then do let ok ← isTrue c env (eval c env); pure (ForInStep.yield ok) else pure (ForInStep.yield r)) (fun ok s₃ =>
           if ok = true then wpAny (model prog w) A (eval elt env) (fun x s₄ =>
             wpAny (model prog w) A (call (.builtin "list.append") [acc, x]) (fun _ s₅ => ∃ m, m < n ∧ I m s₅) (fun _ _ => False) s₄) (fun _ _ => False) s₃
           else ∃ m, m < n ∧ I m s₃) (fun _ _ => False) s₂) (fun _ _ => False) s₁') (fun _ _ => False) s₁) (fun _ _ => False) s)
   (n : Nat) (h : I n s) : codeAny (model prog w) A (.compLoop (.ListComp elt [⟨target, iter, ifs, 0⟩] scope pos) 0 it acc env) R s := by
 refine codeAny_loop rfl I (fun n s hI => ?_) n h
 show wpAny _ A ((compTurn (.ListComp elt [⟨target, iter, ifs, 0⟩] scope pos) 0 it acc env).onRaise (fun x => do noteFrame x env; theTreesLotGoes x)) _ _ s
 refine wpAny_noted (wpAny_noRaise ?_)
 rw [compTurn_list]
 refine wpAny_bind (wpAny_standAt (wpAny_bind (thn (turn n s hI) fun r s₁ h₁ => ?_)))
 cases r with
 | none => exact wpAny_pure h₁
 | some v =>
   refine wpAny_bind (thn h₁ fun _ s₁' h₁' => wpAny_bind (thn h₁' fun _ s₂ h₂ => wpAny_bind (thn h₂ fun ok s₃ h₃ => ?_)))
   cases ok with
   | false => exact wpAny_pure ⟨rfl, h₃⟩
   | true => exact wpAny_bind (wpAny_bind (thn h₃ fun x s₄ h₄ => wpAny_bind (thn h₄ fun _ s₅ h₅ => wpAny_pure (wpAny_pure ⟨rfl, h₅⟩))))
end
noncomputable def PTs (X : Cx) (ifs : List Expr) (t : TT) : Prop :=
 ∀ (pins : List (Addr × Obj)) (s : Shared) (σ : St) (H : Hp) (Q : Bool → Hp → Prop), Inv X pins σ H s → t σ H Q →
   wpAny (model X.prog X.w) X.A (forIn ifs true fun c r => if r = true then do let ok ← isTrue c X.env (eval c X.env); pure (ForInStep.yield ok) else pure (ForInStep.yield r)) (TP X pins σ Q) X.xe s
theorem pts_nil {X : Cx} : PTs X [] (fun _ H Q => Q true H) := fun _ _ _ H _ I h => wpAny_tests_nil ⟨H, I, h⟩
theorem pts_one {X : Cx} {c : Expr} {t : TT} (h : PT X c t) : PTs X [c] t := fun pins s σ H Q I q => wpAny_tests_one (h pins s σ H Q I q)
noncomputable abbrev blk (X : Cx) (scope : Scope) (cl : List (Str × Addr)) (N : List Str) (ex : List Addr) (s₃ : Shared) (H₃ : Hp) : Cx where
 prog := X.prog
 w := X.w
 K := X.K
 mg := X.mg
 base := X.base
 A := X.A
 N := N
 s₀ := s₃
 H₀ := H₃
 env := compEnvC scope cl s₃.heap.objs.size X.env
 outer := X.stack
 stack := X.stack
 ex := ex
 fn := fun _ => false
 calm := X.calm
 pn := []
 xe := fun _ _ => False
noncomputable def blkS (tgs : List Str) (fr : List (Nat × Str × Addr)) (σ : St) : St := tgs.map (fun _ => none) ++ fr.map fun q => (σ[q.1]?).join
noncomputable def CompGo (J : It) (g : TG) (tt : TT) (te : TE) (D : Addr) (Q : VK) (σ : St) (H : Hp) : Prop :=
 ∃ W : Nat → Nat → St → Hp → Prop, (∃ m, W 0 m σ H) ∧ ∀ i m σ' H', W i m σ' H' →
   (J.stop i H' ∧ Q (.ref D) H') ∨ (J.go i H' ∧ ∃ N : St → Hp → Prop, (∀ σ' H', N σ' H' → ∃ m', m' < m ∧ W (i + 1) m' σ' H') ∧
     ∀ x H2, J.yld i H' x H2 → g x σ' H2 fun σ2 H3 => tt σ2 H3 fun b H4 => if b = true then te σ2 H4 fun y H5 => ∃ ys, H5 D = some (.lst ys) ∧ ys.length < sizeLine ∧ N σ2 (upd H5 D (.lst (ys ++ [y]))) else N σ2 H4)
noncomputable def tComp (tgs : List Str) (fr : List (Nat × Str × Addr)) (wi : TI) (g : TG) (tt : TT) (te : TE) : TE := fun σ H Q => wi σ H fun J H1 => ∀ D, H1 D = none → CompGo J g tt te D Q (blkS tgs fr σ) (upd H1 D (.lst []))
theorem lookup_mem {cl : List (Str × Addr)} {x : Str} {c : Addr} (h : cl.lookup x = some c) : (x, c) ∈ cl := PySem.mem_of_lookup h
theorem comp_any {X : Cx} {scope : Scope} {cl : List (Str × Addr)} (tgs : List Str) (fr : List (Nat × Str × Addr)) {tg iter elt : Expr} {ifs : List Expr} {pos : Pos} {wi : TI} {g : TG} {tt : TT} {te : TE}
   (hcalm : X.calm = true) (hi : PI X tg iter wi)
   (hg : ∀ ex s₃ H₃, PG (blk X scope cl (tgs ++ fr.map (·.2.1)) ex s₃ H₃) tg g)
   (ht : ∀ ex s₃ H₃, PTs (blk X scope cl (tgs ++ fr.map (·.2.1)) ex s₃ H₃) ifs tt)
   (he : ∀ ex s₃ H₃, PE (blk X scope cl (tgs ++ fr.map (·.2.1)) ex s₃ H₃) elt te)
   (hclos : closureFor scope X.env = pure cl) (hcell : ∀ y ∈ scope.names, y.2 ≠ .cell) (hkind : scope.kind = .function)
   (hnames : ∀ y ∈ scope.names, y.2 = .local → scope.names.lookup y.1 = some .local)
   (hcl : ∀ p ∈ cl, X.env.cells.lookup p.1 = some p.2)
   (hhas : ((relabel scope X.env).names.all fun p => !(p.2 == .cell || p.2 == .free) || (cl.lookup p.1).isSome) = true)
   (hfr : ∀ q ∈ fr, X.N[q.1]? = some q.2.1 ∧ X.env.scope.names.lookup q.2.1 = some .cell ∧ (relabel scope X.env).names.lookup q.2.1 = some .cell ∧ cl.lookup q.2.1 = some q.2.2)
   (hs : ∀ x, foldedSetIterable iter X.env x = pure x)
   {use : Option (Value → Sem Unit)} {R : Value → Shared → Prop} {pos1 : Pos} {pins : List (Addr × Obj)} {s : Shared} {σ : St} {H : Hp} {Q : V → Hp → Prop} (I : Inv X pins σ H s) (h : tComp tgs fr wi g tt te σ H Q)
   (fin : ∀ (D : Addr) (s3 s6 : Shared) (H3 H5 : Hp) (fp : List Addr) (σ5 : St), Inv X pins σ H3 s3 → Inv (blk X scope cl (tgs ++ fr.map (·.2.1)) fp s3 H3) [] σ5 H5 s6 → (∀ b ∈ fp, FpOk X pins H3 b) → Q (.ref D) H5 → compPost (model X.prog X.w) X.A X.xe use R (.ref D) s3.heap.objs.size (.ok .next) s6) :
   wpAny (model X.prog X.w) X.A (comprehension (.ListComp elt [⟨tg, iter, ifs, 0⟩] scope pos) scope X.env pos1 (newList []) false (firstIter [⟨tg, iter, ifs, 0⟩] X.env) use) R X.xe s := by
 refine wpAny_comprehension_free (use := use) rfl hs hclos hkind hnames (thn (hi pins s σ H _ I h) fun xv s₁ h₁ => thn h₁ fun itv s₂ h₂ => ?_)
 obtain ⟨it, fp, tn, J, H2, e, I2, T, st2, f2, q⟩ := h₂
 subst e
 obtain ⟨W, ⟨m0, w0⟩, turn⟩ := q s₂.heap.objs.size I2.fresh
 have I3 := I2.lnew (t' := s₂.toks) (ys := []) (its := []) .nil (Nat.zero_le _)
 refine wpAny_newObj_type ?_
 generalize hs3 : ({ s₂ with heap := s₂.heap.push { cls := .type "list", data := .seq ([] : List Value).toArray }, toks := s₂.toks } : Shared) = s3 at I3
 have up : ∀ b o, s₂.heap.get? b = some o → s3.heap.get? b = some o := fun b o e => by rw [← hs3]; exact Heap.get?_push_of_some _ e
 generalize hD : s₂.heap.objs.size = D at I3 turn w0
 generalize hH3 : upd H2 D (.lst []) = H3 at I3 w0
 have hDn : H2 D = none := by rw [← hD]; exact I2.fresh
 -- the iterator's records behind the new list
 have st3 : tn 0 s3.heap := T.keep _ _ _ st2 fun b _ o e => up b o e
 have f3 : ∀ b ∈ fp, FpOk X pins H3 b := fun b hb => by
   obtain ⟨o, eo, _⟩ := T.obj _ _ st2 b hb
   refine ⟨?_, (f2 b hb).2⟩
   rw [← hH3, upd_ne (by rw [← hD]; exact Nat.ne_of_lt (Heap.lt_size eo))]
   exact (f2 b hb).1
 refine wpAny_newFunctionEnv hcell (by intro y hy; simp at hy) (fun h₁ hns₁ hsb₁ => ?_) hkind
 have old : ∀ b o, s3.heap.get? b = some o → h₁.get? b = some o := fun b o e => hsb₁.extBut b o (Nat.ne_of_lt (Heap.lt_size e)) (Heap.get?_push_of_some _ e)
 have cls : ∀ x c, cl.lookup x = some c → X.env.cells.lookup x = some c := fun x c e => hcl _ (lookup_mem e)
 have fpC : ∀ b ∈ fp, b ≠ s3.heap.objs.size := fun b hb => by
   obtain ⟨o, eo, _⟩ := T.obj _ _ st3 b hb
   exact Nat.ne_of_lt (Heap.lt_size eo)
 have ok : (blk X scope cl (tgs ++ fr.map (·.2.1)) fp s3 H3).Ok := {
   mod := I.ok.mod
   kind := hkind
   glob := I.ok.glob
   blt := I.ok.blt
   above := Nat.le_refl _
   inj := fun x y c e1 e2 => I.ok.inj x y c (cls x c e1) (cls y c e2)
   has := fun x hx => by
     have hx' : (relabel scope X.env).names.lookup x = some .cell ∨ (relabel scope X.env).names.lookup x = some .free := hx
     have := List.all_eq_true.mp hhas
     rcases hx' with e | e
     · have z := this _ (PySem.mem_of_lookup e)
       exact Option.isSome_iff_exists.mp (show (cl.lookup x).isSome = true from z)
     · have z := this _ (PySem.mem_of_lookup e)
       exact Option.isSome_iff_exists.mp (show (cl.lookup x).isSome = true from z)
   cab := fun x c z _ => absurd z (by simp)
   hd := fun _ => I.ok.hd hcalm
   frames := I.ok.frames
   stk := .inl rfl
   exf := fun b hb => ⟨fpC b hb, fun x c e => (f3 b hb).2.2.2.2.1 x c (cls x c e)⟩
   bs := I3.bs
   bsz := Nat.le_trans I.ok.bsz I3.sz
   noex := fun b o e hb => by
     rcases (f3 b hb).2.2.2.1 with z | z
     · exact I.ok.noex b o e z
     · exact absurd (Heap.lt_size (I.ok.bs b o e).1) (Nat.not_lt.mpr z)
   exfs := fun b hb z => by
     rcases List.mem_cons.mp (I.stkSub b z) with z | z
     · exact (f3 b hb).2.1 z
     · exact (f3 b hb).2.2.1 z
   funs := I3.stack
   frf := I3.stkFree }
 have I4 : Inv (blk X scope cl (tgs ++ fr.map (·.2.1)) fp s3 H3) [] (blkS tgs fr σ) H3 { s3 with heap := h₁, toks := s3.toks + ([] : List (Str × Value)).length } := {
   ok := ok
   os := rfl
   bare := I3.bare
   base := Un.kept old
   loc := by
     refine ⟨_, hns₁, fun i x v e1 e2 _ => ?_⟩
     obtain ⟨m, _, lk⟩ := I3.loc
     unfold blkS at e2
     by_cases hi : i < tgs.length
     · rw [List.getElem?_append_left (by simpa using hi), List.getElem?_map] at e2
       cases z : tgs[i]? with
       | none => rw [z] at e2; cases e2
       | some y => rw [z] at e2; cases e2
     · have e1' : (tgs ++ fr.map (·.2.1))[i]? = some x := e1
       rw [List.getElem?_append_right (by simpa using hi), List.getElem?_map] at e2
       rw [List.getElem?_append_right (by simpa using hi), List.getElem?_map] at e1'
       rw [List.length_map] at e2
       cases z : fr[i - tgs.length]? with
       | none => rw [z] at e2; cases e2
       | some y =>
         rw [z] at e1' e2
         have ex : y.2.1 = x := Option.some.inj e1'
         have ev : (σ[y.1]?).join = some v := Option.some.inj e2
         have ev' : σ[y.1]? = some (some v) := by
           cases zz : σ[y.1]? with
           | none => rw [zz] at ev; cases ev
           | some a => rw [zz] at ev; rw [show a = some v from ev]
         obtain ⟨n1, n2, n3, n4⟩ := hfr y (List.mem_of_getElem? z)
         rw [ex] at n1 n2 n3 n4
         obtain ⟨u, ru, l⟩ := lk y.1 x v n1 ev' (.inr (.inl n2))
         refine ⟨u, ru, .inr ⟨.inl n3, y.2.2, n4, ?_⟩⟩
         rcases l with ⟨k, _⟩ | ⟨_, c, ec, cc⟩
         · rw [show X.env.kindOf x = some .cell from n2] at k; cases k
         · rw [cls x _ n4] at ec
           cases ec
           obtain ⟨o, ho, hd⟩ := cc
           exact ⟨o, old _ _ ho, hd⟩
   cell := fun x c e => by
     obtain ⟨v, o, ho, hd⟩ := I3.cell x c (cls x c e)
     exact ⟨v, o, old _ _ ho, hd⟩
   free := I3.hok.fresh (Nat.le_refl _)
   freeC := fun x c e => I3.freeC x c (cls x c e)
   pin := fun p hp => absurd (show p ∈ ([] : List (Addr × Obj)) from hp) (by simp)
   hok := I3.hok.kept old
   len := by simp [blkS] }
 have fpB : ∀ {H' : Hp}, (∀ b ∈ fp, H' b = none) → ∀ b ∈ fp, FpOk (blk X scope cl (tgs ++ fr.map (·.2.1)) fp s3 H3) [] H' b := fun hn b hb =>
   ⟨hn b hb, fpC b hb, ok.exfs b hb, .inl hb, fun x c e => (f3 b hb).2.2.2.2.1 x c (cls x c e), fun p hp => absurd (show p ∈ ([] : List (Addr × Obj)) from hp) (by simp)⟩
 have st4 : tn 0 h₁ := T.keep _ _ _ st3 fun b _ o e => old b o e
 have loop : codeAny (model X.prog X.w) X.A (.compLoop (.ListComp elt [⟨tg, iter, ifs, 0⟩] scope pos) 0 (.ref it) (.ref D) (compEnvC scope cl s3.heap.objs.size X.env))
     (compPost (model X.prog X.w) X.A X.xe use R (.ref D) s3.heap.objs.size) { s3 with heap := h₁, toks := s3.toks + ([] : List (Str × Value)).length } := by
   refine codeAny_compLoop_go (fun n s' => ∃ i σ' H', Inv (blk X scope cl (tgs ++ fr.map (·.2.1)) fp s3 H3) [] σ' H' s' ∧ tn i s'.heap ∧ (∀ b ∈ fp, H' b = none) ∧ W i n σ' H') ?_ m0 ⟨0, _, _, I4, st4, fun b hb => (f3 b hb).1, w0⟩
   rintro n s5 ⟨i, σ5, H5, I5, st5, fr5, w5⟩
   rcases turn i n σ5 H5 w5 with ⟨stop, qn⟩ | ⟨go, N, hN, step⟩
   · refine thn (T.done (blk X scope cl (tgs ++ fr.map (·.2.1)) fp s3 H3) rfl rfl rfl hcalm i [] s5 σ5 H5 _ I5 (fpB fr5) st5 stop) fun r s6 ⟨hr, I6⟩ => ?_
     subst hr
     exact fin D s3 s6 H3 H5 fp σ5 I3 I6 f3 qn
   · refine thn (T.item (blk X scope cl (tgs ++ fr.map (·.2.1)) fp s3 H3) rfl rfl rfl hcalm i [] s5 σ5 H5 _ I5 (fpB fr5) st5 go) fun r s6 ⟨u, hr, h6⟩ => ?_
     subst hr
     refine thn h6 fun _ s7 ⟨x, H7, I7, r7, y7, st7, fr7⟩ => ?_
     have I7' := I7.pinned (fpB fr7) (T.obj _ _ st7)
     have back : ∀ {σ9 : St} {H9 : Hp} {s9 : Shared}, Inv (blk X scope cl (tgs ++ fr.map (·.2.1)) fp s3 H3) ([] ++ pinsAt fp s7.heap) σ9 H9 s9 → N σ9 H9 → ∃ m, m < n ∧ ∃ i σ' H', Inv (blk X scope cl (tgs ++ fr.map (·.2.1)) fp s3 H3) [] σ' H' s9 ∧ tn i s9.heap ∧ (∀ b ∈ fp, H' b = none) ∧ W i m σ' H' := fun {σ9 H9 s9} I9 n9 => by
       obtain ⟨m', hm, w9⟩ := hN σ9 H9 n9
       refine ⟨m', hm, i + 1, σ9, H9, I9.unpinned, T.keep _ _ _ st7 fun b hb o e => (I9.pin (b, o) (List.mem_append_right _ (List.mem_append_right _ (mem_pinsAt hb e)))).1, fun b hb => ?_, w9⟩
       obtain ⟨o, e, d⟩ := T.obj _ _ st7 b hb
       exact (I9.pin (b, o) (List.mem_append_right _ (List.mem_append_right _ (mem_pinsAt hb e)))).2.1
     refine thn (hg _ _ _ _ s7 σ5 H7 x u _ I7' r7 (step x H7 y7)) fun _ s8 ⟨σ8, H8, I8, q8⟩ => ?_
     refine thn (ht _ _ _ _ s8 σ8 H8 _ I8 q8) fun b s9 ⟨H9, I9, q9⟩ => ?_
     cases b with
     | false => rw [if_neg Bool.false_ne_true] at q9 ⊢; exact back I9 q9
     | true =>
       rw [if_pos rfl] at q9 ⊢
       refine thn (he _ _ _ _ s9 σ8 H9 _ I9 q9) fun y s10 ⟨z, H10, I10, r10, ys, ey, hz, n10⟩ => ?_
       exact thn (mt_append _ s10 σ8 H10 (.ref D) [z] (.ref D) [y] (fun _ H' => N σ8 H') I10 rfl (.cons r10 .nil) ⟨D, ys, z, rfl, rfl, ey, hz, n10⟩) fun _ s11 ⟨_, H11, I11, _, n11⟩ => back I11 n11
 exact codeAny_compStart_list loop (T.self _ 0 _ _ _ st4 loop)
theorem pe_comp {X : Cx} {scope : Scope} {cl : List (Str × Addr)} (tgs : List Str) (fr : List (Nat × Str × Addr)) {tg iter elt : Expr} {ifs : List Expr} {pos : Pos} {wi : TI} {g : TG} {tt : TT} {te : TE}
   (hcalm : X.calm = true) (hi : PI X tg iter wi)
   (hg : ∀ ex s₃ H₃, PG (blk X scope cl (tgs ++ fr.map (·.2.1)) ex s₃ H₃) tg g)
   (ht : ∀ ex s₃ H₃, PTs (blk X scope cl (tgs ++ fr.map (·.2.1)) ex s₃ H₃) ifs tt)
   (he : ∀ ex s₃ H₃, PE (blk X scope cl (tgs ++ fr.map (·.2.1)) ex s₃ H₃) elt te)
   (hclos : closureFor scope X.env = pure cl) (hcell : ∀ y ∈ scope.names, y.2 ≠ .cell) (hkind : scope.kind = .function)
   (hnames : ∀ y ∈ scope.names, y.2 = .local → scope.names.lookup y.1 = some .local)
   (hcl : ∀ p ∈ cl, X.env.cells.lookup p.1 = some p.2)
   (hhas : ((relabel scope X.env).names.all fun p => !(p.2 == .cell || p.2 == .free) || (cl.lookup p.1).isSome) = true)
   (hfr : ∀ q ∈ fr, X.N[q.1]? = some q.2.1 ∧ X.env.scope.names.lookup q.2.1 = some .cell ∧ (relabel scope X.env).names.lookup q.2.1 = some .cell ∧ cl.lookup q.2.1 = some q.2.2)
   (hs : ∀ x, foldedSetIterable iter X.env x = pure x := by intro _; rfl) :
   PE X (.ListComp elt [⟨tg, iter, ifs, 0⟩] scope pos) (tComp tgs fr wi g tt te) := by
 intro pins s σ H Q I h
 rw [eval_ListComp]
 refine comp_any tgs fr hcalm hi hg ht he hclos hcell hkind hnames hcl hhas hfr hs I h fun D s3 s6 H3 H5 fp σ5 I3 I6 f3 qn => ?_
 obtain ⟨m6, hn6, _⟩ := id I6.loc
 refine ⟨m6, hn6, fun h' hs' => ⟨.ref D, H5, ?_, rfl, qn⟩⟩
 have sm : ∀ b o, b ≠ s3.heap.objs.size → s6.heap.get? b = some o → h'.get? b = some o := fun b o hb e => hs'.extBut b o hb e
 have neC : ∀ b o, s3.heap.get? b = some o → b ≠ s3.heap.objs.size := fun b o e => Nat.ne_of_lt (Heap.lt_size e)
 have u6 := I6.base
 refine I3.call' (s' := { s6 with heap := h' }) (ch := fp) I6.os ⟨fun b o e n hb hx => ?_, fun b o e n hb hx => ?_, u6.free, fun b o e hx => ?_, u6.tups, u6.frzs, u6.tbls⟩ (fun b ob e => ?_) I6.bare (fun b hb => ⟨(f3 b hb).2.2.2.1, (f3 b hb).2.1, (f3 b hb).2.2.2.2.1, (f3 b hb).2.2.2.2.2⟩)
 · exact sm b o (neC b o e) (u6.keep b o e n hb hx)
 · obtain ⟨sl, z⟩ := u6.slot b o e n hb hx
   exact ⟨sl, sm b _ (neC b o e) z⟩
 · obtain ⟨o', z⟩ := u6.there b o e hx
   exact ⟨o', sm b o' (neC b o e) z⟩
 · have fC : H5 s3.heap.objs.size = none := I6.free
   refine (I6.hok b ob e).stay (fun c w' hc z => sm c w' (fun zz => ?_) z) (fun _ z => z) fun _ _ z => z
   subst zz
   rcases hc with zz | zz
   · rw [← zz, fC] at e; cases e
   · rw [fC] at zz; cases zz
end L2
namespace L2
open PySem PySem.Spec PyProof.Rows
section
variable {X : Cx}
theorem ints_get {ns : List Int} {its : List Value} (h : Vals (ns.map V.int) its) {j : Nat} (h1 : j < its.toArray.size) : ∃ (hn : j < ns.length) (t : Tok), its.toArray[j] = Value.int ns[j] t := by
 have hl := h.length
 rw [List.length_map] at hl
 have hj : j < ns.length := by rw [List.size_toArray] at h1; omega
 obtain ⟨u, eu, ru⟩ := h.get (i := j) (x := .int ns[j]) (by rw [List.getElem?_map, List.getElem?_eq_getElem hj]; rfl)
 obtain ⟨t, rfl⟩ := ru
 refine ⟨hj, t, ?_⟩
 have h1' : j < its.length := by rw [List.size_toArray] at h1; exact h1
 rw [List.getElem?_eq_getElem h1'] at eu
 simpa using Option.some.inj eu
theorem all_same {ns ms : List Int} (h : ns.length = ms.length) : (List.range ns.length).all (fun j => decide (ns[j]? = ms[j]?)) = decide (ns = ms) := by
 rw [Bool.eq_iff_iff, List.all_eq_true, decide_eq_true_iff]
 constructor
 · intro q
   refine List.ext_getElem? fun i => ?_
   by_cases hi : i < ns.length
   · exact of_decide_eq_true (q i (List.mem_range.mpr hi))
   · rw [List.getElem?_eq_none (by omega), List.getElem?_eq_none (by omega)]
 · rintro rfl j _
   exact decide_eq_true rfl
theorem eqAt_ints {A : Around} {s : Shared} {ns ms : List Int} {xs ys : List Value} (h : Vals (ns.map V.int) xs) (h' : Vals (ms.map V.int) ys) (j : Nat) (h1 : j < xs.toArray.size) (h2 : j < ys.toArray.size) :
   SeqAt.EqAt A s xs.toArray[j] ys.toArray[j] (decide (ns[j]? = ms[j]?)) := by
 obtain ⟨n1, t1, e1⟩ := ints_get h h1
 obtain ⟨n2, t2, e2⟩ := ints_get h' h2
 rw [e1, e2, List.getElem?_eq_getElem n1, List.getElem?_eq_getElem n2]
 have e : decide (some ns[j] = some ms[j]) = (ns[j] == ms[j]) := by
   rw [Bool.eq_iff_iff, decide_eq_true_iff, Option.some.injEq, beq_iff_eq]
 rw [e]
 exact SeqAt.EqAt.int_int _ _ _ _
noncomputable def rEqI (K : PySem.W.Frag) (neg : Bool) : R2 := fun x y H Q => ∃ (a b : Addr) (ns ms : List Int), x = .ref a ∧ y = .ref b ∧ SqL K H a (ns.map V.int) ∧ SqL K H b (ms.map V.int) ∧ Q (.bl (if neg then !decide (ns = ms) else decide (ns = ms))) H
theorem op_eqI (hu : X.A.units < cLine) : OpR X (compareOp .Eq) (rEqI X.K false) := by
 intro pins s σ H x y v u Q I rx ry h
 obtain ⟨a, b, ns, ms, rfl, rfl, h1, h2, q⟩ := h
 cases rx
 cases ry
 obtain ⟨xs, vx, px, _⟩ := I.list h1
 obtain ⟨ys, vy, py, _⟩ := I.list h2
 have lx := vx.length
 have ly := vy.length
 rw [List.length_map] at lx ly
 by_cases hl : ns.length = ms.length
 · refine SeqAt.eq_listAt px.isList py.isList (by simp; omega) hu (eqAt_ints vx vy) ?_
   refine ⟨.bl _, H, I, rfl, ?_⟩
   rw [List.size_toArray, ← lx, all_same hl]
   exact q
 · refine SeqAt.eq_list_lengthsAt px.isList py.isList (by simp; omega) hu ?_
   refine ⟨.bl _, H, I, rfl, ?_⟩
   have : decide (ns = ms) = false := decide_eq_false fun e => hl (by rw [e])
   rw [this] at q
   exact q
end
end L2
namespace L2
open PySem PySem.Spec PyProof.Rows
section
variable {K : PySem.W.Frag} {a l : Addr} {xs : List V} {g : TG} {tt : TT} {te : TE} {Q : VK} {σ : St} {H : Hp}
noncomputable def tbC (l : Addr) (tt : TT) (te : TE) : TS := fun D σ H => tt σ H fun b H4 => if b = true then te σ H4 fun y H5 => ∃ ys, H5 l = some (.lst ys) ∧ ys.length < sizeLine ∧ D.nx σ (upd H5 l (.lst (ys ++ [y]))) else D.nx σ H4
theorem comp_list (Pv : Nat → St → Hp → Prop) (h0 : Pv 0 σ H) (hl : ∀ i σ H, i ≤ xs.length → Pv i σ H → SqL K H a xs)
   (hs : ∀ i x σ H, xs[i]? = some x → Pv i σ H → g x σ H fun σ2 H3 => tt σ2 H3 fun b H4 => if b = true then te σ2 H4 fun y H5 => ∃ ys, H5 l = some (.lst ys) ∧ ys.length < sizeLine ∧ Pv (i + 1) σ2 (upd H5 l (.lst (ys ++ [y]))) else Pv (i + 1) σ2 H4) (hd : ∀ σ H, Pv xs.length σ H → Q (.ref l) H) : CompGo (Itl K a) g tt te l Q σ H :=
 for_list (tb := tbC l tt te) (D := { nx := fun _ H => Q (.ref l) H, rt := fun _ _ => False }) Pv h0 hl hs hd
theorem comp_range {lo : Int} {n : Nat} (Pv : Nat → St → Hp → Prop) (h0 : Pv 0 σ H)
   (hs : ∀ i σ H, i < n → Pv i σ H → g (.int (lo + i)) σ H fun σ2 H3 => tt σ2 H3 fun b H4 => if b = true then te σ2 H4 fun y H5 => ∃ ys, H5 l = some (.lst ys) ∧ ys.length < sizeLine ∧ Pv (i + 1) σ2 (upd H5 l (.lst (ys ++ [y]))) else Pv (i + 1) σ2 H4) (hd : ∀ σ H, Pv n σ H → Q (.ref l) H) : CompGo (Itr lo n) g tt te l Q σ H :=
 for_range (tb := tbC l tt te) (D := { nx := fun _ H => Q (.ref l) H, rt := fun _ _ => False }) Pv h0 hs hd
end
end L2
namespace L2
open PySem PySem.Spec PyProof.Rows
section
variable {X : Cx} {tg : Expr}
theorem for_up {lo : Int} {n : Nat} {g : TG} {tb : TS} {D : Ends} {σ : St} {H : Hp} (W : Nat → St → Hp → Prop) (h0 : W 0 σ H)
   (step : ∀ i σ H, i < n → W i σ H → g (.int (lo + i)) σ H fun σ2 H2 => tb { D with nx := W (i + 1), ct := W (i + 1), bk := D.nx } σ2 H2)
   (done : ∀ σ H, W n σ H → D.nx σ H) :
   ∃ W' : Nat → Nat → St → Hp → Prop, (∃ m, W' 0 m σ H) ∧ ∀ i m σ H, W' i m σ H →
     ((Itr lo n).stop i H ∧ D.nx σ H) ∨ ((Itr lo n).go i H ∧ ∃ N : St → Hp → Prop, (∀ σ' H', N σ' H' → ∃ m', m' < m ∧ W' (i + 1) m' σ' H') ∧ ∀ x H', (Itr lo n).yld i H x H' → g x σ H' fun σ2 H2 => tb { D with nx := N, ct := N, bk := D.nx } σ2 H2) := by
 refine ⟨fun i m σ H => W i σ H ∧ i ≤ n ∧ m = n - i, ⟨_, h0, Nat.zero_le _, rfl⟩, ?_⟩
 rintro i m σ H ⟨hw, hi', rfl⟩
 rcases Nat.lt_or_ge i n with h | h
 · refine .inr ⟨h, W (i + 1), fun σ' H' hn => ⟨_, ?_, hn, h, rfl⟩, ?_⟩
   · omega
   · rintro x H' ⟨rfl, rfl⟩
     exact step i σ _ h hw
 · have e : i = n := Nat.le_antisymm hi' h
   subst e
   exact .inl ⟨Nat.le_refl _, done σ H hw⟩
end
end L2
namespace L2
open PySem PySem.Spec PyProof.Rows
section
variable {P : Program} {w : World} {H : Hp} {h : Heap} {a : Addr}
theorem ObjOk.is : ∀ {o : HO}, ObjOk P w H h a o → ∃ ob, h.get? a = some ob
 | .lst _, ⟨_, _, _, _, e⟩ => ⟨_, e⟩
 | .tup _, ⟨_, _, _, ob, e, _⟩ => ⟨ob, e⟩
 | .dK _, ⟨_, _, _, _, o, _, _, e, _⟩ => ⟨o, e⟩
 | .dT _, ⟨_, _, _, _, o, _, _, e, _⟩ => ⟨o, e⟩
 | .set _ _, ⟨o, _, _, _, e, _⟩ => ⟨o, e⟩
 | .ins _ _ _, ⟨_, _, _, e, _⟩ => ⟨_, e⟩
 | .own _, ⟨o, e⟩ => ⟨o, e⟩
 | .xd _, ⟨_, ⟨o, _, _, e, _⟩, _⟩ => ⟨o, e⟩
 | .rng _ _, ⟨_, _, _, e⟩ => ⟨_, e⟩
 | .frz o _, ⟨e, _⟩ => ⟨o, e⟩
 | .tbl _, e => ⟨_, e⟩
 | .met _ _, e => ⟨_, e⟩
 | .ext _, ⟨_, ⟨o, e⟩, _⟩ => ⟨o, e⟩
end
structure Fly (P : Program) (w : World) (l : List Env) (H : Hp) (s : Shared) (ea : Addr) (cls a0 : Value) (H' : Hp) (B h : Heap) : Prop where
 un : Un (frs l) [] H H' s.heap h
 hok : HOk P w H' h
 fly : Heap.FlyingW B l ea cls a0 h
 trk : ∀ a o, H' a = some o → ∃ ob, B.get? a = some ob
 old : ∀ b o, s.heap.get? b = some o → b ∉ frs l → ∃ ob, B.get? b = some ob
theorem stays_eq {B h : Heap} {b : Addr} {o u : Obj} (k : B.StaysIn h) (e : B.get? b = some u) (q : h.get? b = some o) : u = o := by
 have z := k b u e
 rw [q] at z
 exact (Option.some.inj z).symm
theorem Fly.on {P : Program} {w : World} {l : List Env} {H : Hp} {s : Shared} {ea : Addr} {cls a0 : Value} {H' : Hp} {B h1 h2 : Heap}
   (un : Un (frs l) [] H H' s.heap h1) (hok : HOk P w H' h1) (hB : B.StaysIn h1) (fly : Heap.FlyingW B l ea cls a0 h2)
   (hf : ∀ b ∈ frs l, ∃ o, h1.get? b = some o ∧ ∀ vs, o.data ≠ .fields vs) (up : h1.UpToSlots h2)
   (trk : ∀ a o, H' a = some o → ∃ ob, B.get? a = some ob) (old : ∀ b o, s.heap.get? b = some o → b ∉ frs l → ∃ ob, B.get? b = some ob) : Fly P w l H s ea cls a0 H' B h2 := by
 have same : ∀ b o ob, B.get? b = some ob → h1.get? b = some o → h2.get? b = some o := fun b o ob e q => by
   have z := stays_eq hB e q
   subst z
   exact fly.1 b _ e
 refine ⟨⟨fun b o e n hb hx => ?_, fun b o e n hb hx => ?_, un.free, fun b o e hx => ?_, un.tups, un.frzs, un.tbls⟩, fun a o e => ?_, fly, trk, old⟩
 · obtain ⟨ob, q⟩ := old b o e hb
   exact same b o ob q (un.keep b o e n hb hx)
 · obtain ⟨sl, q⟩ := un.slot b o e n hb hx
   obtain ⟨o', q', nf⟩ := hf b hb
   rw [q] at q'
   have z := Option.some.inj q'
   subst z
   obtain ⟨sl', z⟩ := up b _ q nf
   exact ⟨sl', z⟩
 · by_cases hb : b ∈ frs l
   · obtain ⟨o', q', nf⟩ := hf b hb
     obtain ⟨sl, z⟩ := up b _ q' nf
     exact ⟨_, z⟩
   · obtain ⟨ob, q⟩ := old b o e hb
     exact ⟨ob, fly.1 b ob q⟩
 · refine (hok a o e).stay (fun b u hb q => ?_) (fun _ q => q) fun _ _ q => q
   rcases hb with rfl | hb
   · obtain ⟨ob, z⟩ := trk b o e
     exact same b u ob z q
   · obtain ⟨ob, z⟩ := trk b _ hb
     exact same b u ob z q
noncomputable def CXE (P : Program) (w : World) : CXT := fun outer H s E e s' =>
 ∃ (ea : Addr) (cls a0 : Value) (H' : Hp) (B : Heap), e = .ref ea ∧ s'.os = s.os ∧ AllBare s'.gens ∧ Fly P w outer H s ea cls a0 H' B s'.heap ∧ E cls none H'
section
variable {P : Program} {w : World} {K : PySem.W.Frag} {mg : Str → Option Value} {base : Heap} {N : List Str} {qual : Str} {scope : Scope} {f : Addr} {cd : Value} {A : Around} {outer : List Env} {s0 : Shared} {H0 : Hp} {E : XK}
 {pins : List (Addr × Obj)} {σ : St} {H : Hp} {s : Shared}
theorem fly_leave {X : Cx} {ea : Addr} {cls a0 : Value} {B : Heap} {s' : Shared} (J : Inv X pins σ H s) (hst : X.stack = X.env :: X.outer) (hfr : X.env.frame = some X.env.locals) (hex : X.ex = [])
   (hB : B.StaysIn s.heap) (up : s.heap.UpToSlots s'.heap) (trk : ∀ a o, H a = some o → ∃ ob, B.get? a = some ob) (old : ∀ b o, X.s₀.heap.get? b = some o → b ∉ frs X.outer → ∃ ob, B.get? b = some ob)
   (fly : Heap.FlyingW B X.outer ea cls a0 s'.heap) : Fly X.prog X.w X.outer X.H₀ X.s₀ ea cls a0 H B s'.heap := by
 have un : Un (frs X.outer) [] X.H₀ H X.s₀.heap s.heap := by have := J.base; rw [hex] at this; exact this
 refine Fly.on un J.hok hB fly (fun b hb => ?_) up trk old
 have st := J.stack
 rw [hst] at st
 exact (st.mem (List.mem_filterMap.mpr (by
   obtain ⟨env, he, hf⟩ := List.mem_filterMap.mp hb
   exact ⟨env, .tail _ he, hf⟩))).2
end
section
variable {X : Cx} {e : Expr} {es : List Expr} {pos : Pos}
noncomputable abbrev TH := St → Hp → (Hp → Prop) → Prop
end
section
variable {P : Program} {w : World} {K : PySem.W.Frag} {mg : Str → Option Value} {base : Heap} {N : List Str} {qual : Str} {scope : Scope} {f : Addr} {cd : Value} {A : Around} {outer : List Env} {s0 : Shared} {H0 : Hp} {E : XK}
 {pins : List (Addr × Obj)} {σ : St} {H : Hp} {s : Shared}
theorem far_old {X : Cx} (I : Inv X pins σ H s) {b : Addr} {o : Obj} (e : X.s₀.heap.get? b = some o) (n : b ∉ frs X.outer) : b ∉ frs X.stack := fun z => by
 rcases List.mem_cons.mp (I.stkSub b z) with z | z
 · exact absurd (z ▸ Heap.lt_size e) (Nat.not_lt.mpr I.ok.above)
 · exact n z
theorem xe_made {e C : Addr} {vs : List Value} {h' : Heap} (I : Inv (cxOf (CXE P w) P w K mg base N qual scope f cd A outer s0 H0 E) pins σ H s) (hx : Heap.MadeExcOf s.heap h' e (.ref C) vs) (q : E (.ref C) none H) :
   (cxOf (CXE P w) P w K mg base N qual scope f cd A outer s0 H0 E).xe (.ref e) { s with heap := h' } := by
 have hkb : (PySem.W.hideAll s.heap (frs (cxOf (CXE P w) P w K mg base N qual scope f cd A outer s0 H0 E).stack)).StaysIn s.heap := fun b o q => PySem.W.of_hideAll _ q
 refine wpAny_leaves_madeW (base := PySem.W.hideAll s.heap (frs (cxOf (CXE P w) P w K mg base N qual scope f cd A outer s0 H0 E).stack)) (h := s.heap) I.ok.frames rfl hkb
   (PySem.W.funFrames_hide I.stack fun env he b hb => List.mem_filterMap.mpr ⟨env, he, hb⟩) hx fun h2 t fl tup nt up => ?_
 refine ⟨e, .ref C, .ref t, H, _, rfl, I.os, I.bare, fly_leave I rfl rfl rfl hkb ((Heap.UpToSlots.of_keeps hx.keeps).trans up) (fun a o z => ?_) (fun b o z n => ?_) fl, q⟩
 · obtain ⟨ob, k⟩ := (I.hok a o z).is
   exact ⟨ob, PySem.W.hideAll_get _ k fun m => by have := I.stkFree a m; rw [z] at this; cases this⟩
 · obtain ⟨o', k⟩ := I.base.there b o z fun m => nomatch m
   exact ⟨o', PySem.W.hideAll_get _ k (far_old I z n)⟩
theorem xe_pass : Passes (CXE P w) (cxOf (CXE P w) P w K mg base N qual scope f cd A outer s0 H0 E) E := by
 rintro pins σ H s e s' I ⟨ea, cls, a0, H', B, rfl, os, bare, F, q⟩
 have J := I.call' os F.un F.hok bare fun _ z => nomatch z
 refine wpAny_leaves_onW J.ok.frames rfl F.fly fun h2 fl up => ?_
 refine ⟨ea, cls, a0, H', B, rfl, J.os, bare, fly_leave J rfl rfl rfl F.fly.1 up F.trk (fun b o z n => ?_) fl, q⟩
 obtain ⟨o', k⟩ := I.base.there b o z fun m => nomatch m
 exact F.old b o' k (far_old I z n)
theorem ps_raise {x : Str} {C : Addr} {bmB : List Value} {newId nid initId inN B Bn : String} {bmN : List Value} {e0 : Expr} {te' : TA} {np cpos pos : Pos}
   (hcalm : (cxOf (CXE P w) P w K mg base N qual scope f cd A outer s0 H0 E).calm = true) (O : OwnCls x C bmB newId mg base) (Fn : ExcBaseFacts Bn newId inN bmN) (hBn : bmB.contains (.type Bn) = true) (FB : ExcBaseFacts B nid initId bmB)
   (hg : Gl (cxOf (CXE P w) P w K mg base N qual scope f cd A outer s0 H0 E) x) (ha : PA (cxOf (CXE P w) P w K mg base N qual scope f cd A outer s0 H0 E) [e0] te') (hdb : (x == ("__debug__" : Str)) = false := by decide)
   (hs : starEach [e0] (cxOf (CXE P w) P w K mg base N qual scope f cd A outer s0 H0 E).env = [(false, eval e0 (cxOf (CXE P w) P w K mg base N qual scope f cd A outer s0 H0 E).env)] := by rfl) :
   PS (cxOf (CXE P w) P w K mg base N qual scope f cd A outer s0 H0 E) (.Raise (some (.Call (.Name x np) [e0] [] cpos)) none pos) (fun D σ H => te' σ H fun vs H1 => vs.length ≤ 1000 ∧ E (.ref C) none H1) := by
 intro pins s σ H D I h
 obtain ⟨tl, N', nm, q, bs, hdct, sn, sub, ab, col, dd, k0, k1, k2, k3, k5, mN, hC, hN, hni, T⟩ := O.obj
 refine wpAny_Raise_call_subU (k5 := k5) (k3 := k3) (k2 := k2) (k1 := k1) (k0 := k0) (dd := dd) (col := col) (ab := ab) (sub := sub) (sn := sn)
   (hdct := hdct) (bm := tl) (bs := bs) (N := N') (q := q) (nm := nm) (C := C) Fn hBn FB (mN := mN) (T.hasType FB.hasBase) (I.ok.hd hcalm) (by rw [hs]; rfl) hni (ld_glob I hg O.bound ⟨rfl, ?_⟩ hdb)
 have hA := ha cpos pins s σ H _ I h
 rw [hs] at hA ⊢
 refine Calls.evalArgs_plain (thn hA fun us s1 ⟨vs, H1, I1, r, hl, q1⟩ => ?_)
 have hlen := r.length
 exact ⟨rfl, len_small (by rw [← hlen]; exact hl), I1.bk _ _ hC, hN.keeps I1.bk, T.keeps I1.bk, fun h' e hx => xe_made I1 hx q1⟩
end
section
variable {P : Program} {w : World} {K : PySem.W.Frag} {mg : Str → Option Value} {base : Heap}
theorem Fun.okX {x qual : Str} {st : Stmt} {f : Addr} {fd : FuncData} {N ps : List Str} {k : Nat} {sp : Sp} (F : Fun K x qual st f fd) (S : FnScope N ps (defScope st)) (len : ∀ vs H Q E, sp vs H Q E → vs.length = ps.length)
   (hbody : ∀ (cdv : Value) (A : Around) (outer : List Env) (s : Shared) (H : Hp) (vs : List V) (Q : VK) (E : XK), Room k (A.deeper (envOfC qual (defScope st) s.heap.objs.size f cdv)) → sp vs H Q E →
     ∃ t, PSs (cxOf (CXE P w) P w K mg base N qual (defScope st) f cdv A outer s H E) (defBody st) t ∧ t { nx := fun _ H' => Q .non H', rt := Q } (start N vs) H) : FnOk P w K mg base (CXE P w) (k + 1) f fd ps sp := by
 obtain ⟨oc, od, kV, doc, pm, an, cdv, ct, osl, rfl, lk, hcd⟩ := F.ex
 exact fn_of lk hcd S len fun A outer s H vs Q E hr hsp => hbody cdv A outer s H vs Q E hr hsp
noncomputable def GotX (P : Program) (w : World) (K : PySem.W.Frag) (mg : Str → Option Value) (base : Heap) (x : Str) (ps : List Str) (k : Nat) (sp : Sp) : Prop :=
 ∃ f fd, FnOk P w K mg base (CXE P w) k f fd ps sp ∧ Binds K fd ps [] ∧ PySem.W.keepIn K (.ref f) = true ∧ mg x = some (.ref f)
end
section
variable {X : Cx} {st : Stmt} {t : TS}
theorem pe_gotX {x : Str} {ps : List Str} {k k' : Nat} {sp : Sp} {e : Expr} {es : List Expr} {t : TA} {p pos : Pos} {E : XK} (G : GotX X.prog X.w X.K X.mg X.base x ps k sp) (hx : Passes (CXE X.prog X.w) X E) (hr : Room k' X.A) (hk : k ≤ k') (hg : Gl X x) (ha : PA X (e :: es) t)
   (hdb : (x == ("__debug__" : Str)) = false := by decide) (he : starEach (e :: es) X.env = (false, eval e X.env) :: starEach es X.env := by rfl) (hpl : (backTo pos (starEach es X.env)).any (·.1) = false := by rfl) :
   PE X (.Call (.Name x p) (e :: es) [] pos) (tCall sp [] E t) := by
 obtain ⟨f, fd, F, hb, hkp, hm⟩ := G
 exact pe_call (F.mono hk) hr hg hm hkp hb .nil hx ha hdb he hpl
end
section
variable {X : Cx} {pins : List (Addr × Obj)} {σ : St} {H H' : Hp} {s s' : Shared} {ea : Addr} {o' : HO}
noncomputable abbrev Cx.held (X : Cx) (e : Value) : Cx := { X with A := X.A.mark (some e), calm := false, xe := fun _ _ => False }
end
section
variable {X : Cx} {pins : List (Addr × Obj)} {σ : St} {Eh : XK}
end
end L2
namespace L2
open PySem PySem.Spec PySem.Calls PyProof.Rows
section
variable {prog : Program} {w : World} {A : Around} {E : Value → Shared → Prop} {K : PySem.W.Frag} {h : Heap} {g : Array GenState} {d : Drawn} {t : Nat} {os : OsState} {ea C : Addr} {o : Obj}
end
section
variable {X : Cx}
end
end L2
namespace L2
open PySem PySem.Spec PySem.Calls PyProof.Rows
abbrev veB : List Value := [.type "ValueError", .type "Exception", .type "BaseException", .type "object"]
theorem own_cls {K : PySem.W.Frag} {h0 : Heap} {mg : Str → Option Value} {x : Str} {C : Addr} {bmB : List Value} {newId : String} (X : K.In h0) (G : h0.Ns mainGlobals mg)
   (e : PySem.W.nsIn K mainGlobals x = some (some (.ref C))) (q : PySem.W.excIn K C bmB newId = true) : OwnCls x C bmB newId mg h0 := by
 constructor
 · exact PySem.W.mg_of X G e
 · unfold PySem.W.excIn at q
   split at q
   case h_2 => cases q
   rename_i dd cd sl ho
   split at q
   case h_2 => cases q
   rename_i C' bm s0 s1 s2 s3 nn s5 hm hs
   simp only [Bool.and_eq_true, beq_iff_eq, Bool.not_eq_true'] at q
   obtain ⟨⟨⟨⟨⟨q1, q2⟩, q3⟩, q4⟩, q5⟩, q6⟩ := q
   subst q1 q2
   obtain ⟨a1, a2, a3, a4, a5, a6, a7, a8, a9, a10, a11⟩ := cd
   obtain ⟨sl⟩ := sl
   dsimp only at hm hs q3 q5 q6
   subst hm hs q3
   exact ⟨_, _, _, _, _, _, _, _, _, _, _, _, _, _, _, _, _, X _ _ ho, .of_isNs (PySem.W.isNs_of_in X q5), PySem.W.nsMap_none_of_in X q5 q6, PySem.W.tail_of_in X q4⟩
theorem ps_raiseV {P : Program} {w : World} {K : PySem.W.Frag} {mg : Str → Option Value} {base : Heap} {N : List Str} {qual : Str} {scope : Scope} {f : Addr} {cd : Value} {A : Around} {outer : List Env} {s0 : Shared} {H0 : Hp} {E : XK} {x : Str} {C : Addr} {e0 : Expr} {te' : TA} {np cpos pos : Pos}
   (O : OwnCls x C veB "ValueError.__new__" mg base) (hg : Gl (cxOf (CXE P w) P w K mg base N qual scope f cd A outer s0 H0 E) x) (ha : PA (cxOf (CXE P w) P w K mg base N qual scope f cd A outer s0 H0 E) [e0] te') (hdb : (x == ("__debug__" : Str)) = false := by decide)
   (hs : starEach [e0] (cxOf (CXE P w) P w K mg base N qual scope f cd A outer s0 H0 E).env = [(false, eval e0 (cxOf (CXE P w) P w K mg base N qual scope f cd A outer s0 H0 E).env)] := by rfl) :
   PS (cxOf (CXE P w) P w K mg base N qual scope f cd A outer s0 H0 E) (.Raise (some (.Call (.Name x np) [e0] [] cpos)) none pos) (fun D σ H => te' σ H fun vs H1 => vs.length ≤ 1000 ∧ E (.ref C) none H1) :=
 ps_raise rfl O PySem.F.excBase_ValueError (by decide +kernel) PySem.F.excBase_ValueError hg ha hdb hs
end L2
namespace L2
open PySem
end L2
namespace L2
open PySem PySem.Spec PyProof.Rows
section
variable {X : Cx}
end
end L2
namespace L2
open PySem PySem.Spec PyProof.Rows
end L2
namespace L2
open PySem PySem.Spec PyProof.Rows
section
variable {X : Cx}
end
end L2
namespace L2
open PySem PySem.Spec PyProof.Rows
section
variable {κ : Type} [DecidableEq κ]
end
noncomputable abbrev KT (H : Hp) : List (List Key × V) → List (List Key × Addr × Value) → Prop := Paired fun p q => p.1 = q.1 ∧ H q.2.1 = some (.tup (p.1.map kV)) ∧ RelV p.2 q.2.2
section
variable {P : Program} {w : World} {H : Hp} {h : Heap} {a : Addr}
end
section
variable {X : Cx} {pins : List (Addr × Obj)} {σ : St} {H : Hp} {s : Shared} {a : Addr} {y v : V} {u r : Value} {o : Option V} {A : Around} {E : Value → Shared → Prop}
end
section
variable {X : Cx} {pins : List (Addr × Obj)} {σ : St} {H : Hp} {s : Shared} {a : Addr} {kvs : List (Key × V)} {k : Key} {u : Value} {A : Around} {E : Value → Shared → Prop}
end
section
variable {X : Cx} {o i e value : Expr} {pos pos' tpos : Pos} {td ty tv : TE}
end
section
variable {X : Cx} {pos : Pos}
end
noncomputable abbrev VV : List (V × V) → List (Value × Value) → Prop := Paired fun p q => RelV p.1 q.1 ∧ RelV p.2 q.2
section
variable {X : Cx} {pins : List (Addr × Obj)} {σ : St} {H : Hp} {s : Shared} {a : Addr} {y d : V} {u r : Value} {o : Option V} {A : Around} {E : Value → Shared → Prop}
end
section
variable {X : Cx} {o e f : Expr} {apos cpos : Pos} {td ty tx : TE}
end
section
variable {X : Cx} {pins : List (Addr × Obj)} {σ : St} {H : Hp} {s : Shared} {a : Addr} {kvs : List (Key × V)} {A : Around} {E : Value → Shared → Prop}
end
section
variable {X : Cx} {pins : List (Addr × Obj)} {σ : St} {H : Hp} {s : Shared} {a : Addr} {y : V} {u : Value} {A : Around} {E : Value → Shared → Prop}
end
end L2
namespace L2
open PySem PySem.Spec PyProof.Rows
section
variable {X : Cx}
end
section
variable {κ : Type} [DecidableEq κ]
end
end L2
namespace NT
noncomputable def ch : Nat → Nat → Nat
 | _, 0 => 1
 | 0, _ + 1 => 0
 | n + 1, k + 1 => ch n k + ch n (k + 1)
end NT
namespace NT
noncomputable def hv (x : Int) : Int → List Int → Int
 | a, [] => a
 | a, c :: cs => hv x (a * x + c) cs
end NT
namespace NT
end NT
namespace L2
open PySem PySem.Spec PyProof.Rows
mutual
inductive RdV (H : Hp) : V → PyData → Prop where
 | non : RdV H .non .none
 | bl (b : Bool) : RdV H (.bl b) (.bool b)
 | int (i : Int) : RdV H (.int i) (.int i)
 | str (x : Str) : RdV H (.str x) (.str x)
 | tup {a : Addr} {xs : List V} {ds : List PyData} : H a = some (.tup xs) → RdVs H xs ds → RdV H (.ref a) (.tuple ds)
 | lst {a : Addr} {xs : List V} {ds : List PyData} : H a = some (.lst xs) → RdVs H xs ds → RdV H (.ref a) (.list ds)
inductive RdVs (H : Hp) : List V → List PyData → Prop where
 | nil : RdVs H [] []
 | cons {x : V} {d : PyData} {xs : List V} {ds : List PyData} : RdV H x d → RdVs H xs ds → RdVs H (x :: xs) (d :: ds)
end
mutual
theorem RdV.mono {H H' : Hp} (s : Same H H') : ∀ {v : V} {d : PyData}, RdV H v d → RdV H' v d
 | _, _, .non => .non
 | _, _, .bl b => .bl b
 | _, _, .int i => .int i
 | _, _, .str x => .str x
 | _, _, .tup e r => .tup (s _ _ e) (RdVs.mono s r)
 | _, _, .lst e r => .lst (s _ _ e) (RdVs.mono s r)
theorem RdVs.mono {H H' : Hp} (s : Same H H') : ∀ {vs : List V} {ds : List PyData}, RdVs H vs ds → RdVs H' vs ds
 | _, _, .nil => .nil
 | _, _, .cons h r => .cons (RdV.mono s h) (RdVs.mono s r)
end
theorem RdVs.length {H : Hp} : ∀ {vs : List V} {ds : List PyData}, RdVs H vs ds → vs.length = ds.length
 | _, _, .nil => rfl
 | _, _, .cons _ r => by simp [RdVs.length r]
theorem RdVs.get {H : Hp} : ∀ {vs : List V} {ds : List PyData} {i : Nat} {x : V}, RdVs H vs ds → vs[i]? = some x → ∃ d, ds[i]? = some d ∧ RdV H x d
 | _, _, 0, _, .cons h _, e => by cases e; exact ⟨_, rfl, h⟩
 | _, _, i + 1, x, .cons _ r, e => RdVs.get (i := i) r e
 | _, _, _, _, .nil, e => by cases e
theorem RdVs.get' {H : Hp} : ∀ {vs : List V} {ds : List PyData} {i : Nat} {d : PyData}, RdVs H vs ds → ds[i]? = some d → ∃ x, vs[i]? = some x ∧ RdV H x d
 | _, _, 0, _, .cons h _, e => by cases e; exact ⟨_, rfl, h⟩
 | _, _, i + 1, x, .cons _ r, e => RdVs.get' (i := i) r e
 | _, _, _, _, .nil, e => by cases e
theorem RdVs.append {H : Hp} : ∀ {vs ws : List V} {ds es : List PyData}, RdVs H vs ds → RdVs H ws es → RdVs H (vs ++ ws) (ds ++ es)
 | _, _, _, _, .nil, s => s
 | _, _, _, _, .cons h r, s => .cons h (RdVs.append r s)
section
variable {X : Cx} {pins : List (Addr × Obj)} {σ : St} {H : Hp} {s : Shared}
mutual
theorem RdV.reads (I : Inv X pins σ H s) : ∀ {v : V} {d : PyData} {u : Value}, RdV H v d → RelV v u → ∃ as, Reads s.heap u d as
 | _, _, _, .non, r => by cases (show _ = Value.none from r); exact ⟨_, .none⟩
 | _, _, _, .bl b, r => by cases (show _ = Value.bool b from r); exact ⟨_, .bool b⟩
 | _, _, _, .int i, r => by obtain ⟨t, rfl⟩ := (show ∃ t, _ = Value.int i t from r); exact ⟨_, .int i t⟩
 | _, _, _, .str x, r => by obtain ⟨t, rfl⟩ := (show ∃ t, _ = Value.str x t from r); exact ⟨_, .str x t⟩
 | _, _, _, @RdV.tup _ a xs ds e q, r => by
   cases (show _ = Value.ref a from r)
   obtain ⟨_, its, rv, o, h1, h2, n, h3⟩ := (show ObjOk X.prog X.w H s.heap a (.tup xs) from I.hok a _ e)
   obtain ⟨as, z⟩ := RdVs.reads I q rv
   exact ⟨as, reads_tuple_at h1 h2 h3 (by simpa using z)⟩
 | _, _, _, @RdV.lst _ a xs ds e q, r => by
   cases (show _ = Value.ref a from r)
   obtain ⟨_, its, n, rv, h1⟩ := (show ObjOk X.prog X.w H s.heap a (.lst xs) from I.hok a _ e)
   obtain ⟨as, z⟩ := RdVs.reads I q rv
   exact ⟨_, reads_list_at h1 rfl rfl (by simpa using z)⟩
theorem RdVs.reads (I : Inv X pins σ H s) : ∀ {vs : List V} {ds : List PyData} {us : List Value}, RdVs H vs ds → Vals vs us → ∃ as, ReadsAll s.heap us ds as
 | _, _, _, .nil, .nil => ⟨_, .nil⟩
 | _, _, _, .cons h r, .cons a b => by
   obtain ⟨as, z⟩ := RdV.reads I h a
   obtain ⟨bs, y⟩ := RdVs.reads I r b
   exact ⟨_, .cons z y⟩
end
end
noncomputable def rEqD (neg : Bool) : R2 := fun x y H Q => ∃ d e : PyData, RdV H x d ∧ RdV H y e ∧ d.canLay0 = true ∧ e.canLay0 = true ∧ (d.depth ≤ 180 ∨ e.depth ≤ 180) ∧ Q (.bl (if neg then !PyData.eqv d e else PyData.eqv d e)) H
section
variable {X : Cx}
theorem op_neD (hu : X.A.units + 200 < cLine) : OpR X (compareOp .NotEq) (rEqD true) := by
 intro pins s σ H x y v u Q I rx ry h
 obtain ⟨d, e, hx, hy, cd, ce, de, q⟩ := h
 obtain ⟨as, r1⟩ := hx.reads I rx
 obtain ⟨bs, r2⟩ := hy.reads I ry
 exact SeqAt.compareNe_reads r1 r2 cd ce (by omega) ⟨.bl _, H, I, rfl, q⟩
end
theorem Room.units200 {k : Nat} {A : Around} (r : Room k A) : A.units + 200 < cLine := by have := r.un; omega
section
variable {X : Cx}
end
end L2
namespace L2
open PySem PySem.Spec PyProof.Rows
noncomputable def two : PyData := .tuple [.str "two"]
noncomputable def rootP (p g : Int) (ps : List PyData) : PyData := .tuple [.str "root", .int p, .int g, .list ps]
noncomputable def partP (t : PyData) (k : Int) : PyData := .tuple [t, .int k]
noncomputable def IsP (B : Nat) : Nat → PyData → Prop
 | 0, _ => False
 | n + 1, d => d = two ∨ ∃ (p g : Int) (ps : List PyData), d = rootP p g ps ∧ ps.length ≤ B ∧ ∀ x ∈ ps, ∃ (t : PyData) (k : Int), x = partP t k ∧ IsP B n t
theorem IsP.mono {B B' : Nat} (hB : B ≤ B') : ∀ {n n' : Nat} {d : PyData}, n ≤ n' → IsP B n d → IsP B' n' d
 | 0, _, _, _, h => absurd h (by simp [IsP])
 | n + 1, n' + 1, d, hn, h => by
   rcases h with h | ⟨p, g, ps, e, l, q⟩
   · exact .inl h
   · refine .inr ⟨p, g, ps, e, Nat.le_trans l hB, fun x hx => ?_⟩
     obtain ⟨t, k, e, r⟩ := q x hx
     exact ⟨t, k, e, IsP.mono hB (by omega) r⟩
noncomputable def numP : PyData → Int
 | .tuple [_, .int p, _, _] => p
 | _ => 2
noncomputable def psP : PyData → List PyData
 | .tuple [_, _, _, .list ps] => ps
 | _ => []
noncomputable def fstP : PyData → PyData
 | .tuple (t :: _) => t
 | d => d
noncomputable def wi : Nat → PyData → Int
 | 0, _ => 0
 | n + 1, d => 1 + ((psP d).map fun x => wi n (fstP x)).sum
noncomputable def mx : List Int → Int
 | [] => 0
 | x :: r => if mx r < x then x else mx r
noncomputable def dp : Nat → PyData → Int
 | 0, _ => 0
 | n + 1, d => 1 + mx ((psP d).map fun x => dp n (fstP x))
theorem canLayAll_of {ds : List PyData} (h : ∀ x ∈ ds, PyData.canLay0 x = true) : PyData.canLayAll0 ds = true := by
 induction ds with
 | nil => rfl
 | cons d ds ih =>
   rw [PyData.canLayAll0, h d (.head _), ih fun x hx => h x (.tail _ hx)]; rfl
theorem depthAll_of {ds : List PyData} {n : Nat} (h : ∀ x ∈ ds, x.depth ≤ n) : PyData.depthAll ds ≤ n := by
 induction ds with
 | nil => simp [PyData.depthAll]
 | cons d ds ih =>
   have h1 := h d (.head _)
   have h2 := ih fun x hx => h x (.tail _ hx)
   rw [PyData.depthAll]
   omega
theorem IsP.lay {B : Nat} : ∀ {n : Nat} {d : PyData}, IsP B n d → d.canLay0 = true ∧ d.depth ≤ 3 * n
 | 0, _, h => absurd h (by simp [IsP])
 | n + 1, d, h => by
   rcases h with rfl | ⟨p, g, ps, rfl, l, q⟩
   · refine ⟨by decide +kernel, ?_⟩
     have : two.depth = 1 := by decide +kernel
     omega
   · have a1 : PyData.canLayAll0 ps = true := canLayAll_of fun x hx => by
       obtain ⟨t, k, rfl, r⟩ := q x hx
       have := (IsP.lay r).1
       simp [partP, PyData.canLay0, PyData.canLayAll0, this]
     have a2 : PyData.depthAll ps ≤ 3 * n + 1 := depthAll_of fun x hx => by
       obtain ⟨t, k, rfl, r⟩ := q x hx
       have := (IsP.lay r).2
       simp [partP, PyData.depth, PyData.depthAll]
       omega
     refine ⟨?_, ?_⟩
     · have : PyData.strOk "root" = true := by decide +kernel
       simp [rootP, PyData.canLay0, PyData.canLayAll0, this, a1]
     · simp [rootP, PyData.depth, PyData.depthAll]
       omega
theorem rd_tupI {H : Hp} {v : V} {ds : List PyData} (h : RdV H v (.tuple ds)) : ∃ a xs, v = .ref a ∧ H a = some (.tup xs) ∧ RdVs H xs ds := by
 cases h with
 | tup e r => exact ⟨_, _, rfl, e, r⟩
theorem rd_lstI {H : Hp} {v : V} {ds : List PyData} (h : RdV H v (.list ds)) : ∃ a xs, v = .ref a ∧ H a = some (.lst xs) ∧ RdVs H xs ds := by
 cases h with
 | lst e r => exact ⟨_, _, rfl, e, r⟩
theorem rd_consI {H : Hp} {xs : List V} {d : PyData} {ds : List PyData} (h : RdVs H xs (d :: ds)) : ∃ x ys, xs = x :: ys ∧ RdV H x d ∧ RdVs H ys ds := by
 cases h with
 | cons a b => exact ⟨_, _, rfl, a, b⟩
theorem rd_nilI {H : Hp} {xs : List V} (h : RdVs H xs []) : xs = [] := by
 cases h
 rfl
theorem rd_intI {H : Hp} {v : V} {i : Int} (h : RdV H v (.int i)) : v = .int i := by
 cases h
 rfl
theorem rd_strI {H : Hp} {v : V} {x : Str} (h : RdV H v (.str x)) : v = .str x := by
 cases h
 rfl
theorem rd_two {H : Hp} {v : V} (h : RdV H v two) : ∃ a, v = .ref a ∧ H a = some (.tup [.str "two"]) := by
 obtain ⟨a, _, rfl, e, r⟩ := rd_tupI h
 obtain ⟨_, _, rfl, h1, r⟩ := rd_consI r
 obtain rfl := rd_nilI r
 obtain rfl := rd_strI h1
 exact ⟨a, rfl, e⟩
theorem rd_root {H : Hp} {v : V} {p g : Int} {ps : List PyData} (h : RdV H v (rootP p g ps)) : ∃ a b xs, v = .ref a ∧ H a = some (.tup [.str "root", .int p, .int g, .ref b]) ∧ H b = some (.lst xs) ∧ RdVs H xs ps := by
 obtain ⟨a, _, rfl, e, r⟩ := rd_tupI h
 obtain ⟨_, _, rfl, h1, r⟩ := rd_consI r
 obtain ⟨_, _, rfl, h2, r⟩ := rd_consI r
 obtain ⟨_, _, rfl, h3, r⟩ := rd_consI r
 obtain ⟨_, _, rfl, h4, r⟩ := rd_consI r
 obtain rfl := rd_nilI r
 obtain rfl := rd_strI h1
 obtain rfl := rd_intI h2
 obtain rfl := rd_intI h3
 obtain ⟨b, xs, rfl, e4, r4⟩ := rd_lstI h4
 exact ⟨a, b, xs, rfl, e, e4, r4⟩
theorem rd_part {H : Hp} {v : V} {t : PyData} {k : Int} (h : RdV H v (partP t k)) : ∃ a x, v = .ref a ∧ H a = some (.tup [x, .int k]) ∧ RdV H x t := by
 obtain ⟨a, _, rfl, e, r⟩ := rd_tupI h
 obtain ⟨x, _, rfl, h1, r⟩ := rd_consI r
 obtain ⟨_, _, rfl, h2, r⟩ := rd_consI r
 obtain rfl := rd_nilI r
 obtain rfl := rd_intI h2
 exact ⟨a, x, rfl, e, h1⟩
theorem two_rd {H : Hp} {a : Addr} (e : H a = some (.tup [.str "two"])) : RdV H (.ref a) two := .tup e (.cons (.str _) .nil)
theorem root_rd {H : Hp} {a b : Addr} {p g : Int} {xs : List V} {ps : List PyData} (e : H a = some (.tup [.str "root", .int p, .int g, .ref b])) (e2 : H b = some (.lst xs)) (r : RdVs H xs ps) : RdV H (.ref a) (rootP p g ps) :=
 .tup e (.cons (.str _) (.cons (.int _) (.cons (.int _) (.cons (.lst e2 r) .nil))))
theorem part_rd {H : Hp} {a : Addr} {x : V} {t : PyData} {k : Int} (e : H a = some (.tup [x, .int k])) (r : RdV H x t) : RdV H (.ref a) (partP t k) := .tup e (.cons r (.cons (.int _) .nil))
end L2
namespace L2
open PySem PySem.Spec PySem.Calls PyProof.Rows
section
variable {X : Cx}
theorem mt_sIndex : MtM X "str.index" (fun x vs H Q => ∃ (z y : Str) (i : Nat) (rest : List Nat), x = .str z ∧ vs = [.str y] ∧ Builtin.Str.occurrences z y 0 z.length 1 = i :: rest ∧ Q (.int i) H) := by
 intro pins s σ H x vs v us Q I rx rv h
 obtain ⟨z, y, i, rest, rfl, rfl, ho, q⟩ := h
 obtain ⟨t, rfl⟩ := rx
 obtain ⟨u, rfl, t', rfl⟩ := vals1 rv
 exact SC.index ho ⟨.int i, H, I.tok _, ⟨_, rfl⟩, q⟩
theorem mt_sStart3 : MtM X "str.startswith" (fun x vs H Q => ∃ (z y : Str) (i : Int), x = .str z ∧ vs = [.str y, .int i] ∧ Q (.bl (Txt.startswith3 z y i)) H) := by
 intro pins s σ H x vs v us Q I rx rv h
 obtain ⟨z, y, i, rfl, rfl, q⟩ := h
 obtain ⟨t, rfl⟩ := rx
 obtain ⟨u, w', rfl, ⟨t1, rfl⟩, ⟨t2, rfl⟩⟩ := vals2 rv
 exact SC.startswith3 ⟨.bl _, H, I, rfl, q⟩
theorem strs_are : ∀ {ts : List Str} {us : List Value}, Vals (ts.map V.str) us → ∃ l : List (Str × Tok), us = strValues l ∧ l.map (·.1) = ts
 | [], _, .nil => ⟨[], rfl, rfl⟩
 | t :: ts, _, .cons r rr => by
   obtain ⟨k, rfl⟩ := r
   obtain ⟨l, e, h⟩ := strs_are rr
   exact ⟨(t, k) :: l, by rw [e]; rfl, by rw [List.map_cons, h]⟩
theorem mt_sJoin : MtM X "str.join" (fun x vs H Q => ∃ (z : Str) (l : Addr) (ts : List Str), x = .str z ∧ vs = [.ref l] ∧ H l = some (.lst (ts.map V.str)) ∧ JoinOk z ts = true ∧ Q (.str (Txt.join z ts)) H) := by
 intro pins s σ H x vs v us Q I rx rv h
 obtain ⟨z, l, ts, rfl, rfl, hH, hok, q⟩ := h
 obtain ⟨t, rfl⟩ := rx
 obtain ⟨u, rfl, rfl⟩ := vals1 rv
 obtain ⟨_, its, n, r, hl, e⟩ := I.lstM hH
 obtain ⟨ls, rfl, hs⟩ := strs_are r
 exact SC.join (l := ls) ⟨_, e, rfl, n, rfl⟩ hs hok fun t' k => ⟨.str _, H, I.tok _, ⟨_, rfl⟩, q⟩
theorem pe_fmt {e : Expr} {te : TE} {pos : Pos} (he : PE X e te) : PE X (.FormattedValue e (-1) none pos) (fun σ H Q => te σ H fun v H1 => (∃ i : Int, v = .int i ∧ i.natAbs.log2 < 1920 ∧ Q (.str (toString i)) H1) ∨ ∃ z : Str, v = .str z ∧ z.length ≤ sizeLine ∧ Q (.str z) H1) := by
 intro pins s σ H Q I h
 refine FormattedValue_plain (thn (he pins s σ H _ I h) fun v s1 ⟨x, H1, I1, r, q⟩ => ?_)
 rcases q with ⟨i, rfl, hz, q⟩ | ⟨z, rfl, hz, q⟩
 · obtain ⟨t, rfl⟩ := r
   exact formatField_int_small hz ⟨.str _, H1, I1.tok _, ⟨_, rfl⟩, q⟩
 · obtain ⟨t, rfl⟩ := r
   exact formatField_str (fun t' tk => ⟨.str _, H1, I1.tok _, ⟨_, rfl⟩, q⟩) hz
noncomputable def PJv (X : Cx) (es : List Expr) (t : Str → St → Hp → VK → Prop) : Prop := ∀ (pins : List (Addr × Obj)) (s : Shared) (σ : St) (H : Hp) (Q : VK) (out : Str), Inv X pins σ H s → t out σ H Q → wpAny (model X.prog X.w) X.A (joinParts out (evalEach es X.env)) (EP X pins σ Q) X.xe s
theorem pjv_nil : PJv X [] (fun out _ H Q => out.length ≤ sizeLine ∧ Q (.str out) H) := fun _ _ _ H _ _ I q => joinParts_nilE (joinParts_nil ⟨.str _, H, I.tok _, ⟨_, rfl⟩, q.2⟩ q.1)
theorem pjv_cons {e : Expr} {es : List Expr} {te : TE} {u : Str → St → Hp → VK → Prop} (h1 : PE X e te) (h2 : PJv X es u) : PJv X (e :: es) (fun out σ H Q => te σ H fun v H1 => ∃ y : Str, v = .str y ∧ (out ++ y).length ≤ sizeLine ∧ u (out ++ y) σ H1 Q) := by
 intro pins s σ H Q out I h
 refine joinParts_consE (joinParts_cons (thn (h1 pins s σ H _ I h) fun v s1 ⟨x, H1, I1, r, y, e1, hy, q⟩ => ?_))
 subst e1
 obtain ⟨t, rfl⟩ := r
 exact ⟨hy, h2 pins s1 σ H1 Q _ I1 q⟩
theorem pe_fstr {v1 v2 : Expr} {rest : List Expr} {pos : Pos} {t : Str → St → Hp → VK → Prop} (h : PJv X (v1 :: v2 :: rest) t) : PE X (.JoinedStr (v1 :: v2 :: rest) pos) (fun σ H Q => t Str.empty σ H Q) := fun pins s σ H Q I q => JoinedStr_many (h pins s σ H Q _ I q)
end
end L2
namespace L2
open PySem PySem.Spec PySem.Calls PyProof.Rows
section
variable {X : Cx}
theorem upd_id {H : Hp} {a : Addr} {o : HO} (h : H a = some o) : upd H a o = H := by
 funext b
 unfold upd
 split
 · rename_i e; rw [e, h]
 · rfl
theorem part_of {v : Value} {o : Option Int} (h : IsPart v o) : ∃ l : Option (Int × Tok), v = partValue l ∧ l.map (·.1) = o := by
 cases h with
 | none => exact ⟨none, rfl, rfl⟩
 | int i t => exact ⟨some (i, t), rfl, rfl⟩
theorem sl_str : SlR X (fun x lo hi H Q => ∃ z : Str, x = .str z ∧ z.length ≤ sizeLine ∧ Q (.str (Txt.slice z lo hi)) H) := by
 intro pins s σ H x v vl vu lo hi sl Q I rx hs pl pu h
 obtain ⟨z, rfl, hz, q⟩ := h
 obtain ⟨t, rfl⟩ := rx
 obtain ⟨l, rfl, rfl⟩ := part_of pl
 obtain ⟨u, rfl, rfl⟩ := part_of pu
 refine ⟨"str", _, F.slot_str_getitem.lookup, typeIs_str _ _ _, ?_⟩
 refine wpAny_getItem_str_slice (l := l) (u := u) (st := none) hs rfl ?_
 exact post_val_or_str (y := z) ⟨Nat.le_trans (Txt.slice_le z _ _) hz, fun t' k => ⟨.str (Txt.slice z _ _), H, I.tok _, ⟨_, rfl⟩, q⟩⟩
noncomputable def Itx (z : Str) : It := ⟨fun i _ => i < z.length, fun i H x H' => H' = H ∧ ∃ c, z.cps[i]? = some c ∧ x = .str ⟨#[c]⟩, fun i _ => z.length ≤ i⟩
theorem turn_strA {P : Program} {w : World} {K : PySem.W.Frag} {tg : Expr} (z : Str) (t : Tok) (it : Addr) : Turn P w K tg (Itx z) [it] it (fun i h => i ≤ z.length ∧ h.IsStrIter it "str_ascii_iterator" z t i) where
 mem := by simp
 obj := fun i h st b hb => by
   have e : b = it := by simpa using hb
   subst e
   obtain ⟨_, o, e, c, d⟩ := st
   exact ⟨o, e, fun v z => by rw [d] at z; cases z⟩
 keep := fun i h h' st k => let ⟨hi, o, ho, r⟩ := st; ⟨hi, o, k it (by simp) o ho, r⟩
 item := by
   intro X hP hw hK hc i pins s σ H E I hf st hg
   subst hP hw hK
   have hg : i < z.cps.size := hg
   obtain ⟨f0, f1, f2, f3, f4, f5⟩ := hf it (by simp)
   refine wpAny_pyNext_ascii_item st.2 (c := z.cps[i]) (by simp [hg]) fun h' st' sb => ?_
   have I1 : Inv X pins σ H { s with heap := h', toks := s.toks + 1 } := I.turned (fun b o hb e => (sb.2 b hb).trans e) f0 f1 f3 f4 f5
   obtain ⟨o, e, c, d⟩ := id st'
   exact ⟨_, rfl, go_of (s := { s with heap := h', toks := s.toks + 1 }) e c d (by decide) ⟨.str ⟨#[z.cps[i]]⟩, H, I1, ⟨_, rfl⟩, ⟨rfl, _, by simp [hg], rfl⟩, ⟨hg, st'⟩, fun b hb => (hf b hb).1⟩⟩
 done := by
   intro X hP hw hK hc i pins s σ H E I hf st hg
   subst hP hw hK
   have hg : z.cps.size ≤ i := hg
   obtain ⟨f0, f1, f2, f3, f4, f5⟩ := hf it (by simp)
   exact wpAny_pyNext_ascii_end (I.ok.hd hc) st.2 (by simp [hg]) fun h' eb => ⟨rfl, I.turned (t' := s.toks) (fun b o hb e => eb b o hb e) f0 f1 f3 f4 f5⟩
 self := fun _ _ _ _ _ st h => wpAny_pyIter_striter_ascii st.2 h
theorem turn_strW {P : Program} {w : World} {K : PySem.W.Frag} {tg : Expr} (z : Str) (t : Tok) (it : Addr) : Turn P w K tg (Itx z) [it] it (fun i h => i ≤ z.length ∧ h.IsStrIter it "str_iterator" z t i) where
 mem := by simp
 obj := fun i h st b hb => by
   have e : b = it := by simpa using hb
   subst e
   obtain ⟨_, o, e, c, d⟩ := st
   exact ⟨o, e, fun v z => by rw [d] at z; cases z⟩
 keep := fun i h h' st k => let ⟨hi, o, ho, r⟩ := st; ⟨hi, o, k it (by simp) o ho, r⟩
 item := by
   intro X hP hw hK hc i pins s σ H E I hf st hg
   subst hP hw hK
   have hg : i < z.cps.size := hg
   obtain ⟨f0, f1, f2, f3, f4, f5⟩ := hf it (by simp)
   refine wpAny_pyNext_wide_item st.2 (c := z.cps[i]) (by simp [hg]) fun h' st' sb => ?_
   have I1 : Inv X pins σ H { s with heap := h', toks := s.toks + 1 } := I.turned (fun b o hb e => (sb.2 b hb).trans e) f0 f1 f3 f4 f5
   obtain ⟨o, e, c, d⟩ := id st'
   exact ⟨_, rfl, go_of (s := { s with heap := h', toks := s.toks + 1 }) e c d (by decide) ⟨.str ⟨#[z.cps[i]]⟩, H, I1, ⟨_, rfl⟩, ⟨rfl, _, by simp [hg], rfl⟩, ⟨hg, st'⟩, fun b hb => (hf b hb).1⟩⟩
 done := by
   intro X hP hw hK hc i pins s σ H E I hf st hg
   subst hP hw hK
   have hg : z.cps.size ≤ i := hg
   obtain ⟨f0, f1, f2, f3, f4, f5⟩ := hf it (by simp)
   exact wpAny_pyNext_wide_end (I.ok.hd hc) st.2 (by simp [hg]) fun h' eb => ⟨rfl, I.turned (t' := s.toks) (fun b o hb e => eb b o hb e) f0 f1 f3 f4 f5⟩
 self := fun _ _ _ _ _ st h => wpAny_pyIter_striter_wide st.2 h
noncomputable def iStr (tl : TE) : TI := fun σ H R => tl σ H fun x H1 => ∃ z, x = .str z ∧ R (Itx z) H1
theorem pi_str {tg l : Expr} {tl : TE} (hl : PE X l tl) : PI X tg l (iStr tl) := by
 intro pins s σ H R I h
 refine thn (hl pins s σ H _ I h) fun v s1 ⟨x, H1, I1, r1, q1⟩ => ?_
 obtain ⟨z, rfl, q⟩ := q1
 obtain ⟨t, rfl⟩ := r1
 have fp : ∀ (T : String), ∀ b ∈ [s1.heap.objs.size], FpOk X pins H1 b := fun T b hb => by
   have e : b = s1.heap.objs.size := by simpa using hb
   subst e
   exact I1.fpOk (Nat.le_refl _) (I1.hok.fresh (Nat.le_refl _))
 cases ha : z.cps.all (· < 128)
 · refine wpAny_pyIter_wide ha ?_
   exact ⟨s1.heap.objs.size, [s1.heap.objs.size], _, _, H1, rfl, I1.kept (t' := s1.toks) fun b o e => Heap.get?_push_of_some _ e, turn_strW z t _, ⟨Nat.zero_le _, _, Heap.get?_push_size _ rfl, rfl, rfl⟩, fp "", q⟩
 · refine wpAny_pyIter_ascii ha ?_
   exact ⟨s1.heap.objs.size, [s1.heap.objs.size], _, _, H1, rfl, I1.kept (t' := s1.toks) fun b o e => Heap.get?_push_of_some _ e, turn_strA z t _, ⟨Nat.zero_le _, _, Heap.get?_push_size _ rfl, rfl, rfl⟩, fp "", q⟩
theorem for_str {z : Str} {g : TG} {tb : TS} {D : Ends} {σ : St} {H : Hp} (Pv : Nat → St → Hp → Prop) (h0 : Pv 0 σ H)
   (hs : ∀ i c σ H, z.cps[i]? = some c → Pv i σ H → g (.str ⟨#[c]⟩) σ H fun σ2 H2 => tb { D with nx := Pv (i + 1), ct := Pv (i + 1), bk := D.nx } σ2 H2) (hd : ∀ σ H, Pv z.length σ H → D.nx σ H) :
   ∃ W : Nat → Nat → St → Hp → Prop, (∃ m, W 0 m σ H) ∧ ∀ i m σ H, W i m σ H →
     ((Itx z).stop i H ∧ D.nx σ H) ∨ ((Itx z).go i H ∧ ∃ N : St → Hp → Prop, (∀ σ' H', N σ' H' → ∃ m', m' < m ∧ W (i + 1) m' σ' H') ∧ ∀ x H', (Itx z).yld i H x H' → g x σ H' fun σ2 H2 => tb { D with nx := N, ct := N, bk := D.nx } σ2 H2) := by
 refine ⟨fun i m σ H => m = z.length - i ∧ i ≤ z.length ∧ Pv i σ H, ⟨z.length, by simp, Nat.zero_le _, h0⟩, ?_⟩
 rintro i m σ H ⟨rfl, hi, p⟩
 by_cases hlt : i < z.length
 · refine .inr ⟨hlt, Pv (i + 1), fun σ' H' p' => ⟨z.length - (i + 1), by omega, rfl, hlt, p'⟩, fun x H' y => ?_⟩
   obtain ⟨e, c, hc, rfl⟩ := y
   subst e
   exact hs i c σ _ hc p
 · have e : i = z.length := by omega
   subst e
   exact .inl ⟨Nat.le_refl _, hd σ H p⟩
theorem pe_fmtR {e : Expr} {te : TE} {pos : Pos} (he : PE X e te) : PE X (.FormattedValue e 114 none pos) (fun σ H Q => te σ H fun v H1 => ∃ z : Str, v = .str z ∧ (∀ c ∈ z.cps.toList, c < 16 ^ 8) ∧ 10 * z.length + 2 ≤ sizeLine ∧ Q (.str (reprText z)) H1) := by
 intro pins s σ H Q I h
 show wpAny _ _ (do let v ← eval e X.env; standAt pos; formatted pos (← holding [v] (converted 114 v)) none) _ _ s
 refine wpAny_bind (thn (he pins s σ H _ I h) fun v s1 ⟨x, H1, I1, r, z, e1, hc, hz, q⟩ => ?_)
 subst e1
 obtain ⟨t, rfl⟩ := r
 have hl := StrLaws.reprText_len z hc
 refine wpAny_bind (wpAny_standAt ?_)
 refine wpAny_bind (wpAny_holding (wpAny_pyReprObj_str ?_ (by omega)))
 rw [show formatted pos (.str (reprText z) s1.toks) none = formatField (.str (reprText z) s1.toks) Str.empty by unfold formatted; rfl]
 exact formatField_str (fun t' tk => ⟨.str _, H1, (I1.tok _).tok _, ⟨_, rfl⟩, q⟩) (by omega)
theorem xe_not : Passes (CXE X.prog X.w) X (fun _ _ _ => False) := by
 intro pins σ H s e s' I h
 obtain ⟨_, _, _, _, _, _, _, _, _, z⟩ := h
 exact z.elim
noncomputable def GotM (CX : CXT) (P : Program) (w : World) (K : PySem.W.Frag) (mg : Str → Option Value) (base : Heap) (C : Addr) (m : Str) (ps : List Str) (k : Nat) (sp : Sp) : Prop :=
 ∃ f fd, FnOk P w K mg base CX k f fd ps sp ∧ Binds K fd ps [] ∧ Meth K C m f
noncomputable def GotMk (CX : CXT) (P : Program) (w : World) (K : PySem.W.Frag) (mg : Str → Option Value) (base : Heap) (C : Addr) (x : Str) (ps : List Str) (k : Nat) (sp : Sp) : Prop :=
 ∃ f fd, FnOk P w K mg base CX k f fd ps sp ∧ Binds K fd ps [] ∧ Mk K C f ∧ mg x = some (.ref C)
theorem pe_gotM {CX : CXT} {C : Addr} {m : Str} {ps : List Str} {k k' : Nat} {sp : Sp} {o e : Expr} {es : List Expr} {ta : TE} {t : TA} {apos pos : Pos} {E : XK} {pl : Sem Bool} (G : GotM CX X.prog X.w X.K X.mg X.base C m ps k sp) (c : Cls X.K C) (hx : Passes CX X E) (hr : Room k' X.A) (hk : k ≤ k') (he : PE X o ta) (ha : PA X (e :: es) t)
   (hst : starEach (e :: es) X.env = (false, eval e X.env) :: starEach es X.env := by rfl) (hpl : (backTo pos (starEach es X.env)).any (·.1) = false := by rfl)
   (ht : eval (.Call (.Attribute o m apos) (e :: es) [] pos) X.env = (do
     let ov ← eval o X.env
     standAt apos.atName
     let (f, first) ← holding [ov] (getMethod ov m pl)
     callWith pos f first (backTo pos (starEach (e :: es) X.env)) (backToKw pos (keywordEach [] X.env))) := by rfl) :
   PE X (.Call (.Attribute o m apos) (e :: es) [] pos) (tMeth C m sp [] E ta t) := by
 obtain ⟨f, fd, F, hb, hm⟩ := G
 exact pe_meth (pl := pl) he c hm F (hr.mono hk) hb .nil hx ha hst hpl ht
theorem pe_gotM0 {CX : CXT} {C : Addr} {m : Str} {ps : List Str} {k k' : Nat} {sp : Sp} {o : Expr} {ta : TE} {apos pos : Pos} {E : XK} {pl : Sem Bool} (G : GotM CX X.prog X.w X.K X.mg X.base C m ps k sp) (c : Cls X.K C) (hx : Passes CX X E) (hr : Room k' X.A) (hk : k ≤ k') (he : PE X o ta)
   (ht : eval (.Call (.Attribute o m apos) [] [] pos) X.env = (do
     let ov ← eval o X.env
     standAt apos.atName
     let (f, first) ← holding [ov] (getMethod ov m pl)
     callWith pos f first (backTo pos (starEach [] X.env)) (backToKw pos (keywordEach [] X.env))) := by rfl) :
   PE X (.Call (.Attribute o m apos) [] [] pos) (tMeth C m sp [] E ta tNil) := by
 obtain ⟨f, fd, F, hb, hm⟩ := G
 exact pe_meth0 (pl := pl) he c hm F (hr.mono hk) hb .nil hx ht
theorem pe_gotMk {CX : CXT} {C : Addr} {x : Str} {ps : List Str} {k k' : Nat} {sp : Sp} {e : Expr} {es : List Expr} {t : TA} {p pos : Pos} {E : XK} (G : GotMk CX X.prog X.w X.K X.mg X.base C x ps k sp) (hx : Passes CX X E) (hr : Room k' X.A) (hk : k + 1 ≤ k') (hg : Gl X x) (ha : PA X (e :: es) t)
   (hdb : (x == ("__debug__" : Str)) = false := by decide) (he : starEach (e :: es) X.env = (false, eval e X.env) :: starEach es X.env := by rfl) (hpl : (backTo pos (starEach es X.env)).any (·.1) = false := by rfl) :
   PE X (.Call (.Name x p) (e :: es) [] pos) (tMake C sp [] E t) := by
 obtain ⟨f, fd, F, hb, M, hm⟩ := G
 exact pe_make M F (hr.mono hk) hg hm hb .nil hx ha hdb he hpl
end
end L2
namespace TX
open PySem L2
noncomputable def isD (c : Nat) : Bool := decide (48 ≤ c) && decide (c ≤ 57)
noncomputable def dg (n : Nat) : List Nat := (Nat.toDigits 10 n).map Char.toNat
noncomputable def val (l : List Nat) : Nat := l.foldl (fun a c => a * 10 + (c - 48)) 0
noncomputable def okN : List Nat → Bool
 | [] => false
 | [_] => true
 | c :: _ => c != 48
theorem digc : ∀ n, n < 10 → (Nat.digitChar n).toNat = 48 + n := by decide
theorem dg_lt {n : Nat} (h : n < 10) : dg n = [48 + n] := by
 unfold dg
 rw [Nat.toDigits_of_lt_base h]
 simp [digc n h]
theorem dg_ge {n : Nat} (h : 10 ≤ n) : dg n = dg (n / 10) ++ [48 + n % 10] := by
 unfold dg
 rw [Nat.toDigits_of_base_le (by decide) h, List.map_append]
 simp [digc (n % 10) (Nat.mod_lt _ (by decide))]
theorem dg_isD (n : Nat) : ∀ c ∈ dg n, isD c = true := by
 induction n using Nat.strongRecOn with
 | ind n ih =>
   by_cases h : n < 10
   · rw [dg_lt h]
     intro c hc
     have : c = 48 + n := by simpa using hc
     subst this
     simp [isD]; omega
   · rw [dg_ge (by omega)]
     intro c hc
     rcases List.mem_append.mp hc with z | z
     · exact ih _ (by omega) c z
     · have : c = 48 + n % 10 := by simpa using z
       subst this
       simp [isD]; omega
theorem val_snoc (l : List Nat) (c : Nat) : val (l ++ [c]) = val l * 10 + (c - 48) := by simp [val, List.foldl_append]
theorem dg_val (n : Nat) : val (dg n) = n := by
 induction n using Nat.strongRecOn with
 | ind n ih =>
   by_cases h : n < 10
   · rw [dg_lt h]; simp [val]
   · rw [dg_ge (by omega), val_snoc, ih _ (by omega)]; omega
theorem dg_ne (n : Nat) : dg n ≠ [] := by
 by_cases h : n < 10
 · rw [dg_lt h]; simp
 · rw [dg_ge (by omega)]; simp
theorem dg_head {n : Nat} (h : 0 < n) : ∀ c r, dg n = c :: r → c ≠ 48 := by
 induction n using Nat.strongRecOn with
 | ind n ih =>
   intro c r e
   by_cases h10 : n < 10
   · rw [dg_lt h10] at e
     injection e with e1 e2
     omega
   · rw [dg_ge (by omega)] at e
     cases q : dg (n / 10) with
     | nil => exact absurd q (dg_ne _)
     | cons d t =>
       rw [q] at e
       injection e with e1 e2
       subst e1
       exact ih _ (by omega) (by omega) d t q
theorem dg_ok (n : Nat) : okN (dg n) = true := by
 by_cases h : n < 10
 · rw [dg_lt h]; rfl
 · cases q : dg n with
   | nil => exact absurd q (dg_ne _)
   | cons c r =>
     have hc := dg_head (by omega) c r q
     cases r with
     | nil => rfl
     | cons d t => simp [okN, hc]
theorem dg_len {n : Nat} : ∀ {k : Nat}, n < 10 ^ (k + 1) → (dg n).length ≤ k + 1 := by
 induction n using Nat.strongRecOn with
 | ind n ih =>
   intro k h
   by_cases h10 : n < 10
   · rw [dg_lt h10]; simp
   · rw [dg_ge (by omega)]
     cases k with
     | zero => omega
     | succ k =>
       have := ih (n / 10) (by omega) (k := k) (by rw [Nat.pow_succ] at h; omega)
       simp; omega
theorem int_text (n : Nat) : (Str.ofString (toString (n : Int))) = (⟨(dg n).toArray⟩ : Str) := by
 rw [Str.ofString_eq_toList]
 show (⟨((String.ofList (Nat.toDigits 10 n)).toList.map Char.toNat).toArray⟩ : Str) = _
 rw [String.toList_ofList]
 rfl
noncomputable def pnum (rs : List Nat) : Option (Nat × List Nat) := if okN (rs.takeWhile isD) = true then some (val (rs.takeWhile isD), rs.dropWhile isD) else none
theorem drop_len (rs : List Nat) : (rs.takeWhile isD).length + (rs.dropWhile isD).length = rs.length := by
 have := congrArg List.length (List.takeWhile_append_dropWhile (p := isD) (l := rs))
 rw [List.length_append] at this
 exact this
theorem pnum_lt {rs r : List Nat} {n : Nat} (h : pnum rs = some (n, r)) : r.length < rs.length := by
 unfold pnum at h
 split at h
 · rename_i hk
   injection h with h
   injection h with h1 h2
   have := drop_len rs
   rw [← h2]
   cases q : rs.takeWhile isD with
   | nil => rw [q] at hk; cases hk
   | cons c t => rw [q] at this; simp at this; omega
 · cases h
inductive Bg where
 | no
 | is (d : PyData) (rs : List Nat)
 | op (p g : Nat) (rs : List Nat)
noncomputable def pbegin2 (p : Nat) (rs : List Nat) : Bg :=
 match pnum rs with
 | none => .no
 | some (g, 40 :: 41 :: r) => .is (rootP p g []) r
 | some (g, 40 :: r) => .op p g r
 | some _ => .no
noncomputable def pbegin (rs : List Nat) : Bg :=
 match pnum rs with
 | none => .no
 | some (p, 58 :: r) => pbegin2 p r
 | some (p, r) => if p = 2 then .is two r else .no
inductive En where
 | no
 | cl (t : Nat) (rs : List Nat)
 | go (t : Nat) (rs : List Nat)
noncomputable def pend : List Nat → En
 | 42 :: r => match pnum r with
   | none => .no
   | some (t, 41 :: r) => .cl t r
   | some (t, 44 :: 32 :: r) => .go t r
   | some _ => .no
 | _ => .no
theorem begin2_lt {p : Nat} {rs : List Nat} : (∀ d r, pbegin2 p rs = .is d r → r.length < rs.length) ∧ ∀ a g r, pbegin2 p rs = .op a g r → r.length < rs.length := by
 unfold pbegin2
 refine ⟨fun d r h => ?_, fun a g r h => ?_⟩
 · split at h
   · cases h
   · rename_i e; have := pnum_lt e; injection h with _ h; subst h; simp at this; omega
   · cases h
   · cases h
 · split at h
   · cases h
   · cases h
   · rename_i e; have := pnum_lt e; injection h with _ _ h; subst h; simp at this; omega
   · cases h
theorem begin_lt {rs : List Nat} : (∀ d r, pbegin rs = .is d r → r.length < rs.length) ∧ ∀ a g r, pbegin rs = .op a g r → r.length < rs.length := by
 unfold pbegin
 refine ⟨fun d r h => ?_, fun a g r h => ?_⟩
 · split at h
   · cases h
   · rename_i e; have := pnum_lt e; have := begin2_lt.1 d r h; simp at *; omega
   · rename_i e; have := pnum_lt e
     split at h
     · injection h with _ h; subst h; exact this
     · cases h
 · split at h
   · cases h
   · rename_i e; have := pnum_lt e; have := begin2_lt.2 a g r h; simp at *; omega
   · split at h <;> cases h
theorem end_lt {rs : List Nat} : (∀ t r, pend rs = .cl t r → r.length < rs.length) ∧ ∀ t r, pend rs = .go t r → r.length < rs.length := by
 refine ⟨fun d r h => ?_, fun a r h => ?_⟩
 · unfold pend at h
   split at h
   · split at h
     · cases h
     · rename_i e; have := pnum_lt e; injection h with _ h; subst h; simp at *; omega
     · cases h
     · cases h
   · cases h
 · unfold pend at h
   split at h
   · split at h
     · cases h
     · cases h
     · rename_i e; have := pnum_lt e; injection h with _ h; subst h; simp at *; omega
     · cases h
   · cases h
noncomputable abbrev Fr := Nat × Nat × List PyData
noncomputable def prun (st : List Fr) (cur : Option PyData) (rs : List Nat) : Option PyData :=
 match st, cur with
 | [], none => none
 | [], some d => if rs = [] then some d else none
 | f :: st, none => match h : pbegin rs with
   | .no => none
   | .is d r => prun (f :: st) (some d) r
   | .op p g r => prun ((p, g, []) :: f :: st) none r
 | (p, g, ds) :: st, some d => match h : pend rs with
   | .no => none
   | .cl t r => prun st (some (rootP p g (ds ++ [partP d t]))) r
   | .go t r => prun ((p, g, ds ++ [partP d t]) :: st) none r
termination_by rs.length
decreasing_by
 · exact begin_lt.1 _ _ h
 · exact begin_lt.2 _ _ _ h
 · exact end_lt.1 _ _ h
 · exact end_lt.2 _ _ h
noncomputable def pread (rs : List Nat) : Option PyData :=
 match pbegin rs with
 | .no => none
 | .is d r => prun [] (some d) r
 | .op p g r => prun [(p, g, [])] none r
theorem prun_no {f : Fr} {st : List Fr} {rs : List Nat} (h : pbegin rs = .no) : prun (f :: st) none rs = none := by
 rw [prun]; split <;> rename_i e <;> rw [h] at e <;> first | rfl | cases e
theorem prun_is {f : Fr} {st : List Fr} {rs r : List Nat} {d : PyData} (h : pbegin rs = .is d r) : prun (f :: st) none rs = prun (f :: st) (some d) r := by
 rw [prun]; split <;> rename_i e <;> rw [h] at e <;> cases e; rfl
theorem prun_op {f : Fr} {st : List Fr} {rs r : List Nat} {p g : Nat} (h : pbegin rs = .op p g r) : prun (f :: st) none rs = prun ((p, g, []) :: f :: st) none r := by
 rw [prun]; split <;> rename_i e <;> rw [h] at e <;> cases e; rfl
theorem prun_eno {p g : Nat} {ds : List PyData} {st : List Fr} {rs : List Nat} {d : PyData} (h : pend rs = .no) : prun ((p, g, ds) :: st) (some d) rs = none := by
 rw [prun]; split <;> rename_i e <;> rw [h] at e <;> first | rfl | cases e
theorem prun_cl {p g t : Nat} {ds : List PyData} {st : List Fr} {rs r : List Nat} {d : PyData} (h : pend rs = .cl t r) : prun ((p, g, ds) :: st) (some d) rs = prun st (some (rootP p g (ds ++ [partP d t]))) r := by
 rw [prun]; split <;> rename_i e <;> rw [h] at e <;> cases e; rfl
theorem prun_go {p g t : Nat} {ds : List PyData} {st : List Fr} {rs r : List Nat} {d : PyData} (h : pend rs = .go t r) : prun ((p, g, ds) :: st) (some d) rs = prun ((p, g, ds ++ [partP d t]) :: st) none r := by
 conv => lhs; rw [prun]
 split <;> rename_i e <;> rw [h] at e <;> cases e; rfl
theorem prun_end {d : PyData} {rs : List Nat} : prun [] (some d) rs = if rs = [] then some d else none := by rw [prun]
noncomputable def genP : PyData → Int
 | .tuple [_, _, .int g, _] => g
 | _ => 0
noncomputable def tmP : PyData → Int
 | .tuple [_, .int k] => k
 | _ => 0
noncomputable def jn : List (List Nat) → List Nat
 | [] => []
 | [x] => x
 | x :: r => x ++ 44 :: 32 :: jn r
noncomputable def isTwo : PyData → Bool
 | .tuple [_] => true
 | _ => false
noncomputable def sh : Nat → PyData → List Nat
 | 0, _ => []
 | n + 1, d => if isTwo d = true then [50] else dg (numP d).toNat ++ 58 :: (dg (genP d).toNat ++ 40 :: (jn ((psP d).map fun x => sh n (fstP x) ++ 42 :: dg (tmP x).toNat) ++ [41]))
theorem sh_two (n : Nat) : sh (n + 1) two = [50] := by rw [sh, if_pos (by rfl)]
theorem sh_root (n p g : Nat) (ps : List PyData) : sh (n + 1) (rootP p g ps) = dg p ++ 58 :: (dg g ++ 40 :: (jn (ps.map fun x => sh n (fstP x) ++ 42 :: dg (tmP x).toNat) ++ [41])) := by
 rw [sh, if_neg (by show ¬ (false = true); simp)]; rfl
noncomputable def NP : Nat → PyData → Prop
 | 0, _ => False
 | n + 1, d => d = two ∨ ∃ (p g : Nat) (ps : List PyData), d = rootP p g ps ∧ ∀ x ∈ ps, ∃ (t : PyData) (k : Nat), x = partP t k ∧ NP n t
theorem sh_mono : ∀ {n m : Nat} {d : PyData}, n ≤ m → NP n d → sh m d = sh n d
 | 0, _, _, _, h => h.elim
 | n + 1, m + 1, d, hm, h => by
   rcases h with rfl | ⟨p, g, ps, rfl, q⟩
   · rw [sh_two, sh_two]
   · rw [sh_root, sh_root]
     have : (ps.map fun x => sh m (fstP x) ++ 42 :: dg (tmP x).toNat) = ps.map fun x => sh n (fstP x) ++ 42 :: dg (tmP x).toNat := List.map_congr_left fun x hx => by
       obtain ⟨t, k, rfl, r⟩ := q x hx
       show sh m t ++ _ = sh n t ++ _
       rw [sh_mono (by omega) r]
     rw [this]
theorem tw_app {l r : List Nat} (h : ∀ c ∈ l, isD c = true) (hr : ∀ c t, r = c :: t → isD c = false) : (l ++ r).takeWhile isD = l ∧ (l ++ r).dropWhile isD = r := by
 have e1 : r.takeWhile isD = [] := by
   cases r with
   | nil => rfl
   | cons c t => rw [List.takeWhile_cons, hr c t rfl]; rfl
 have e2 : r.dropWhile isD = r := by
   cases r with
   | nil => rfl
   | cons c t => rw [List.dropWhile_cons, hr c t rfl]; rfl
 rw [List.takeWhile_append_of_pos h, List.dropWhile_append_of_pos h, e1, e2]
 simp
theorem pnum_dg {n : Nat} {r : List Nat} (hr : ∀ c t, r = c :: t → isD c = false) : pnum (dg n ++ r) = some (n, r) := by
 obtain ⟨e1, e2⟩ := tw_app (dg_isD n) hr
 unfold pnum
 rw [e1, e2, dg_val, if_pos (dg_ok n)]
theorem pnum_sg {n c : Nat} {r : List Nat} (hc : isD c = false) : pnum (dg n ++ c :: r) = some (n, c :: r) := pnum_dg fun d t e => by cases e; exact hc
theorem sh_ne {n : Nat} {d : PyData} (h : NP n d) : ∃ c r, sh n d = c :: r ∧ isD c = true := by
 cases n with
 | zero => exact h.elim
 | succ n =>
   rcases h with rfl | ⟨p, g, ps, rfl, q⟩
   · exact ⟨50, [], sh_two n, by decide⟩
   · rw [sh_root]
     cases e : dg p with
     | nil => exact absurd e (dg_ne p)
     | cons c r => exact ⟨c, _, rfl, dg_isD p c (by rw [e]; exact .head _)⟩
theorem begin_two {r : List Nat} (hr : ∀ c t, r = c :: t → isD c = false ∧ c ≠ 58) : pbegin ([50] ++ r) = .is two r := by
 have e : pnum ([50] ++ r) = some (2, r) := by
   have := pnum_dg (n := 2) (r := r) fun c t e => (hr c t e).1
   rwa [dg_lt (by decide)] at this
 unfold pbegin
 rw [e]
 cases r with
 | nil => rfl
 | cons c t =>
   have := (hr c t rfl).2
   split
   · rename_i q; cases q
   · rename_i q; injection q with q; injection q with _ q; injection q with q; exact absurd q this
   · rename_i q; injection q with q; injection q with q1 q2; subst q1; subst q2; rfl
theorem begin_root0 {p g : Nat} {r : List Nat} : pbegin (dg p ++ 58 :: (dg g ++ 40 :: 41 :: r)) = .is (rootP p g []) r := by
 unfold pbegin
 rw [pnum_sg (by decide)]
 show pbegin2 p _ = _
 unfold pbegin2
 rw [pnum_sg (by decide)]
 rfl
theorem begin_root {p g c : Nat} {r : List Nat} (hc : c ≠ 41) : pbegin (dg p ++ 58 :: (dg g ++ 40 :: c :: r)) = .op p g (c :: r) := by
 unfold pbegin
 rw [pnum_sg (by decide)]
 show pbegin2 p _ = _
 unfold pbegin2
 rw [pnum_sg (by decide)]
 split
 · rename_i q; cases q
 · rename_i q; injection q with q; injection q with _ q; injection q with _ q; injection q with q; exact absurd q hc
 · rename_i q; injection q with q; injection q with q1 q; injection q with _ q; subst q1; subst q; rfl
 · rename_i h1 q; injection q with q; subst q; exact absurd rfl (h1 _ _)
theorem end_cl {t : Nat} {r : List Nat} : pend (42 :: (dg t ++ 41 :: r)) = .cl t r := by
 show (match pnum _ with | none => En.no | some (t, 41 :: r) => .cl t r | some (t, 44 :: 32 :: r) => .go t r | some _ => .no) = _
 rw [pnum_sg (by decide)]
 rfl
theorem end_go {t : Nat} {r : List Nat} : pend (42 :: (dg t ++ 44 :: 32 :: r)) = .go t r := by
 show (match pnum _ with | none => En.no | some (t, 41 :: r) => .cl t r | some (t, 44 :: 32 :: r) => .go t r | some _ => .no) = _
 rw [pnum_sg (by decide)]
 rfl
theorem isD_ne {c : Nat} (h : isD c = true) : c ≠ 41 := by intro z; subst z; cases h
theorem run_parts {n : Nat} (ih : ∀ (d : PyData) (f : Fr) (st : List Fr) (r : List Nat), NP n d → prun (f :: st) none (sh n d ++ 42 :: r) = prun (f :: st) (some d) (42 :: r)) (p g : Nat) (st : List Fr) (r : List Nat) :
   ∀ (ps done : List PyData), ps ≠ [] → (∀ x ∈ ps, ∃ (t : PyData) (k : Nat), x = partP t k ∧ NP n t) →
     prun ((p, g, done) :: st) none (jn (ps.map fun x => sh n (fstP x) ++ 42 :: dg (tmP x).toNat) ++ 41 :: r) = prun st (some (rootP p g (done ++ ps))) r
 | [], _, h, _ => absurd rfl h
 | [x], done, _, h => by
   obtain ⟨t, k, rfl, ht⟩ := h x (.head _)
   have e : jn ([partP t k].map fun x => sh n (fstP x) ++ 42 :: dg (tmP x).toNat) ++ 41 :: r = sh n t ++ 42 :: (dg k ++ 41 :: r) := by
     show (sh n t ++ 42 :: dg k) ++ 41 :: r = _
     rw [List.append_assoc]; rfl
   rw [e, ih t _ _ _ ht, prun_cl end_cl]
 | x :: y :: ps, done, _, h => by
   obtain ⟨t, k, rfl, ht⟩ := h x (.head _)
   have e : jn ((partP t k :: y :: ps).map fun x => sh n (fstP x) ++ 42 :: dg (tmP x).toNat) ++ 41 :: r = sh n t ++ 42 :: (dg k ++ 44 :: 32 :: (jn ((y :: ps).map fun x => sh n (fstP x) ++ 42 :: dg (tmP x).toNat) ++ 41 :: r)) := by
     show ((sh n t ++ 42 :: dg k) ++ 44 :: 32 :: jn ((y :: ps).map fun x => sh n (fstP x) ++ 42 :: dg (tmP x).toNat)) ++ 41 :: r = _
     simp only [List.append_assoc, List.cons_append]
   rw [e, ih t _ _ _ ht, prun_go end_go, run_parts ih p g st r (y :: ps) _ (by simp) fun z hz => h z (.tail _ hz), List.append_assoc]
   rfl
theorem jn_ne {n : Nat} {ps : List PyData} (hp : ps ≠ []) (h : ∀ x ∈ ps, ∃ (t : PyData) (k : Nat), x = partP t k ∧ NP n t) : ∃ c r, jn (ps.map fun x => sh n (fstP x) ++ 42 :: dg (tmP x).toNat) = c :: r ∧ c ≠ 41 := by
 cases ps with
 | nil => exact absurd rfl hp
 | cons x ps =>
   obtain ⟨t, k, rfl, ht⟩ := h x (.head _)
   obtain ⟨c, r, e, hc⟩ := sh_ne ht
   cases ps with
   | nil => exact ⟨c, r ++ 42 :: dg k, by show sh n t ++ _ = _; rw [e]; rfl, isD_ne hc⟩
   | cons y ps => exact ⟨c, _, by show (sh n t ++ _) ++ _ = _; rw [e]; rfl, isD_ne hc⟩
theorem begin_sh {n : Nat} (ih : ∀ (d : PyData) (f : Fr) (st : List Fr) (r : List Nat), NP n d → prun (f :: st) none (sh n d ++ 42 :: r) = prun (f :: st) (some d) (42 :: r)) {d : PyData} (h : NP (n + 1) d) {r : List Nat} (hr : ∀ c t, r = c :: t → isD c = false ∧ c ≠ 58) :
   pbegin (sh (n + 1) d ++ r) = .is d r ∨ ∃ p g r', pbegin (sh (n + 1) d ++ r) = .op p g r' ∧ ∀ st, prun ((p, g, []) :: st) none r' = prun st (some d) r := by
 rcases h with rfl | ⟨p, g, ps, rfl, q⟩
 · rw [sh_two]; exact .inl (begin_two hr)
 · rw [sh_root]
   by_cases hp : ps = []
   · subst hp
     left
     have : dg p ++ 58 :: (dg g ++ 40 :: (jn (([] : List PyData).map fun x => sh n (fstP x) ++ 42 :: dg (tmP x).toNat) ++ [41])) ++ r = dg p ++ 58 :: (dg g ++ 40 :: 41 :: r) := by
       simp [jn]
     rw [this]
     exact begin_root0
   · right
     obtain ⟨c, r', e, hc⟩ := jn_ne hp q
     refine ⟨p, g, jn (ps.map fun x => sh n (fstP x) ++ 42 :: dg (tmP x).toNat) ++ 41 :: r, ?_, fun st => run_parts ih p g st r ps [] hp q⟩
     have : dg p ++ 58 :: (dg g ++ 40 :: (jn (ps.map fun x => sh n (fstP x) ++ 42 :: dg (tmP x).toNat) ++ [41])) ++ r = dg p ++ 58 :: (dg g ++ 40 :: (jn (ps.map fun x => sh n (fstP x) ++ 42 :: dg (tmP x).toNat) ++ 41 :: r)) := by
       simp only [List.append_assoc, List.cons_append, List.nil_append]
     rw [this, e]
     exact begin_root hc
theorem run_sh : ∀ (n : Nat) (d : PyData) (f : Fr) (st : List Fr) (r : List Nat), NP n d → prun (f :: st) none (sh n d ++ 42 :: r) = prun (f :: st) (some d) (42 :: r)
 | 0, _, _, _, _, h => h.elim
 | n + 1, d, f, st, r, h => by
   rcases begin_sh (run_sh n) h (r := 42 :: r) (fun c t e => by cases e; exact ⟨by decide, by decide⟩) with e | ⟨p, g, r', e, k⟩
   · rw [prun_is e]
   · rw [prun_op e, k]
theorem read_sh {n : Nat} {d : PyData} (h : NP n d) : pread (sh n d) = some d := by
 cases n with
 | zero => exact h.elim
 | succ n =>
   have := begin_sh (run_sh n) h (r := []) (fun c t e => by cases e)
   rw [List.append_nil] at this
   unfold pread
   rcases this with e | ⟨p, g, r', e, k⟩
   · rw [e]; show prun [] (some d) [] = _; rw [prun_end]; rfl
   · rw [e]; show prun [(p, g, [])] none r' = _; rw [k, prun_end]; rfl
end TX
namespace TX
open PySem L2 PySem.Builtin.Str
noncomputable def FIG : Str := "0123456789"
theorem fig_cps : FIG.cps.toList = [48, 49, 50, 51, 52, 53, 54, 55, 56, 57] := by decide +kernel
theorem isD_mem (c : Nat) : isD c = decide (c ∈ [48, 49, 50, 51, 52, 53, 54, 55, 56, 57]) := by
 unfold isD
 rw [← Bool.decide_and]
 congr 1
 simp only [List.mem_cons, List.not_mem_nil, or_false, eq_iff_iff]
 omega
theorem in_fig (c : Nat) : (!(occurrences FIG ⟨#[c]⟩ 0 FIG.length 1).isEmpty) = isD c := by
 rw [StrLaws.found_one, isD_mem, fig_cps]
theorem idx_fig {c : Nat} (h : isD c = true) : occurrences FIG ⟨#[c]⟩ 0 FIG.length 1 = [c - 48] := by
 have : c = 48 ∨ c = 49 ∨ c = 50 ∨ c = 51 ∨ c = 52 ∨ c = 53 ∨ c = 54 ∨ c = 55 ∨ c = 56 ∨ c = 57 := by
   unfold isD at h
   simp at h
   omega
 rcases this with rfl | rfl | rfl | rfl | rfl | rfl | rfl | rfl | rfl | rfl <;> decide +kernel
theorem len_toList (z : Str) : z.cps.toList.length = z.length := by simp [Str.length]
theorem sw_iff {z y : Str} {i : Nat} (h : i ≤ z.length) : Txt.startswith3 z y (i : Int) = decide (y.cps.toList <+: z.cps.toList.drop i) := by
 have e : fromIndex z.length (i : Int) = i := by unfold fromIndex; omega
 unfold Txt.startswith3
 rw [e, StrLaws.subAt_eq]
 by_cases q : y.cps.toList <+: z.cps.toList.drop i
 · rw [decide_eq_true q]
   have hl := q.length_le
   rw [List.length_drop, len_toList, len_toList] at hl
   have := List.prefix_iff_eq_take.mp q
   rw [len_toList] at this
   rw [← this]
   simp
   omega
 · rw [decide_eq_false q]
   refine Bool.and_eq_false_iff.mpr (.inr ?_)
   rw [beq_eq_false_iff_ne]
   intro z'
   exact q (List.prefix_iff_eq_take.mpr (by rw [len_toList]; exact z'.symm))
theorem slice_nat {z : Str} {a b : Nat} (hab : a ≤ b) (hb : b ≤ z.length) : Txt.slice z (some (a : Int)) (some (b : Int)) = ⟨((z.cps.toList.drop a).take (b - a)).toArray⟩ := by
 exact StrLaws.sliceText_nat z hab hb
theorem join_cps (ts : List Str) : (Txt.join ", " ts).cps.toList = jn (ts.map fun t => t.cps.toList) := by
 show (Builtin.Str.glued _ _).cps.toList = _
 rw [StrLaws.glued_eq_join]
 induction ts with
 | nil => rfl
 | cons x r ih =>
   cases r with
   | nil => rfl
   | cons y r =>
     show (x ++ ", " ++ Str.join ", " (y :: r)).cps.toList = _
     rw [Str.cps_append, Str.cps_append, Array.toList_append, Array.toList_append, ih]
     show x.cps.toList ++ [44, 32] ++ _ = x.cps.toList ++ 44 :: 32 :: _
     rw [List.append_assoc]
     rfl
theorem str_eq {a b : Str} (h : a.cps.toList = b.cps.toList) : a = b := by
 cases a; cases b
 congr 1
 exact Array.toList_inj.mp h
theorem cat_len (a b : Str) : (a ++ b).length = a.length + b.length := Str.length_append a b
theorem rep_len {y : Str} (hc : ∀ c ∈ y.cps.toList, c < 16 ^ 8) {n : Nat} (h : y.length ≤ n) : (reprText y).length ≤ 10 * n + 2 := Nat.le_trans (StrLaws.reprText_len y hc) (by omega)
theorem em_len : Str.empty.length = 0 := rfl
theorem sz_eq : sizeLine = 16777216 := by decide
theorem small_len {i : Nat} (h : i ≤ 10 ^ 6) : (Str.ofString (toString (i : Int))).length ≤ 7 := by
 rw [int_text]
 show (dg i).toArray.size ≤ 7
 rw [List.size_toArray]
 exact dg_len (k := 6) (by omega)
theorem log_lt {n : Nat} (h : n < 2 ^ 1920) : (n : Int).natAbs.log2 < 1920 := by
 rw [Int.natAbs_natCast]
 by_cases h0 : n = 0
 · subst h0; decide
 · exact (Nat.log2_lt h0).mpr h
theorem big_log {n : Nat} (h : n < 10 ^ 60) : (n : Int).natAbs.log2 < 1920 := log_lt (Nat.lt_of_lt_of_le h (by decide +kernel))
theorem small_log {i : Nat} (h : i ≤ 10 ^ 6) : (i : Int).natAbs.log2 < 1920 := log_lt (Nat.lt_of_le_of_lt h (by decide +kernel))
noncomputable def nof (l : List Nat) : Option Nat := if okN l = true ∧ l.all isD = true then some (val l) else none
noncomputable def nofV (z : Str) : V := match nof z.cps.toList with
 | some n => .int n
 | none => .non
theorem tw_at {l : List Nat} {k : Nat} (h : ∀ c ∈ l.take k, isD c = true) (hn : ∀ c, l[k]? = some c → isD c = false) : l.takeWhile isD = l.take k ∧ l.dropWhile isD = l.drop k := by
 have := tw_app (l := l.take k) (r := l.drop k) h fun c t e => hn c (by
   have : (l.drop k)[0]? = some c := by rw [e]; rfl
   simpa using this)
 rwa [List.take_append_drop] at this
theorem num_at {z : Str} {i j : Nat} (ij : i ≤ j) (jz : j ≤ z.length) (h : ∀ c ∈ (z.cps.toList.drop i).take (j - i), isD c = true) (hn : ∀ c, z.cps.toList[j]? = some c → isD c = false) :
   nofV ⟨((z.cps.toList.drop i).take (j - i)).toArray⟩ = (match pnum (z.cps.toList.drop i) with | some (n, _) => .int n | none => .non) ∧ ∀ n rs, pnum (z.cps.toList.drop i) = some (n, rs) → z.length - rs.length = j := by
 obtain ⟨e1, e2⟩ := tw_at (l := z.cps.toList.drop i) (k := j - i) h (fun c e => hn c (by rw [List.getElem?_drop] at e; rwa [show i + (j - i) = j by omega] at e))
 unfold pnum nofV nof
 rw [e1, e2]
 have ha : ((z.cps.toList.drop i).take (j - i)).all isD = true := List.all_eq_true.mpr h
 refine ⟨?_, fun n rs e => ?_⟩
 · show (match if okN ((z.cps.toList.drop i).take (j - i)) = true ∧ ((z.cps.toList.drop i).take (j - i)).all isD = true then some (val ((z.cps.toList.drop i).take (j - i))) else none with | some n => V.int n | none => .non) = _
   by_cases ok : okN ((z.cps.toList.drop i).take (j - i)) = true
   · rw [if_pos ⟨ok, ha⟩, if_pos ok]
   · rw [if_neg (fun z => ok z.1), if_neg ok]
 · split at e
   · injection e with e
     injection e with _ e
     rw [← e, List.drop_drop, List.length_drop, len_toList]
     omega
   · cases e
noncomputable def rdr (z : Str) (i : Nat) : List (Str × V) := [("text", .str z), ("at", .int i)]
theorem sz {n : Nat} (h : n ≤ 10 ^ 6) : n ≤ sizeLine := by rw [sz_eq]; omega
theorem nof_ok {c : Nat} {r : List Nat} (h : ¬ (c = 48 ∧ r ≠ [])) : okN (c :: r) = true := by
 cases r with
 | nil => rfl
 | cons d t => simp [okN]; intro z; exact h ⟨z, by simp⟩
theorem nof_no {c : Nat} {r : List Nat} (h : c = 48 ∧ r ≠ []) : nof (c :: r) = none := by
 unfold nof
 rw [if_neg]
 rintro ⟨a, _⟩
 cases r with
 | nil => exact h.2 rfl
 | cons d t => simp [okN] at a; exact a h.1
theorem str_one (c : Nat) (z : Str) (h : z.cps.toList = [c]) : z = ⟨#[c]⟩ := str_eq h
theorem zero_cps : ("0" : Str) = ⟨#[48]⟩ := by decide +kernel
theorem val_take {l : List Nat} {i c : Nat} (h : l[i]? = some c) : val (l.take (i + 1)) = val (l.take i) * 10 + (c - 48) := by
 rw [List.take_succ, h]
 exact val_snoc _ _
theorem suf_drop {z : Str} {rs : List Nat} (h : rs <:+ z.cps.toList) : z.cps.toList.drop (z.length - rs.length) = rs := by
 obtain ⟨p, e⟩ := h
 have : z.length = p.length + rs.length := by rw [← len_toList, ← e, List.length_append]
 rw [this, Nat.add_sub_cancel, ← e, List.drop_left]
theorem pnum_suf {l rs : List Nat} {n : Nat} (h : pnum l = some (n, rs)) : rs <:+ l := by
 unfold pnum at h
 split at h
 · injection h with h
   injection h with _ h
   rw [← h]
   exact List.dropWhile_suffix _
 · cases h
theorem suf_tail {l t : List Nat} {c : Nat} (h : c :: t <:+ l) : t <:+ l := (List.suffix_cons c t).trans h
theorem suf_len {z : Str} {rs : List Nat} (h : rs <:+ z.cps.toList) : rs.length ≤ z.length := by
 rw [← len_toList]
 exact h.length_le
theorem pos_tail {z : Str} {t : List Nat} {c : Nat} (h : c :: t <:+ z.cps.toList) : z.length - (c :: t).length + 1 = z.length - t.length := by
 have := suf_len h
 simp only [List.length_cons] at this ⊢
 omega
theorem pre1 {c : Nat} {rs : List Nat} : [c] <+: rs ↔ ∃ t, rs = c :: t := by
 constructor
 · rintro ⟨t, e⟩
   exact ⟨t, e.symm⟩
 · rintro ⟨t, rfl⟩
   exact ⟨t, rfl⟩
theorem pre2 {c d : Nat} {rs : List Nat} : [c, d] <+: rs ↔ ∃ t, rs = c :: d :: t := by
 constructor
 · rintro ⟨t, e⟩
   exact ⟨t, e.symm⟩
 · rintro ⟨t, rfl⟩
   exact ⟨t, rfl⟩
theorem bg_no {l : List Nat} (h : pnum l = none) : pbegin l = .no := by unfold pbegin; rw [h]
theorem bg_one {l rs : List Nat} {p : Nat} (h : pnum l = some (p, rs)) (hn : ¬ ∃ t, rs = 58 :: t) : pbegin l = if p = 2 then .is two rs else .no := by
 unfold pbegin
 rw [h]
 split
 · rename_i q; cases q
 · rename_i q; injection q with q; injection q with _ q; exact absurd ⟨_, q⟩ hn
 · rename_i q; injection q with q; injection q with q1 q2; subst q1; subst q2; rfl
theorem bg_two {l t : List Nat} {p : Nat} (h : pnum l = some (p, 58 :: t)) : pbegin l = pbegin2 p t := by unfold pbegin; rw [h]; rfl
theorem b2_no {p : Nat} {l : List Nat} (h : pnum l = none) : pbegin2 p l = .no := by unfold pbegin2; rw [h]
theorem b2_no' {p g : Nat} {l rs : List Nat} (h : pnum l = some (g, rs)) (hn : ¬ ∃ t, rs = 40 :: t) : pbegin2 p l = .no := by
 unfold pbegin2
 rw [h]
 split
 · rfl
 · rename_i q; injection q with q; injection q with _ q; exact absurd ⟨_, q⟩ hn
 · rename_i q; injection q with q; injection q with _ q; exact absurd ⟨_, q⟩ hn
 · rfl
theorem b2_is {p g : Nat} {l u : List Nat} (h : pnum l = some (g, 40 :: 41 :: u)) : pbegin2 p l = .is (rootP p g []) u := by unfold pbegin2; rw [h]; rfl
theorem b2_op {p g : Nat} {l u : List Nat} (h : pnum l = some (g, 40 :: u)) (hn : ¬ ∃ w, u = 41 :: w) : pbegin2 p l = .op p g u := by
 unfold pbegin2
 rw [h]
 split
 · rename_i q; cases q
 · rename_i q; injection q with q; injection q with _ q; injection q with _ q; exact absurd ⟨_, q⟩ hn
 · rename_i q; injection q with q; injection q with q1 q; injection q with _ q; subst q1; subst q; rfl
 · rename_i h1 h2 q; injection q with q; subst q; exact absurd rfl (h2 _ _)
theorem en_no1 {l : List Nat} (hn : ¬ ∃ t, l = 42 :: t) : pend l = .no := by
 unfold pend
 split
 · exact absurd ⟨_, rfl⟩ hn
 · rfl
theorem pend_eq {l : List Nat} : pend (42 :: l) = match pnum l with
   | none => .no
   | some (t, 41 :: r) => .cl t r
   | some (t, 44 :: 32 :: r) => .go t r
   | some _ => .no := rfl
theorem en_no2 {l : List Nat} (h : pnum l = none) : pend (42 :: l) = .no := by rw [pend_eq, h]
theorem en_cl {l u : List Nat} {t : Nat} (h : pnum l = some (t, 41 :: u)) : pend (42 :: l) = .cl t u := by rw [pend_eq, h]; rfl
theorem en_go {l u : List Nat} {t : Nat} (h : pnum l = some (t, 44 :: 32 :: u)) : pend (42 :: l) = .go t u := by rw [pend_eq, h]; rfl
theorem en_no3 {l rs : List Nat} {t : Nat} (h : pnum l = some (t, rs)) (h1 : ¬ ∃ u, rs = 41 :: u) (h2 : ¬ ∃ u, rs = 44 :: 32 :: u) : pend (42 :: l) = .no := by
 rw [pend_eq, h]
 split
 · rfl
 · rename_i q; injection q with q; injection q with _ q; exact absurd ⟨_, q⟩ h1
 · rename_i q; injection q with q; injection q with _ q; exact absurd ⟨_, q⟩ h2
 · rfl
theorem cps_colon : (":" : Str).cps.toList = [58] := by decide +kernel
theorem cps_op : ("(" : Str).cps.toList = [40] := by decide +kernel
theorem cps_cl : (")" : Str).cps.toList = [41] := by decide +kernel
theorem cps_star : ("*" : Str).cps.toList = [42] := by decide +kernel
theorem cps_comma : (", " : Str).cps.toList = [44, 32] := by decide +kernel
end TX
namespace L2
open PySem PySem.Spec PyProof.Rows
section
variable {X : Cx} {es : List Expr} {t : TA} {pos : Pos}
noncomputable def tTupF (t : TA) : TE := fun σ H Q => t σ H fun xs H1 => xs.length ≤ sizeLine ∧ ∀ p H2, H1 p = none → Same H1 H2 → H2 p = some (.tup xs) → Q (.ref p) H2
theorem pe_tupF {x1} (h : PA X es t) : PE X (.Tuple es x1 pos) (tTupF t) := by
 intro pins s σ H Q I hq
 refine wpAny_Tuple_spliced (thn (h pos pins s σ H _ I hq) fun us s1 ⟨xs, H1, I1, r, z, q⟩ => ⟨by rw [← r.length]; exact z, ?_⟩)
 have hf : H1 s1.heap.objs.size = none := I1.hok.fresh (Nat.le_refl _)
 refine ⟨.ref s1.heap.objs.size, upd H1 s1.heap.objs.size (.tup xs), I1.laid (t' := s1.toks) (fun b u e => Heap.get?_push_of_some _ e) (Nat.le_refl _) ?_, rfl, q _ _ hf (Same.new hf) upd_same⟩
 exact ⟨z, us, r, ⟨_, Heap.get?_push_size _ rfl, rfl, _, rfl⟩⟩
noncomputable def rSlTA (K : PySem.W.Frag) : V → Option Int → Option Int → Hp → VK → Prop := fun x lo hi H Q => ∃ a xs, x = .ref a ∧ SqT K H a xs ∧
 ¬ (HT.sIx xs.length 0 lo = 0 ∧ HT.sIx xs.length xs.length hi = xs.length) ∧ ∀ p H2, H p = none → Same H H2 → H2 p = some (.tup (cutV xs lo hi)) → Q (.ref p) H2
theorem sl_tupA : SlR X (rSlTA X.K) := by
 intro pins s σ H x v vl vu lo hi sl Q I rx hs pl pu h
 obtain ⟨a, xs, e, hx, hw, q⟩ := h
 exact sl_tup pins s σ H x v vl vu lo hi sl Q I rx hs pl pu ⟨a, xs, e, hx, hw, fun p hp => q p _ hp (Same.new hp) upd_same⟩
noncomputable def rCatTA (K : PySem.W.Frag) : R2 := fun x y H Q => ∃ a b xs ys, x = .ref a ∧ y = .ref b ∧ SqT K H a xs ∧ SqT K H b ys ∧ xs ≠ [] ∧ ys ≠ [] ∧ xs.length + ys.length ≤ sizeLine ∧ ∀ p H2, H p = none → Same H H2 → H2 p = some (.tup (xs ++ ys)) → Q (.ref p) H2
theorem op_catTA : OpR X (binaryOp .Add) (rCatTA X.K) := by
 intro pins s σ H x y v u Q I rx ry h
 obtain ⟨a, b, xs, ys, e1, e2, h1, h2, n1, n2, hz, q⟩ := h
 exact op_catT pins s σ H x y v u Q I rx ry ⟨a, b, xs, ys, e1, e2, h1, h2, n1, hz, fun z => absurd z n2, fun _ p hp => q p _ hp (Same.new hp) upd_same⟩
end
open Classical in
noncomputable def mxG (H Gk H' : Hp) : Hp := fun b => if H b = none ∨ Gk b ≠ none then H' b else none
theorem mxG_at {H Gk H' : Hp} {b : Addr} {o : HO} (h : H b = none ∨ Gk b ≠ none) (e : H' b = some o) : mxG H Gk H' b = some o := by unfold mxG; rw [if_pos h]; exact e
theorem mxG_of {H Gk H' : Hp} {b : Addr} {o : HO} (e : mxG H Gk H' b = some o) : (H b = none ∨ Gk b ≠ none) ∧ H' b = some o := by
 unfold mxG at e
 split at e
 · exact ⟨by assumption, e⟩
 · cases e
theorem mxG_sub {H Gk H' : Hp} : Same (mxG H Gk H') H' := fun b o e => (mxG_of e).2
theorem mxG_to {H1 G1 K1 H2 G2 K2 : Hp} (h1 : ∀ b o, H1 b = none ∨ G1 b ≠ none → K1 b = some o → (H2 b = none ∨ G2 b ≠ none) ∧ K2 b = some o) : Same (mxG H1 G1 K1) (mxG H2 G2 K2) := fun b o e => by
 obtain ⟨a, c⟩ := mxG_of e
 obtain ⟨d, f⟩ := h1 b o a c
 exact mxG_at d f
noncomputable def noH : Hp := fun _ => none
end L2
namespace TX
open PySem L2
structure FH where
 a : Addr
 b : Addr
 xs : List V
 p : Nat
 g : Nat
 ds : List PyData
noncomputable def FH.fr (f : FH) : Fr := (f.p, f.g, f.ds)
open Classical in
noncomputable def cutH (H0 H : Hp) (F : List Addr) : Hp := fun c => if H0 c = none ∧ c ∉ F then H c else none
theorem cut_at {H0 H : Hp} {F : List Addr} {c : Addr} {o : HO} (h : H0 c = none) (hf : c ∉ F) (e : H c = some o) : cutH H0 H F c = some o := by unfold cutH; rw [if_pos ⟨h, hf⟩]; exact e
theorem cut_of {H0 H : Hp} {F : List Addr} {c : Addr} {o : HO} (e : cutH H0 H F c = some o) : H0 c = none ∧ c ∉ F ∧ H c = some o := by
 unfold cutH at e
 split at e
 · rename_i h; exact ⟨h.1, h.2, e⟩
 · cases e
theorem cut_to {H0 H H' : Hp} {F F' : List Addr} (h : ∀ c o, H0 c = none → c ∉ F → H c = some o → c ∉ F' ∧ H' c = some o) : Same (cutH H0 H F) (cutH H0 H' F') := fun c o e => by
 obtain ⟨a, b, d⟩ := cut_of e
 obtain ⟨x, y⟩ := h c o a b d
 exact cut_at a x y
structure Rd0 (H0 H : Hp) (r lb : Addr) (L : List FH) : Prop where
 sm : Same H0 H
 r0 : H0 r = none
 l0 : H0 lb = none
 ri : ∃ C dx fs, H r = some (.ins C dx fs)
 lst : H lb = some (.lst (L.reverse.map fun f => V.ref f.a))
 fr : ∀ f ∈ L, H0 f.a = none ∧ H0 f.b = none ∧ H f.a = some (.tup [.str "root", .int f.p, .int f.g, .ref f.b]) ∧ H f.b = some (.lst f.xs) ∧ RdVs (cutH H0 H (r :: lb :: L.map FH.b)) f.xs f.ds
 nd : (lb :: L.map FH.b).Nodup
noncomputable def Cur (H0 H : Hp) (r lb : Addr) (L : List FH) (v : V) : Option PyData → Prop
 | none => v = .non
 | some d => RdV (cutH H0 H (r :: lb :: L.map FH.b)) v d
section
variable {H0 H H' : Hp} {r lb a b c : Addr} {L : List FH} {f : FH} {C dx : Addr} {fs : List (Str × V)} {v : V} {d : PyData} {p g t : Nat}
theorem Rd0.rl (R : Rd0 H0 H r lb L) : r ≠ lb := by
 obtain ⟨C, dx, fs, e⟩ := R.ri
 exact ne_of e R.lst (by intro y; cases y)
theorem Rd0.some_of (R : Rd0 H0 H r lb L) {e : Addr} (h : e ∈ r :: lb :: L.map FH.b) : ∃ o, H e = some o := by
 rcases List.mem_cons.mp h with rfl | h
 · obtain ⟨C, dx, fs, e⟩ := R.ri; exact ⟨_, e⟩
 rcases List.mem_cons.mp h with rfl | h
 · exact ⟨_, R.lst⟩
 obtain ⟨f, hf, rfl⟩ := List.mem_map.mp h
 exact ⟨_, (R.fr f hf).2.2.2.1⟩
theorem Rd0.new (R : Rd0 H0 H r lb L) (h : H c = none) : H0 c = none ∧ c ∉ r :: lb :: L.map FH.b := ⟨R.sm.free h, fun m => by
 obtain ⟨o, e⟩ := R.some_of m
 rw [h] at e; cases e⟩
theorem Rd0.fne (R : Rd0 H0 H r lb L) (hf : f ∈ L) : f.a ≠ r ∧ f.a ≠ lb ∧ f.b ≠ r ∧ f.b ≠ lb := by
 obtain ⟨C, dx, fs, e⟩ := R.ri
 obtain ⟨_, _, ha, hb, _⟩ := R.fr f hf
 refine ⟨ne_of ha e (by intro y; cases y), ne_of ha R.lst (by intro y; cases y), ne_of hb e (by intro y; cases y), fun y => ?_⟩
 exact (List.nodup_cons.mp R.nd).1 (y ▸ List.mem_map_of_mem hf)
theorem Rd0.is (R : Rd0 H0 H r lb L) (k : But r H H') (hr : H' r = some (.ins C dx fs)) (rd : RdV (mxG H noH H') v d) : Rd0 H0 H' r lb L ∧ Cur H0 H' r lb L v (some d) := by
 have nr : ∀ {e o}, H0 e = some o → e ≠ r := fun e y => by rw [y, R.r0] at e; cases e
 have st : Same (cutH H0 H (r :: lb :: L.map FH.b)) (cutH H0 H' (r :: lb :: L.map FH.b)) := cut_to fun c o h0 hn e => ⟨hn, k c o (fun y => hn (by rw [y]; exact .head _)) e⟩
 refine ⟨⟨fun e o h => k e o (nr h) (R.sm e o h), R.r0, R.l0, ⟨C, dx, fs, hr⟩, k _ _ R.rl.symm R.lst, fun f hf => ?_, R.nd⟩, ?_⟩
 · obtain ⟨h1, h2, h3, h4, h5⟩ := R.fr f hf
   obtain ⟨n1, n2, n3, n4⟩ := R.fne hf
   exact ⟨h1, h2, k _ _ n1 h3, k _ _ n3 h4, h5.mono st⟩
 · refine RdV.mono (fun c o e => ?_) rd
   obtain ⟨h1, h2⟩ := mxG_of e
   have h1 : H c = none := h1.resolve_right (by simp [noH])
   obtain ⟨x, y⟩ := R.new h1
   exact cut_at x y h2
theorem Rd0.op (R : Rd0 H0 H r lb L) (na : H a = none) (nb : H b = none) (hr : H' r = some (.ins C dx fs)) (hl : H' lb = some (.lst ((L.reverse.map fun f => V.ref f.a) ++ [.ref a])))
   (ha : H' a = some (.tup [.str "root", .int (p : Int), .int (g : Int), .ref b])) (hb : H' b = some (.lst [])) (k : ∀ c o, c ≠ r → c ≠ lb → H c = some o → H' c = some o) : Rd0 H0 H' r lb (⟨a, b, [], p, g, []⟩ :: L) := by
 have nr : ∀ {e o}, H0 e = some o → e ≠ r := fun e y => by rw [y, R.r0] at e; cases e
 have nl : ∀ {e o}, H0 e = some o → e ≠ lb := fun e y => by rw [y, R.l0] at e; cases e
 obtain ⟨a0, an⟩ := R.new na
 obtain ⟨b0, bn⟩ := R.new nb
 have st : Same (cutH H0 H (r :: lb :: L.map FH.b)) (cutH H0 H' (r :: lb :: b :: L.map FH.b)) := cut_to fun c o h0 hn e => by
   refine ⟨fun m => ?_, k c o (fun y => hn (by rw [y]; exact .head _)) (fun y => hn (by rw [y]; exact .tail _ (.head _))) e⟩
   rcases List.mem_cons.mp m with y | m
   · exact hn (by rw [y]; exact .head _)
   rcases List.mem_cons.mp m with y | m
   · exact hn (by rw [y]; exact .tail _ (.head _))
   rcases List.mem_cons.mp m with y | m
   · rw [y, nb] at e; cases e
   · exact hn (.tail _ (.tail _ m))
 refine ⟨fun e o h => k e o (nr h) (nl h) (R.sm e o h), R.r0, R.l0, ⟨C, dx, fs, hr⟩, ?_, fun f hf => ?_, ?_⟩
 · rw [List.reverse_cons, List.map_append]; exact hl
 · rcases List.mem_cons.mp hf with rfl | hf
   · exact ⟨a0, b0, ha, hb, .nil⟩
   · obtain ⟨h1, h2, h3, h4, h5⟩ := R.fr f hf
     obtain ⟨n1, n2, n3, n4⟩ := R.fne hf
     exact ⟨h1, h2, k _ _ n1 n2 h3, k _ _ n3 n4 h4, h5.mono st⟩
 · refine List.nodup_cons.mpr ⟨fun m => ?_, List.nodup_cons.mpr ⟨fun m => bn (.tail _ (.tail _ m)), (List.nodup_cons.mp R.nd).2⟩⟩
   rcases List.mem_cons.mp m with y | m
   · exact bn (by rw [← show lb = b from y]; exact .tail _ (.head _))
   · exact (List.nodup_cons.mp R.nd).1 m
theorem Rd0.part (R : Rd0 H0 H r lb (f :: L)) (cu : RdV (cutH H0 H (r :: lb :: (f :: L).map FH.b)) v d) (nc : H c = none) (hc : H' c = some (.tup [v, .int (t : Int)])) (k : ∀ e o, e ≠ r → e ≠ lb → e ≠ f.b → H e = some o → H' e = some o) :
   Same (cutH H0 H (r :: lb :: (f :: L).map FH.b)) (cutH H0 H' (r :: lb :: (f :: L).map FH.b)) ∧ RdVs (cutH H0 H' (r :: lb :: (f :: L).map FH.b)) (f.xs ++ [.ref c]) (f.ds ++ [partP d t]) := by
 have st : Same (cutH H0 H (r :: lb :: (f :: L).map FH.b)) (cutH H0 H' (r :: lb :: (f :: L).map FH.b)) := cut_to fun e o h0 hn he =>
   ⟨hn, k e o (fun y => hn (by rw [y]; exact .head _)) (fun y => hn (by rw [y]; exact .tail _ (.head _))) (fun y => hn (by rw [y]; exact .tail _ (.tail _ (.head _)))) he⟩
 obtain ⟨c0, cn⟩ := R.new nc
 exact ⟨st, ((R.fr f (.head _)).2.2.2.2.mono st).append (.cons (.tup (cut_at c0 cn hc) (.cons (cu.mono st) (.cons (.int _) .nil))) .nil)⟩
theorem Rd0.go (R : Rd0 H0 H r lb (f :: L)) (cu : RdV (cutH H0 H (r :: lb :: (f :: L).map FH.b)) v d) (nc : H c = none) (hr : H' r = some (.ins C dx fs)) (hl : H' lb = some (.lst (((f :: L).reverse.map fun f => V.ref f.a)))) (hc : H' c = some (.tup [v, .int (t : Int)]))
   (hb : H' f.b = some (.lst (f.xs ++ [.ref c]))) (k : ∀ e o, e ≠ r → e ≠ lb → e ≠ f.b → H e = some o → H' e = some o) : Rd0 H0 H' r lb (⟨f.a, f.b, f.xs ++ [.ref c], f.p, f.g, f.ds ++ [partP d t]⟩ :: L) := by
 have nr : ∀ {e o}, H0 e = some o → e ≠ r := fun e y => by rw [y, R.r0] at e; cases e
 have nl : ∀ {e o}, H0 e = some o → e ≠ lb := fun e y => by rw [y, R.l0] at e; cases e
 obtain ⟨f0, fb0, fa, fb, _⟩ := R.fr f (.head _)
 obtain ⟨n1, n2, n3, n4⟩ := R.fne (.head _)
 have nb : ∀ {e o}, H0 e = some o → e ≠ f.b := fun e y => by rw [y, fb0] at e; cases e
 obtain ⟨st, rp⟩ := R.part cu nc hc k
 refine ⟨fun e o h => k e o (nr h) (nl h) (nb h) (R.sm e o h), R.r0, R.l0, ⟨C, dx, fs, hr⟩, ?_, fun h hh => ?_, R.nd⟩
 · rw [hl]; simp
 · rcases List.mem_cons.mp hh with rfl | hh
   · exact ⟨f0, fb0, k _ _ n1 n2 (ne_of fa fb (by intro y; cases y)) fa, hb, rp⟩
   · obtain ⟨h1, h2, h3, h4, h5⟩ := R.fr h (.tail _ hh)
     obtain ⟨m1, m2, m3, m4⟩ := R.fne (.tail _ hh)
     have m5 : h.b ≠ f.b := fun y => (List.nodup_cons.mp (List.nodup_cons.mp R.nd).2).1 (by rw [← y]; exact List.mem_map_of_mem hh)
     exact ⟨h1, h2, k _ _ m1 m2 (ne_of h3 fb (by intro y; cases y)) h3, k _ _ m3 m4 m5 h4, h5.mono st⟩
theorem Rd0.cl (R : Rd0 H0 H r lb (f :: L)) (cu : RdV (cutH H0 H (r :: lb :: (f :: L).map FH.b)) v d) (nc : H c = none) (hr : H' r = some (.ins C dx fs)) (hl : H' lb = some (.lst ((L.reverse.map fun f => V.ref f.a)))) (hc : H' c = some (.tup [v, .int (t : Int)]))
   (hb : H' f.b = some (.lst (f.xs ++ [.ref c]))) (k : ∀ e o, e ≠ r → e ≠ lb → e ≠ f.b → H e = some o → H' e = some o) : Rd0 H0 H' r lb L ∧ Cur H0 H' r lb L (.ref f.a) (some (rootP f.p f.g (f.ds ++ [partP d t]))) := by
 have nr : ∀ {e o}, H0 e = some o → e ≠ r := fun e y => by rw [y, R.r0] at e; cases e
 have nl : ∀ {e o}, H0 e = some o → e ≠ lb := fun e y => by rw [y, R.l0] at e; cases e
 obtain ⟨f0, fb0, fa, fb, _⟩ := R.fr f (.head _)
 obtain ⟨n1, n2, n3, n4⟩ := R.fne (.head _)
 have nb : ∀ {e o}, H0 e = some o → e ≠ f.b := fun e y => by rw [y, fb0] at e; cases e
 obtain ⟨st, rp⟩ := R.part cu nc hc k
 have nd2 := (List.nodup_cons.mp R.nd).2
 have s2 : Same (cutH H0 H' (r :: lb :: (f :: L).map FH.b)) (cutH H0 H' (r :: lb :: L.map FH.b)) := cut_to fun e o h0 hn he => ⟨fun m => hn (by
   rcases List.mem_cons.mp m with y | m
   · rw [y]; exact .head _
   rcases List.mem_cons.mp m with y | m
   · rw [y]; exact .tail _ (.head _)
   · exact .tail _ (.tail _ (.tail _ m))), he⟩
 refine ⟨⟨fun e o h => k e o (nr h) (nl h) (nb h) (R.sm e o h), R.r0, R.l0, ⟨C, dx, fs, hr⟩, hl, fun h hh => ?_, List.nodup_cons.mpr ⟨fun m => (List.nodup_cons.mp R.nd).1 (.tail _ m), (List.nodup_cons.mp nd2).2⟩⟩, ?_⟩
 · obtain ⟨h1, h2, h3, h4, h5⟩ := R.fr h (.tail _ hh)
   obtain ⟨m1, m2, m3, m4⟩ := R.fne (.tail _ hh)
   have m5 : h.b ≠ f.b := fun y => (List.nodup_cons.mp nd2).1 (by rw [← y]; exact List.mem_map_of_mem hh)
   exact ⟨h1, h2, k _ _ m1 m2 (ne_of h3 fb (by intro y; cases y)) h3, k _ _ m3 m4 m5 h4, (h5.mono st).mono s2⟩
 · have ha : H' f.a = some (.tup [.str "root", .int (f.p : Int), .int (f.g : Int), .ref f.b]) := k _ _ n1 n2 (ne_of fa fb (by intro y; cases y)) fa
   have an : f.a ∉ r :: lb :: L.map FH.b := fun m => by
     rcases List.mem_cons.mp m with y | m
     · exact n1 y
     rcases List.mem_cons.mp m with y | m
     · exact n2 y
     obtain ⟨h, hh, y⟩ := List.mem_map.mp m
     have := (R.fr h (.tail _ hh)).2.2.2.1
     rw [y, fa] at this; cases this
   have bn : f.b ∉ r :: lb :: L.map FH.b := fun m => by
     rcases List.mem_cons.mp m with y | m
     · exact n3 y
     rcases List.mem_cons.mp m with y | m
     · exact n4 y
     exact (List.nodup_cons.mp nd2).1 m
   exact .tup (cut_at f0 an ha) (.cons (.str _) (.cons (.int _) (.cons (.int _) (.cons (.lst (cut_at fb0 bn hb) (rp.mono s2)) .nil))))
theorem Rd0.out (R : Rd0 H0 H r lb []) (cu : Cur H0 H r lb [] v (some d)) : RdV (mxG H0 noH H) v d := RdV.mono (fun c o e => by
 obtain ⟨x, _, y⟩ := cut_of e
 exact mxG_at (.inl x) y) cu
end
theorem b2_suf {p : Nat} {l : List Nat} : (∀ d rs, pbegin2 p l = .is d rs → rs <:+ l) ∧ ∀ a g rs, pbegin2 p l = .op a g rs → rs <:+ l := by
 unfold pbegin2
 refine ⟨fun d r h => ?_, fun a g r h => ?_⟩
 · split at h
   · cases h
   · rename_i e; have := pnum_suf e; injection h with _ h; subst h; exact suf_tail (suf_tail this)
   · cases h
   · cases h
 · split at h
   · cases h
   · cases h
   · rename_i e; have := pnum_suf e; injection h with _ _ h; subst h; exact suf_tail this
   · cases h
theorem begin_suf {l : List Nat} : (∀ d rs, pbegin l = .is d rs → rs <:+ l) ∧ ∀ a g rs, pbegin l = .op a g rs → rs <:+ l := by
 unfold pbegin
 refine ⟨fun d r h => ?_, fun a g r h => ?_⟩
 · split at h
   · cases h
   · rename_i e; exact (b2_suf.1 d r h).trans (suf_tail (pnum_suf e))
   · rename_i e; have := pnum_suf e
     split at h
     · injection h with _ h; subst h; exact this
     · cases h
 · split at h
   · cases h
   · rename_i e; exact (b2_suf.2 a g r h).trans (suf_tail (pnum_suf e))
   · split at h <;> cases h
theorem end_suf {l : List Nat} : (∀ t rs, pend l = .cl t rs → rs <:+ l) ∧ ∀ t rs, pend l = .go t rs → rs <:+ l := by
 refine ⟨fun d r h => ?_, fun a r h => ?_⟩
 · unfold pend at h
   split at h
   · split at h
     · cases h
     · rename_i e; injection h with _ h; subst h; exact (suf_tail (pnum_suf e)).trans (List.suffix_cons _ _)
     · cases h
     · cases h
   · cases h
 · unfold pend at h
   split at h
   · split at h
     · cases h
     · cases h
     · rename_i e; injection h with _ h; subst h; exact (suf_tail (suf_tail (pnum_suf e))).trans (List.suffix_cons _ _)
     · cases h
   · cases h
theorem begin_nn {l rs : List Nat} {d : PyData} (h : pbegin l = .is d rs) : d ≠ .none := by
 unfold pbegin at h
 split at h
 · cases h
 · unfold pbegin2 at h
   split at h
   · cases h
   · injection h with h _; subst h; intro z; cases z
   · cases h
   · cases h
 · split at h
   · injection h with h _; subst h; intro z; cases z
   · cases h
theorem rd_nn {H : Hp} {v : V} {d : PyData} (r : RdV H v d) (h : d ≠ .none) : v ≠ .non := by
 cases r <;> first | exact absurd rfl h | (intro z; cases z)
structure LI (CR : Addr) (H0 H : Hp) (r lb dx : Addr) (z : Str) (L : List FH) (v : V) (cur : Option PyData) (rs : List Nat) : Prop where
 R : Rd0 H0 H r lb L
 cu : Cur H0 H r lb L v cur
 hr : H r = some (.ins CR dx (rdr z (z.length - rs.length)))
 sf : rs <:+ z.cps.toList
 ll : L.length + rs.length ≤ z.length
 lx : ∀ f ∈ L, f.xs.length + rs.length ≤ z.length
 ne : L = [] → cur ≠ none
 nv : ∀ d, cur = some d → v ≠ .non
 ev : prun (L.map FH.fr) cur rs = pread z.cps.toList
end TX
namespace TX
open PySem L2
noncomputable def NBg (M T B : Nat) : Nat → PyData → Prop
 | 0, _ => False
 | n + 1, d => d = two ∨ ∃ (p g : Nat) (ps : List PyData), d = rootP p g ps ∧ p < M ∧ g < M ∧ ps.length ≤ B ∧ ∀ x ∈ ps, ∃ (t : PyData) (k : Nat), x = partP t k ∧ k ≤ T ∧ NBg M T B n t
noncomputable abbrev NB (B : Nat) : Nat → PyData → Prop := NBg (10 ^ 60) 400 B
theorem NBg.mono {M M' T T' B B' : Nat} (hM : M ≤ M') (hT : T ≤ T') (hB : B ≤ B') : ∀ {n m : Nat} {d : PyData}, n ≤ m → NBg M T B n d → NBg M' T' B' m d
 | 0, _, _, _, h => h.elim
 | n + 1, m + 1, d, hm, h => by
   rcases h with h | ⟨p, g, ps, e, hp, hg, l, q⟩
   · exact .inl h
   · refine .inr ⟨p, g, ps, e, Nat.lt_of_lt_of_le hp hM, Nat.lt_of_lt_of_le hg hM, Nat.le_trans l hB, fun x hx => ?_⟩
     obtain ⟨t, k, e, hk, r⟩ := q x hx
     exact ⟨t, k, e, Nat.le_trans hk hT, NBg.mono hM hT hB (by omega) r⟩
theorem t60 {k : Nat} (h : k ≤ 400) : k < 10 ^ 60 := Nat.lt_of_le_of_lt h (by decide +kernel)
theorem NBg.pos {M T B n : Nat} {d : PyData} (h : NBg M T B n d) : 0 < n := by
 cases n with
 | zero => exact h.elim
 | succ n => exact Nat.succ_pos n
theorem NBg.np {M T B : Nat} : ∀ {n : Nat} {d : PyData}, NBg M T B n d → NP n d
 | 0, _, h => h.elim
 | n + 1, d, h => by
   rcases h with h | ⟨p, g, ps, e, _, _, _, q⟩
   · exact .inl h
   · refine .inr ⟨p, g, ps, e, fun x hx => ?_⟩
     obtain ⟨t, k, e, _, r⟩ := q x hx
     exact ⟨t, k, e, NBg.np r⟩
theorem NBg.is {M T B : Nat} : ∀ {n : Nat} {d : PyData}, NBg M T B n d → IsP B n d
 | 0, _, h => h.elim
 | n + 1, d, h => by
   rcases h with h | ⟨p, g, ps, e, _, _, l, q⟩
   · exact .inl h
   · refine .inr ⟨p, g, ps, e, l, fun x hx => ?_⟩
     obtain ⟨t, k, e, _, r⟩ := q x hx
     exact ⟨t, k, e, NBg.is r⟩
theorem NB.mono {B B' : Nat} (hB : B ≤ B') {n m : Nat} {d : PyData} (hm : n ≤ m) (h : NB B n d) : NB B' m d := NBg.mono (Nat.le_refl _) (Nat.le_refl _) hB hm h
theorem jn_snoc (x : List Nat) : ∀ l : List (List Nat), jn (l ++ [x]) = jn l ++ ((if l = [] then [] else [44, 32]) ++ x)
 | [] => by simp [jn]
 | [y] => by simp [jn]
 | y :: z :: l => by
   have ih := jn_snoc x (z :: l)
   show y ++ 44 :: 32 :: jn ((z :: l) ++ [x]) = (y ++ 44 :: 32 :: jn (z :: l)) ++ _
   rw [ih]
   simp
theorem jn_sum : ∀ l : List (List Nat), (l.map List.length).sum + 2 * l.length ≤ (jn l).length + 2
 | [] => by simp [jn]
 | [y] => by simp [jn]
 | y :: z :: l => by
   have ih := jn_sum (z :: l)
   have e1 : (y ++ 44 :: 32 :: jn (z :: l)).length = y.length + ((jn (z :: l)).length + 1 + 1) := by rw [List.length_append, List.length_cons, List.length_cons]
   have e2 : (y :: z :: l).length = (z :: l).length + 1 := List.length_cons
   show y.length + ((z :: l).map List.length).sum + 2 * (y :: z :: l).length ≤ (y ++ 44 :: 32 :: jn (z :: l)).length + 2
   rw [e1, e2]
   omega
theorem jn_le {b : Nat} : ∀ l : List (List Nat), (∀ x ∈ l, x.length ≤ b) → (jn l).length ≤ l.length * (b + 2)
 | [], _ => by simp [jn]
 | [y], h => by
   have := h y (.head _)
   simp [jn]; omega
 | y :: z :: l, h => by
   have ih := jn_le (z :: l) fun x hx => h x (.tail _ hx)
   have := h y (.head _)
   show (y ++ 44 :: 32 :: jn (z :: l)).length ≤ _
   rw [List.length_append, List.length_cons, List.length_cons, List.length_cons (a := y), Nat.add_mul]
   omega
theorem jn_part {x : List Nat} : ∀ {l : List (List Nat)}, x ∈ l → x.length ≤ (jn l).length
 | [y], h => by
   have : x = y := by simpa using h
   subst this; simp [jn]
 | y :: z :: l, h => by
   show x.length ≤ (y ++ 44 :: 32 :: jn (z :: l)).length
   rw [List.length_append, List.length_cons, List.length_cons]
   rcases List.mem_cons.mp h with rfl | h
   · omega
   · have := jn_part h; omega
theorem jn_app : ∀ (a b : List (List Nat)), (jn a).length ≤ (jn (a ++ b)).length
 | [], _ => by simp [jn]
 | [y], b => by
   cases b with
   | nil => simp
   | cons z b => show y.length ≤ (y ++ 44 :: 32 :: jn (z :: b)).length; rw [List.length_append]; omega
 | y :: z :: a, b => by
   have := jn_app (z :: a) b
   show (y ++ 44 :: 32 :: jn (z :: a)).length ≤ (y ++ 44 :: 32 :: jn (z :: a ++ b)).length
   simp only [List.length_append, List.length_cons]
   omega
theorem jn_take {α : Type} (f : α → List Nat) (i : Nat) (l : List α) : (jn ((l.take i).map f)).length ≤ (jn (l.map f)).length := by
 have := jn_app ((l.take i).map f) ((l.drop i).map f)
 rwa [← List.map_append, List.take_append_drop] at this
noncomputable def pT (n : Nat) (x : PyData) : List Nat := sh n (fstP x) ++ 42 :: dg (tmP x).toNat
theorem sh_root' (n p g : Nat) (ps : List PyData) : sh (n + 1) (rootP p g ps) = dg p ++ 58 :: (dg g ++ 40 :: (jn (ps.map (pT n)) ++ [41])) := sh_root n p g ps
theorem sh_len {B L : Nat} : ∀ {n : Nat} {d : PyData}, NB B n d → (∀ t, NB B (n - 1) t → (sh (n - 1) t).length ≤ L) → (sh n d).length ≤ 123 + B * (L + 63)
 | 0, _, h, _ => h.elim
 | n + 1, d, h, hL => by
   rcases h with rfl | ⟨p, g, ps, rfl, hp, hg, l, q⟩
   · rw [sh_two]; simp; omega
   · rw [sh_root']
     have h1 : (jn (ps.map (pT n))).length ≤ (ps.map (pT n)).length * (L + 61 + 2) := jn_le _ fun x hx => by
       obtain ⟨y, hy, rfl⟩ := List.mem_map.mp hx
       obtain ⟨t, k, rfl, hk, r⟩ := q y hy
       have := hL t r
       have := dg_len (k := 59) (t60 hk)
       show (sh n t ++ 42 :: dg k).length ≤ _
       rw [List.length_append, List.length_cons]
       simp only [Nat.add_sub_cancel] at *
       omega
     rw [List.length_map] at h1
     have h2 : ps.length * (L + 61 + 2) ≤ B * (L + 63) := Nat.mul_le_mul l (Nat.le_refl _)
     have := dg_len (k := 59) hp
     have := dg_len (k := 59) hg
     simp only [List.length_append, List.length_cons, List.length_nil]
     omega
theorem drawn_len {d : PyData} (h : NB 3 4 d) : (sh 4 d).length ≤ 20000 := by
 have h1 : ∀ t, NB 3 1 t → (sh 1 t).length ≤ 400 := fun t ht => Nat.le_trans (sh_len (L := 0) ht fun t z => z.elim) (by decide)
 have h2 : ∀ t, NB 3 2 t → (sh 2 t).length ≤ 1600 := fun t ht => Nat.le_trans (sh_len (L := 400) ht h1) (by decide)
 have h3 : ∀ t, NB 3 3 t → (sh 3 t).length ≤ 6000 := fun t ht => Nat.le_trans (sh_len (L := 1600) ht h2) (by decide)
 exact Nat.le_trans (sh_len (L := 6000) h h3) (by decide)
noncomputable def tS (l : List Nat) : Str := ⟨l.toArray⟩
theorem tS_cps (l : List Nat) : (tS l).cps.toList = l := rfl
theorem tS_len (l : List Nat) : (tS l).length = l.length := by simp [tS, Str.length]
theorem tS_cat (a b : List Nat) : tS a ++ tS b = tS (a ++ b) := str_eq (by rw [Str.cps_append, Array.toList_append]; rfl)
theorem tS_int (n : Nat) : Str.ofString (toString (n : Int)) = tS (dg n) := int_text n
theorem join_tS (l : List (List Nat)) : Txt.join ", " (l.map tS) = tS (jn l) := str_eq (by rw [join_cps, tS_cps, List.map_map]; congr 1; exact List.map_id l)
theorem join_ok {l : List (List Nat)} (h : (jn l).length ≤ 10 ^ 6) : JoinOk ", " (l.map tS) = true := by
 unfold JoinOk
 rw [StrLaws.joinTotal]
 have h1 := jn_sum l
 have e1 : (l.map tS).map (fun y => y.length) = l.map List.length := by
   rw [List.map_map]
   exact List.map_congr_left fun x _ => tS_len x
 have e2 : (", " : Str).length = 2 := by decide +kernel
 rw [e1, List.length_map, e2]
 have e3 : sizeLine = 16777216 := by decide
 unfold Builtin.Str.tooLong
 rw [decide_eq_false (by omega)]
 rfl
theorem star_tS : ("*" : Str) = tS [42] := by decide +kernel
theorem colon_tS : (":" : Str) = tS [58] := by decide +kernel
theorem op_tS : ("(" : Str) = tS [40] := by decide +kernel
theorem cl_tS : (")" : Str) = tS [41] := by decide +kernel
theorem comma_tS : (", " : Str) = tS [44, 32] := by decide +kernel
theorem em_cat (a : List Nat) : Str.empty ++ tS a = tS a := tS_cat [] a
theorem sz6 {n : Nat} (h : n ≤ 10 ^ 7) : n ≤ sizeLine := by rw [sz_eq]; omega
noncomputable def AL : Nat → PyData → Prop
 | 0, _ => False
 | _ + 1, .int _ => True
 | _ + 1, .str _ => True
 | n + 1, .tuple ds => ds.length ≤ 900 ∧ ∀ x ∈ ds, AL n x
 | n + 1, .list ds => ds.length ≤ 900 ∧ ∀ x ∈ ds, AL n x
 | _ + 1, _ => False
theorem AL.pos {n : Nat} {d : PyData} (h : AL n d) : 0 < n := by
 cases n with
 | zero => exact h.elim
 | succ n => exact Nat.succ_pos n
theorem AL.up : ∀ {n : Nat} {d : PyData}, AL n d → AL (n + 1) d
 | 0, _, h => h.elim
 | n + 1, .int _, _ => trivial
 | n + 1, .str _, _ => trivial
 | n + 1, .tuple ds, h => ⟨h.1, fun x hx => (h.2 x hx).up⟩
 | n + 1, .list ds, h => ⟨h.1, fun x hx => (h.2 x hx).up⟩
 | n + 1, .none, h => h.elim
 | n + 1, .bool _, h => h.elim
theorem AL.mono {n m : Nat} {d : PyData} (hm : n ≤ m) (h : AL n d) : AL m d := by
 induction m with
 | zero =>
   have : n = 0 := by omega
   subst this; exact h
 | succ m ih =>
   by_cases e : n = m + 1
   · rw [← e]; exact h
   · exact (ih (by omega)).up
theorem AL.of {B : Nat} (hB : B ≤ 900) : ∀ {n : Nat} {d : PyData}, IsP B n d → AL (3 * n + 1) d
 | 0, _, h => h.elim
 | n + 1, d, h => by
   rcases h with rfl | ⟨p, g, ps, rfl, l, q⟩
   · exact ⟨by decide, fun x hx => by
       have : x = .str "two" := by simpa using hx
       subst this; exact trivial⟩
   · refine ⟨by show 4 ≤ 900; decide, fun x hx => ?_⟩
     simp only [List.mem_cons, List.not_mem_nil, or_false] at hx
     rcases hx with rfl | rfl | rfl | rfl
     · exact trivial
     · exact trivial
     · exact trivial
     · refine ⟨Nat.le_trans l hB, fun x hx => ?_⟩
       obtain ⟨t, k, rfl, r⟩ := q x hx
       have ih := AL.of hB r
       refine ⟨by show 2 ≤ 900; decide, fun y hy => ?_⟩
       simp only [List.mem_cons, List.not_mem_nil, or_false] at hy
       rcases hy with rfl | rfl
       · exact ih
       · exact trivial
theorem kit_ss {K : PySem.W.Frag} : PySem.W.kitOne K (.type "str") (.type "str") = some true := by rfl
noncomputable def dw : Nat → Nat
 | 0 => 1
 | n + 1 => 3 + 3 * dw n
theorem dw_pos (n : Nat) : 1 ≤ dw n := by cases n <;> simp [dw] <;> omega
theorem at_ns {ns : List Int} {i : Nat} (h : i < ns.length) : atI (ns.map V.int) (i : Int) = some (.int ns[i]) := atI_nat (by rw [List.getElem?_map, List.getElem?_eq_getElem h]; rfl)
theorem at_list {xs : List Int} {M : Int} (h : ∀ x ∈ xs, 0 ≤ x ∧ x < M) {i : Int} (h0 : 0 ≤ i) (h1 : i < xs.length) : ∃ p : Nat, atI (xs.map V.int) i = some (.int (p : Int)) ∧ (p : Int) < M ∧ (p : Int) ∈ xs := by
 obtain ⟨j, rfl⟩ := Int.eq_ofNat_of_zero_le h0
 have hj : j < xs.length := by omega
 obtain ⟨a, b⟩ := h xs[j] (List.getElem_mem hj)
 obtain ⟨p, hp⟩ := Int.eq_ofNat_of_zero_le a
 exact ⟨p, by rw [at_ns hj, hp], by rw [← show xs[j] = (p : Int) from hp]; exact b, by rw [← show xs[j] = (p : Int) from hp]; exact List.getElem_mem hj⟩
theorem mod_lt {x M : Int} (h : 0 < M) : 0 ≤ x % M ∧ x % M < M := ⟨Int.emod_nonneg _ (by omega), Int.emod_lt_of_pos _ h⟩
theorem _root_.L2.IsP.pos {B n : Nat} {d : PyData} (h : IsP B n d) : 0 < n := by
 cases n with
 | zero => exact h.elim
 | succ n => exact Nat.succ_pos n
theorem wrap_nb {M T n p g k : Nat} {d : PyData} (h : NBg M T 3 (n + 1) d) (hp : p < M) (hg : g < M) (hT : 1 ≤ T) (hk : k ≤ T) : NBg M T 3 (n + 2) (rootP p g [partP two (1 : Nat), partP d k]) := by
 refine .inr ⟨p, g, _, rfl, hp, hg, by show 2 ≤ 3; decide, fun x hx => ?_⟩
 simp only [List.mem_cons, List.not_mem_nil, or_false] at hx
 rcases hx with rfl | rfl
 · exact ⟨two, 1, rfl, hT, .inl rfl⟩
 · exact ⟨d, k, rfl, hk, h⟩
theorem wrap_len {n p g k : Nat} {d : PyData} (hp : p < 10 ^ 60) (hg : g < 10 ^ 60) (hk : k ≤ 400) : (sh (n + 2) (rootP p g [partP two (1 : Nat), partP d k])).length ≤ (sh (n + 1) d).length + 200 := by
 rw [sh_root']
 have e : jn ([partP two ((1 : Nat) : Int), partP d (k : Int)].map (pT (n + 1))) = ([50] ++ 42 :: dg 1) ++ 44 :: 32 :: (sh (n + 1) d ++ 42 :: dg k) := by
   show (sh (n + 1) two ++ 42 :: dg 1) ++ 44 :: 32 :: (sh (n + 1) d ++ 42 :: dg k) = _
   rw [sh_two]
 rw [e]
 have := dg_len (k := 59) hp
 have := dg_len (k := 59) hg
 have := dg_len (k := 59) (t60 hk)
 have : (dg 1).length = 1 := by rw [dg_lt (by decide)]; rfl
 simp only [List.length_append, List.length_cons, List.length_nil]
 omega
end TX
namespace L2
open PySem PySem.Spec PyProof.Rows
section
variable {X : Cx} {e : Expr} {te : TE} {pos p2 p4 p5 : Pos} {j : Nat}
end
section
variable {X : Cx} {scope : Scope} {cl : List (Str × Addr)} {N : List Str} {ex : List Addr} {s₃ : Shared} {H₃ : Hp}
end
noncomputable def notStar : Expr → Bool
 | .Starred .. => false
 | _ => true
theorem star_cons {e : Expr} {es : List Expr} {env : Env} (h : notStar e = true) : starEach (e :: es) env = (false, eval e env) :: starEach es env := by
 cases e <;> first | (cases h; done) | rfl
theorem pa_consN {X : Cx} {e : Expr} {es : List Expr} {te : TE} {t : TA} (ha : PE X e te) (hr : PA X es t) (hs : notStar e = true := by rfl) : PA X (e :: es) (tCons te t) := pa_cons ha hr (star_cons hs)
section
variable {X : Cx} {e a b : Expr} {es : List Expr} {te ta tb : TE} {t : TA} {pos : Pos}
end
end L2
namespace L2
open PySem PySem.Spec PyProof.Rows
end L2
namespace L2
open PySem PySem.Spec PyProof.Rows
end L2
namespace L2
open PySem PySem.Spec PyProof.Rows
section
variable {X : Cx} {e o tg iter : Expr} {es : List Expr} {te to : TE} {t u : TS} {ta : TA} {st : Stmt} {sts : List Stmt} {pos : Pos} {wi : TI} {g : TG}
end
end L2
namespace NT
end NT
namespace L2
open PySem PySem.Spec PyProof.Rows
section
variable {X : Cx}
end
end L2
namespace L2
open PySem PySem.Spec PyProof.Rows
end L2
namespace L2
open PySem PySem.Spec PyProof.Rows
end L2
namespace L2
open PySem PySem.Spec PyProof.Rows
section
variable {X : Cx} {scope : Scope} {cl : List (Str × Addr)} {N : List Str} {ex : List Addr} {s₃ : Shared} {H₃ : Hp}
end
end L2
namespace L2
open PySem PySem.Spec PyProof.Rows
end L2
namespace L2
open PySem PySem.Spec PySem.Calls PyProof.Rows
section
variable {X : Cx}
noncomputable def CMR (i j : Int) : Prop := -(2 ^ 62) < j ∧ j < 2 ^ 62
theorem op_mulR : OpR X (binaryOp .Mult) (rI CMR fun i j => .int (i * j)) := opI fun _ _ _ _ _ _ _ hc q => mul_int q (IntMulOk.of_right (PySem.intBits_le_64 (by unfold CMR at hc; omega) (by unfold CMR at hc; omega)))
theorem bt_str : bootBuiltins "str" = some (.type "str") := by decide +kernel
theorem btl_list : bootBuiltins "list" = some (.type "list") := by decide +kernel
theorem kit_is' {K : PySem.W.Frag} : PySem.W.kitOne K (.type "int") (.type "str") = some false := by rfl
theorem kit_itl {K : PySem.W.Frag} : PySem.W.kitAny K (.type "int") (["tuple", "list"].map Value.type) = some false := by rfl
theorem tys_of : ∀ {Ts : List String} {us : List Value}, Vals (Ts.map V.ty) us → us = Ts.map Value.type
 | [], _, .nil => rfl
 | _ :: _, _, .cons r rr => by
   cases r
   rw [tys_of rr]; rfl
variable {pos : Pos}
end
end L2
namespace L2
open PySem PySem.Spec PyProof.Rows
section
variable {X : Cx} {scope : Scope} {cl : List (Str × Addr)} {N : List Str} {ex : List Addr} {s₃ : Shared} {H₃ : Hp}
theorem pg_tupC {es : List Expr} {k : Nat} {t : TGs} {n : Nat} {pos : Pos} (hc : (blk X scope cl N ex s₃ H₃).calm = true) (h : PGs (blk X scope cl N ex s₃ H₃) es t)
   (hn : (assignEach es (blk X scope cl N ex s₃ H₃).env).length = n := by rfl) (hst : (assignEach es (blk X scope cl N ex s₃ H₃).env).findIdx? (·.1) = none := by rfl) : PG (blk X scope cl N ex s₃ H₃) (.Tuple es k pos) (gTup X.K n t) := pg_tup (X := blk X scope cl N ex s₃ H₃) hc h hn hst
end
end L2
namespace L2
end L2
namespace L2
open PySem PySem.Spec PySem.Calls PyProof.Rows
end L2
namespace L2
open PySem PySem.Spec PySem.Calls PyProof.Rows
end L2
namespace L2
open PySem PySem.Spec PySem.Calls PyProof.Rows
section
variable {X : Cx} {pins : List (Addr × Obj)} {σ : St} {H : Hp} {s : Shared} {A : Around} {E : Value → Shared → Prop} {Q : Value → Shared → Prop} {b : Bool}
theorem call_isVT : CallR X (.builtin "isinstance") (fun xs H Q => ∃ (x : V) (t : Addr) (Ts : List String) (T : String) (b : Bool), xs = [x, .ref t] ∧ ((∃ i, x = .int i ∧ T = "int") ∨ ∃ a ys, x = .ref a ∧ H a = some (.lst ys) ∧ T = "list") ∧ H t = some (.tup (Ts.map V.ty)) ∧ PySem.W.kitAny X.K (.type T) (Ts.map Value.type) = some b ∧ Q (.bl b) H) := by
 intro pins s σ H xs us Q I r h
 obtain ⟨x, t, Ts, T, b, rfl, hx, ht, hc, q⟩ := h
 obtain ⟨u, v, rfl, r1, r2⟩ := r.two
 cases r2
 obtain ⟨_, its, rv, ob, e1, ec⟩ := I.hok t _ ht
 have hits : its = Ts.map Value.type := tys_of rv
 subst hits
 obtain ⟨cl, dd, dt, sl⟩ := ob
 obtain ⟨rfl, n, rfl⟩ := ec
 rcases hx with ⟨i, rfl, rfl⟩ | ⟨a, ys, rfl, ha, rfl⟩
 · obtain ⟨tk, z⟩ := (show ∃ t, u = Value.int i t from r1)
   subst z
   exact PySem.W.kia_tup PySem.W.kitx_int I.kIn True.intro e1 hc (by intro z; cases z) fun tk => ⟨.bl b, H, I.tok _, rfl, q⟩
 · cases r1
   obtain ⟨_, _, n', _, h1⟩ := (show ObjOk X.prog X.w H s.heap a (.lst ys) from I.hok a _ ha)
   exact PySem.W.kia_tup PySem.W.kitx_list I.kIn ⟨_, h1, rfl⟩ e1 hc (by intro z; cases z) fun tk => ⟨.bl b, H, I.tok _, rfl, q⟩
theorem kit_ltl {K : PySem.W.Frag} : PySem.W.kitAny K (.type "list") (["tuple", "list"].map Value.type) = some true := by rfl
theorem kit_ls {K : PySem.W.Frag} : PySem.W.kitOne K (.type "list") (.type "str") = some false := by rfl
theorem kit_lt {K : PySem.W.Frag} : PySem.W.kitOne K (.type "list") (.type "tuple") = some false := by rfl
end
end L2
namespace L2
open PySem PySem.Spec PySem.Calls PyProof.Rows
section
variable {X : Cx}
theorem op_mulS : OpR X (binaryOp .Mult) (fun x y H Q => ∃ (i : Str) (b : Bool), x = .str i ∧ y = .int (if b = true then 1 else 0) ∧ Q (.str (if b = true then i else Str.empty)) H) := by
 intro pins s σ H x y v u Q I rx ry h
 obtain ⟨i, b, rfl, rfl, q⟩ := h
 obtain ⟨t, rfl⟩ := rx
 obtain ⟨t', rfl⟩ := ry
 cases b with
 | true =>
   refine PySem.P.mul_str (by decide) (fun _ z => by simp at z) (fun _ z => by simp at z) ?_
   exact ⟨.str i, H, I, ⟨_, rfl⟩, q⟩
 | false =>
   exact PySem.P.mul_str_none (by decide) (by decide) ⟨.str Str.empty, H, I.tok _, ⟨_, rfl⟩, q⟩
end
end L2
namespace L2
open PySem PySem.Spec PySem.Calls PyProof.Rows
section
variable {X : Cx}
end
end L2
namespace L2
open PySem PySem.Spec PySem.Calls PyProof.Rows
section
variable {X : Cx} {pins : List (Addr × Obj)} {σ : St} {H H' : Hp} {s : Shared} {h' : Heap}
end
section
variable {X : Cx}
end
end L2
namespace L2
open PySem PySem.Spec PySem.Calls PyProof.Rows
section
variable {X : Cx}
end
section
variable {X : Cx}
end
end L2
namespace L2
open PySem PySem.Spec PyProof.Rows
section
variable {X : Cx} {tg : Expr}
end
section
variable {X : Cx} {scope : Scope} {cl : List (Str × Addr)} {N : List Str} {ex : List Addr} {s₃ : Shared} {H₃ : Hp}
end
end L2
namespace L2
open PySem PySem.Spec PySem.Calls PyProof.Rows
section
variable {X : Cx} {hv : Value} {o e : Expr} {es : List Expr} {to : TE} {t : TA} {name : Str} {apos cpos : Pos} {T id : String} {r : V → List V → Hp → VK → Prop}
end
section
variable {K : PySem.W.Frag} {a l : Addr} {xs : List V} {g : TG} {tt : TT} {te : TE} {Q : VK} {σ : St} {H : Hp}
end
section
variable {X : Cx}
end
end L2
namespace L2
open PySem PySem.Spec PySem.Calls PyProof.Rows
section
variable {X : Cx}
end
end L2
namespace NT
end NT
namespace NT
end NT
namespace L2
open PySem PySem.Spec PySem.Calls PyProof.Rows
end L2
namespace L2
open PySem PySem.W PySem.Calls PyProof.Rows
end L2
namespace L2
open PySem PySem.Spec PySem.W PySem.Calls PyProof.Rows
section
variable {prog : Program} {w : World} {A : Around} {E : Value → Shared → Prop} {s : Shared}
end
theorem kit_ts {K : PySem.W.Frag} : PySem.W.kitOne K (.type "tuple") (.type "str") = some false := by rfl
theorem kit_ttl {K : PySem.W.Frag} : PySem.W.kitAny K (.type "tuple") (["tuple", "list"].map Value.type) = some true := by rfl
section
variable {X : Cx} {scope : Scope} {cl : List (Str × Addr)} {N : List Str} {ex : List Addr} {s₃ : Shared} {H₃ : Hp}
noncomputable def rIxV (K : PySem.W.Frag) : R2 := fun x y H Q => rIxL K x y H Q ∨ rIxT K x y H Q
theorem ix_vC : IxR (blk X scope cl N ex s₃ H₃) (rIxV X.K) := IxR.or (ix_list (X := blk X scope cl N ex s₃ H₃)) (ix_tup (X := blk X scope cl N ex s₃ H₃))
theorem call_isV3 : CallR X (.builtin "isinstance") (fun xs H Q => ∃ (x : V) (t : Addr) (Ts : List String) (T : String) (b : Bool), xs = [x, .ref t] ∧ ((∃ i, x = .int i ∧ T = "int") ∨ (∃ a ys, x = .ref a ∧ H a = some (.lst ys) ∧ T = "list") ∨ ∃ a ys, x = .ref a ∧ H a = some (.tup ys) ∧ T = "tuple") ∧ H t = some (.tup (Ts.map V.ty)) ∧ PySem.W.kitAny X.K (.type T) (Ts.map Value.type) = some b ∧ Q (.bl b) H) := by
 intro pins s σ H xs us Q I r h
 obtain ⟨x, t, Ts, T, b, rfl, hx, ht, hc, q⟩ := h
 rcases hx with hx | hx | ⟨a, ys, rfl, ha, rfl⟩
 · exact call_isVT pins s σ H _ us Q I r ⟨x, t, Ts, T, b, rfl, .inl hx, ht, hc, q⟩
 · exact call_isVT pins s σ H _ us Q I r ⟨x, t, Ts, T, b, rfl, .inr hx, ht, hc, q⟩
 obtain ⟨u, v, rfl, r1, r2⟩ := r.two
 cases r2
 obtain ⟨_, its, rv, ob, e1, ec⟩ := I.hok t _ ht
 have hits : its = Ts.map Value.type := tys_of rv
 subst hits
 obtain ⟨cl, dd, dt, sl⟩ := ob
 obtain ⟨rfl, n, rfl⟩ := ec
 cases r1
 obtain ⟨_, its', _, o', h1, h2, n', h3⟩ := (show ObjOk X.prog X.w H s.heap a (.tup ys) from I.hok a _ ha)
 exact PySem.W.kia_tup PySem.W.kitx_tuple I.kIn ⟨_, h1, h2⟩ e1 hc (by intro z; cases z) fun tk => ⟨.bl b, H, I.tok _, rfl, q⟩
end
section
variable {X : Cx}
noncomputable def HT (H : Hp) : List Addr → List (Nat × Nat) → Hp
 | a :: as, m :: M => upd (HT H as M) a (.tup [.int (m.1 : Int), .int (m.2 : Int)])
 | _, _ => H
end
end L2
namespace L2
open PySem PySem.Spec PySem.Calls PyProof.Rows
section
variable {X : Cx}
end
end L2
namespace L2
open PySem PySem.Spec PySem.Calls PyProof.Rows
section
variable {X : Cx}
noncomputable def kB (j : Int) : Bool := Nat.blt j.natAbs 4611686018427387904
noncomputable def kP (j : Int) : Bool := decide (0 < j) && kB j
theorem kB_bits {j : Int} (h : kB j = true) : Builtin.Int.intBits j ≤ 64 := by
 have h : j.natAbs < 4611686018427387904 := Nat.lt_of_succ_le (Nat.le_of_ble_eq_true h)
 exact PySem.intBits_le_64 (by omega) (by omega)
theorem kP_lt {j : Int} (h : kP j = true) : 0 < j ∧ j < 10 ^ 150 := by
 unfold kP at h
 rw [Bool.and_eq_true, decide_eq_true_iff] at h
 have h2 : j.natAbs < 4611686018427387904 := Nat.lt_of_succ_le (Nat.le_of_ble_eq_true h.2)
 exact ⟨h.1, by omega⟩
theorem op_mulKR : OpR X (binaryOp .Mult) (rI (fun _ j => kB j = true) fun i j => .int (i * j)) := opI fun _ _ _ _ _ _ _ hc q => mul_int q (IntMulOk.of_right (kB_bits hc))
theorem op_mulKL : OpR X (binaryOp .Mult) (rI (fun i _ => kB i = true) fun i j => .int (i * j)) := opI fun _ _ _ _ _ _ _ hc q => mul_int q (IntMulOk.of_left (kB_bits hc))
theorem op_modK : OpR X (binaryOp .Mod) (rI (fun _ j => kP j = true) fun i j => .int (i % j)) := fun pins s σ H x y v u Q I rx ry h => by
 obtain ⟨i, j, rfl, rfl, hc, q⟩ := h
 exact op_mod pins s σ H _ _ v u Q I rx ry ⟨i, j, rfl, rfl, (kP_lt hc).1, q⟩
theorem op_fdivK : OpR X (binaryOp .FloorDiv) (rI (fun _ j => kP j = true) fun i j => .int (i / j)) := fun pins s σ H x y v u Q I rx ry h => by
 obtain ⟨i, j, rfl, rfl, hc, q⟩ := h
 exact op_fdivB pins s σ H _ _ v u Q I rx ry ⟨i, j, rfl, rfl, kP_lt hc, q⟩
end
end L2
namespace L2
open PySem PySem.Spec PySem.Calls PyProof.Rows
section
variable {X : Cx}
end
end L2
namespace My
open PySem L2
open PyProof.Rows (OwnCls)
local macro_rules | `(tactic| walk_at "r") => `(tactic| (repeat (first | refine ⟨(show (1 : Int) ≤ _ by omega), ?_⟩ | refine ⟨_, rfl, ?_⟩ | refine ⟨_, _, rfl, rfl, ?_⟩ | refine ⟨rfl, ?_⟩ | refine ⟨(show (0 : Int) < _ by omega), ?_⟩ | refine ⟨(⟨⟨by omega, by omega⟩, by omega, by omega⟩ : CMB _ _), ?_⟩ | refine ⟨(⟨by omega, by omega⟩ : CDB _ _), ?_⟩ | refine ⟨(len_small (by simp) : _ ≤ sizeLine), ?_⟩ | refine ⟨_, _, rfl, ?_⟩)))
noncomputable def hide (D : Addr) (H : Hp) : Hp := fun b => if b = D then none else H b
theorem hide_at {D b : Addr} {H : Hp} {o : HO} (h : b ≠ D) (e : H b = some o) : hide D H b = some o := by unfold hide; rw [if_neg h]; exact e
theorem hide_of {D b : Addr} {H : Hp} {o : HO} (e : hide D H b = some o) : b ≠ D ∧ H b = some o := by
 unfold hide at e
 split at e
 · cases e
 · exact ⟨by assumption, e⟩
noncomputable def tG (G : Hp) : Hp := fun a => match G a with
 | some (.tup vs) => some (.tup vs)
 | _ => none
theorem tG_at {G : Hp} {a : Addr} {vs : List V} (h : G a = some (.tup vs)) : tG G a ≠ none := by unfold tG; rw [h]; simp
theorem tG_none {G : Hp} {a : Addr} (h : G a = none) : tG G a = none := by unfold tG; rw [h]
noncomputable def top (i : Nat) : Stmt := PySem.Challenge.pw_rootpapers_k60_papers_written.main.body.getD i (.Pass ⟨0, 0, 0, 0⟩)
noncomputable abbrev s_number_of : Stmt := top 6
theorem sc_number_of : FnScope ["figures", "number", "sign"] ["figures"] (defScope s_number_of) := ⟨rfl, rfl, rfl, by decide +kernel, rfl, by decide +kernel, by decide +kernel⟩
noncomputable abbrev s_Reader_init : Stmt := inClass (top 7) 0
theorem sc_Reader_init : FnScope ["self", "text"] ["self", "text"] (defScope s_Reader_init) := ⟨rfl, rfl, rfl, by decide +kernel, rfl, by decide +kernel, by decide +kernel⟩
noncomputable abbrev s_Reader_at_end : Stmt := inClass (top 7) 1
theorem sc_Reader_at_end : FnScope ["self"] ["self"] (defScope s_Reader_at_end) := ⟨rfl, rfl, rfl, by decide +kernel, rfl, by decide +kernel, by decide +kernel⟩
noncomputable abbrev s_Reader_takes : Stmt := inClass (top 7) 2
theorem sc_Reader_takes : FnScope ["self", "signs"] ["self", "signs"] (defScope s_Reader_takes) := ⟨rfl, rfl, rfl, by decide +kernel, rfl, by decide +kernel, by decide +kernel⟩
noncomputable abbrev s_Reader_needs : Stmt := inClass (top 7) 3
theorem sc_Reader_needs : FnScope ["self", "signs"] ["self", "signs"] (defScope s_Reader_needs) := ⟨rfl, rfl, rfl, by decide +kernel, rfl, by decide +kernel, by decide +kernel⟩
noncomputable abbrev s_Reader_number : Stmt := inClass (top 7) 4
theorem sc_Reader_number : FnScope ["self", "start", "found"] ["self"] (defScope s_Reader_number) := ⟨rfl, rfl, rfl, by decide +kernel, rfl, by decide +kernel, by decide +kernel⟩
noncomputable abbrev s_begin_paper : Stmt := top 9
theorem sc_begin_paper : FnScope ["reader", "begun", "p", "g", "paper"] ["reader", "begun"] (defScope s_begin_paper) := ⟨rfl, rfl, rfl, by decide +kernel, rfl, by decide +kernel, by decide +kernel⟩
noncomputable abbrev s_end_part : Stmt := top 10
theorem sc_end_part : FnScope ["reader", "begun", "paper", "times"] ["reader", "begun", "paper"] (defScope s_end_part) := ⟨rfl, rfl, rfl, by decide +kernel, rfl, by decide +kernel, by decide +kernel⟩
noncomputable abbrev s_read_paper : Stmt := top 8
theorem sc_read_paper : FnScope ["text", "reader", "begun", "paper"] ["text"] (defScope s_read_paper) := ⟨rfl, rfl, rfl, by decide +kernel, rfl, by decide +kernel, by decide +kernel⟩
noncomputable abbrev s_show_paper : Stmt := top 5
theorem sc_show_paper : FnScope ["paper", "p", "g", "shown", "part", "inner", "times", "parts"] ["paper"] (defScope s_show_paper) := ⟨rfl, rfl, rfl, by decide +kernel, rfl, by decide +kernel, by decide +kernel⟩
noncomputable abbrev s__law_cell_at : Stmt := top 12
theorem sc__law_cell_at : FnScope ["script", "k"] ["script", "k"] (defScope s__law_cell_at) := ⟨rfl, rfl, rfl, by decide +kernel, rfl, by decide +kernel, by decide +kernel⟩
noncomputable abbrev s__law_digits : Stmt := top 13
theorem sc__law_digits : FnScope ["cell", "many", "top", "found", "rest", "k", "stir"] ["cell", "many", "top"] (defScope s__law_digits) := ⟨rfl, rfl, rfl, by decide +kernel, rfl, by decide +kernel, by decide +kernel⟩
noncomputable abbrev s__law_alike : Stmt := top 14
theorem sc__law_alike : FnScope ["found", "due"] ["found", "due"] (defScope s__law_alike) := ⟨rfl, rfl, rfl, by decide +kernel, rfl, by decide +kernel, by decide +kernel⟩
noncomputable abbrev s__law_drawn_paper : Stmt := top 15
theorem sc__law_drawn_paper : FnScope ["xs", "at", "deep", "kind", "p", "g", "many", "parts", "k", "one"] ["xs", "at", "deep"] (defScope s__law_drawn_paper) := ⟨rfl, rfl, rfl, by decide +kernel, rfl, by decide +kernel, by decide +kernel⟩
noncomputable abbrev s__law_paper : Stmt := top 16
theorem sc__law_paper : FnScope ["cell", "xs", "paper", "k"] ["cell"] (defScope s__law_paper) := ⟨rfl, rfl, rfl, by decide +kernel, rfl, by decide +kernel, by decide +kernel⟩
noncomputable abbrev s__law_shown : Stmt := top 17
theorem sc__law_shown : FnScope ["paper", "text", "k", "one", "times"] ["paper"] (defScope s__law_shown) := ⟨rfl, rfl, rfl, by decide +kernel, rfl, by decide +kernel, by decide +kernel⟩
noncomputable abbrev s__law_copy : Stmt := top 18
theorem sc__law_copy : FnScope ["paper"] ["paper"] (defScope s__law_copy) := ⟨rfl, rfl, rfl, by decide +kernel, rfl, by decide +kernel, by decide +kernel⟩
noncomputable abbrev s_law : Stmt := top 19
theorem sc_law : FnScope ["script", "k", "paper", "due", "given", "found", "back"] ["script"] (defScope s_law) := ⟨rfl, rfl, rfl, by decide +kernel, rfl, by decide +kernel, by decide +kernel⟩
section
variable {P : Program} {w : World} {K : PySem.W.Frag} {mg : Str → Option Value} {base : Heap} {CR : Addr}
noncomputable def sp_number_of (K : PySem.W.Frag) : Sp := fun vs H Q _ => ∃ (z : Str), vs = [.str z] ∧ z.length ≤ 10 ^ 6 ∧ Q (TX.nofV z) H
theorem ok_number_of {f : Addr} {fd : FuncData} (F : Fun K "number_of" "number_of" s_number_of f fd) {t_FIGURES : Tok} (w_FIGURES : mg "FIGURES" = some (.str "0123456789" t_FIGURES)) : FnOk P w K mg base CX0 1 f fd ["figures"] (sp_number_of K) := by
 refine F.ok sc_number_of (fun vs H Q E h => ?_) (fun cdv A outer s H vs Q E hr h => ?_)
 · obtain ⟨z, rfl, _⟩ := h
   rfl
 obtain ⟨z, rfl, hz, q⟩ := h
 refine ⟨_, (pss_cons (ps_if (PW.pt (pw_or (pt_cmpR op_eq (pv 0) pe_str (nomark _)) (pw_or1 (PW.pt (pw_and (pt_cmpR op_eq (pe_ix ix_str (pv 0) pe_int (fun _ _ => rfl)) pe_str (nomark _)) (pw_and1 (pt_cmpR op_ne (pv 0) pe_str (nomark _)))))))) (pss_one (ps_ret pe_non)) pss_nil)
     (pss_cons (ps_set (i := 1) sc_number_of.nd rfl (Or.inl rfl) pe_int)
     (pss_cons (ps_for PassesOwn.never rfl (pi_str (pv 0)) (pg_name (i := 2) sc_number_of.nd rfl (Or.inl rfl)) (pss_cons (ps_if (pt_cmpR op_notin_str (pv 2) (pe_glob (v := .str "0123456789") rfl w_FIGURES ⟨_, rfl⟩) rfl) (pss_one (ps_ret pe_non)) pss_nil)
     (pss_one (ps_set (i := 1) sc_number_of.nd rfl (Or.inl rfl) (pe_op op_add (pe_op op_mulKR (pv 1) pe_int) (pe_bm PySem.F.plainAttrs_str PySem.F.slot_str_index PySem.F.type_str_index mt_sIndex (pe_glob (v := .str "0123456789") rfl w_FIGURES ⟨_, rfl⟩) (pa_cons (pv 2) pa_nil)))))))
     (pss_one (ps_ret (pv 1)))))), ?_⟩
 walk_at "r"
 refine ite2 (fun cc => ?_) (fun cc => ?_)
 · have e : z = "" := by injection (of_decide_eq_true cc)
   walk_at "r"
   have e2 : TX.nofV z = .non := by rw [e]; rfl
   rw [← e2]
   exact q
 have z0 : z ≠ "" := fun e => cc (decide_eq_true (by rw [e]))
 obtain ⟨c, r, ez⟩ : ∃ c r, z.cps.toList = c :: r := by
   cases e : z.cps.toList with
   | nil => exact absurd (TX.str_eq (by rw [e]; rfl)) z0
   | cons c r => exact ⟨c, r, rfl⟩
 have hN : ∀ b : Bool, (b = true ↔ c = 48 ∧ r ≠ []) → (if b = true then Q .non H else ∀ (Pn : Prop), ((TX.okN z.cps.toList = true) → Pn) → Pn) → Q (TX.nofV z) H → True := fun _ _ _ _ => trivial
 clear hN
 walk_at "r"
 refine ⟨z, 0, c, rfl, rfl, TX.sz hz, by rw [ez]; exact atI_nat rfl, ?_⟩
 walk_at "r"
 refine ite2 (fun c0 => ?_) (fun c0 => ?_)
 · have c0 : c = 48 := by
     have := of_decide_eq_true c0
     rw [TX.zero_cps] at this
     injection this with this
     injection this with this
     simpa using this
   walk_at "r"
   refine ite2 (fun c1 => ?_) (fun c1 => ?_)
   · have e2 : TX.nofV z = .non := by
       unfold TX.nofV
       rw [ez, TX.nof_no ⟨c0, fun zr => ?_⟩]
       rw [zr] at ez
       have := TX.str_one c z ez
       rw [c0] at this
       rw [this, TX.zero_cps] at c1
       simp at c1
     walk_at "r"
     rw [← e2]
     exact q
   · have er : r = [] := by
       have : z = ("0" : Str) := by simpa using c1
       rw [this, TX.zero_cps] at ez
       injection ez with _ ez
       exact ez.symm
     have ok : TX.okN z.cps.toList = true := by rw [ez]; exact TX.nof_ok (by exact fun h => h.2 er)
     walk_at "r"
     refine for_str (fun i σ H' => i ≤ z.length ∧ H' = H ∧ ∃ r2 : Option V, σ = ([some (.str z), some (.int (TX.val (z.cps.toList.take i))), r2] : St) ∧ (z.cps.toList.take i).all TX.isD = true) ⟨Nat.zero_le _, rfl, none, rfl, rfl⟩ ?_ ?_
     · rintro i d _ _ hd ⟨hi, rfl, r2, rfl, ha⟩
       have hd : z.cps.toList[i]? = some d := by simpa using hd
       walk_at "r"
       have e3 := TX.in_fig d
       refine ite2 (fun c3 => ?_) (fun c3 => ?_)
       · have c3 : TX.isD d = false := by
           have c4 : (!(!(Builtin.Str.occurrences TX.FIG ⟨#[d]⟩ 0 TX.FIG.length 1).isEmpty)) = true := c3
           rw [e3] at c4; simpa using c4
         have e2 : TX.nofV z = .non := by
           unfold TX.nofV TX.nof
           rw [if_neg]
           rintro ⟨_, a⟩
           have := List.all_eq_true.mp a d (List.mem_of_getElem? hd)
           rw [c3] at this; cases this
         walk_at "r"
         rw [← e2]
         exact q
       · have c3 : TX.isD d = true := by
           have c4 : ¬ (!(!(Builtin.Str.occurrences TX.FIG ⟨#[d]⟩ 0 TX.FIG.length 1).isEmpty)) = true := c3
           rw [e3] at c4; simpa using c4
         walk_at "r"
         refine ⟨TX.FIG, ⟨#[d]⟩, d - 48, [], rfl, rfl, TX.idx_fig c3, ?_⟩
         walk_at "r"
         have hi' : i < z.length := by have := (List.getElem?_eq_some_iff.mp hd).1; rw [TX.len_toList] at this; exact this
         refine ⟨hi', rfl, some (.str ⟨#[d]⟩), ?_, ?_⟩
         · rw [TX.val_take hd]
           rfl
         · rw [List.take_succ, hd]
           simp [ha, c3]
     · rintro _ _ ⟨_, rfl, r2, rfl, ha⟩
       walk_at "r"
       have e2 : TX.nofV z = .int (TX.val z.cps.toList) := by
         rw [← TX.len_toList, List.take_length] at ha
         unfold TX.nofV TX.nof
         rw [if_pos ⟨ok, ha⟩]
       rw [← TX.len_toList, List.take_length, ← e2]
       exact q
 · have c0 : c ≠ 48 := fun e => c0 (decide_eq_true (by rw [e, TX.zero_cps]))
   have ok : TX.okN z.cps.toList = true := by rw [ez]; exact TX.nof_ok (by exact fun h => c0 h.1)
   walk_at "r"
   refine for_str (fun i σ H' => i ≤ z.length ∧ H' = H ∧ ∃ r2 : Option V, σ = ([some (.str z), some (.int (TX.val (z.cps.toList.take i))), r2] : St) ∧ (z.cps.toList.take i).all TX.isD = true) ⟨Nat.zero_le _, rfl, none, rfl, rfl⟩ ?_ ?_
   · rintro i d _ _ hd ⟨hi, rfl, r2, rfl, ha⟩
     have hd : z.cps.toList[i]? = some d := by simpa using hd
     walk_at "r"
     have e3 := TX.in_fig d
     refine ite2 (fun c3 => ?_) (fun c3 => ?_)
     · have c3 : TX.isD d = false := by
         have c4 : (!(!(Builtin.Str.occurrences TX.FIG ⟨#[d]⟩ 0 TX.FIG.length 1).isEmpty)) = true := c3
         rw [e3] at c4; simpa using c4
       have e2 : TX.nofV z = .non := by
         unfold TX.nofV TX.nof
         rw [if_neg]
         rintro ⟨_, a⟩
         have := List.all_eq_true.mp a d (List.mem_of_getElem? hd)
         rw [c3] at this; cases this
       walk_at "r"
       rw [← e2]
       exact q
     · have c3 : TX.isD d = true := by
         have c4 : ¬ (!(!(Builtin.Str.occurrences TX.FIG ⟨#[d]⟩ 0 TX.FIG.length 1).isEmpty)) = true := c3
         rw [e3] at c4; simpa using c4
       walk_at "r"
       refine ⟨TX.FIG, ⟨#[d]⟩, d - 48, [], rfl, rfl, TX.idx_fig c3, ?_⟩
       walk_at "r"
       have hi' : i < z.length := by have := (List.getElem?_eq_some_iff.mp hd).1; rw [TX.len_toList] at this; exact this
       refine ⟨hi', rfl, some (.str ⟨#[d]⟩), ?_, ?_⟩
       · rw [TX.val_take hd]
         rfl
       · rw [List.take_succ, hd]
         simp [ha, c3]
   · rintro _ _ ⟨_, rfl, r2, rfl, ha⟩
     walk_at "r"
     have e2 : TX.nofV z = .int (TX.val z.cps.toList) := by
       rw [← TX.len_toList, List.take_length] at ha
       unfold TX.nofV TX.nof
       rw [if_pos ⟨ok, ha⟩]
     rw [← TX.len_toList, List.take_length, ← e2]
     exact q
noncomputable def sp_Reader_init (K : PySem.W.Frag) (CR : Addr) : Sp := fun vs H Q _ => ∃ (r dx : Addr) (z : Str), vs = [.ref r, .str z] ∧ H r = some (.ins CR dx []) ∧ Q .non (upd H r (.ins CR dx (TX.rdr z 0)))
theorem ok_Reader_init {f : Addr} {fd : FuncData} (F : Fun K "__init__" "Reader.__init__" s_Reader_init f fd) (cl_Reader : Cls K CR) (nf_Reader_text : NoAttr K CR "text") (nf_Reader_at : NoAttr K CR "at") : FnOk P w K mg base CX0 1 f fd ["self", "text"] (sp_Reader_init K CR) := by
 refine F.ok sc_Reader_init (fun vs H Q E h => ?_) (fun cdv A outer s H vs Q E hr h => ?_)
 · obtain ⟨r, dx, z, rfl, _⟩ := h
   rfl
 obtain ⟨r, dx, z, rfl, hr0, q⟩ := h
 refine ⟨_, (pss_cons (ps_fld (pv 0) (pv 1) rfl)
     (pss_one (ps_fld (pv 0) pe_int rfl))), ?_⟩
 walk_at "r"
 refine ⟨r, CR, dx, _, rfl, hr0, cl_Reader, nf_Reader_text, by decide, ?_⟩
 walk_at "r"
 refine ⟨r, CR, dx, _, rfl, upd_same, cl_Reader, nf_Reader_at, by show 1 < 1000; decide, ?_⟩
 rw [upd_upd]
 exact q
noncomputable def sp_Reader_at_end (K : PySem.W.Frag) (CR : Addr) : Sp := fun vs H Q _ => ∃ (r dx : Addr) (z : Str) (i : Nat), vs = [.ref r] ∧ H r = some (.ins CR dx (TX.rdr z i)) ∧ z.length ≤ 10 ^ 6 ∧ Q (.bl (decide (i = z.length))) H
theorem ok_Reader_at_end {f : Addr} {fd : FuncData} (F : Fun K "at_end" "Reader.at_end" s_Reader_at_end f fd) (cl_Reader : Cls K CR) (nf_Reader_text : NoAttr K CR "text") (nf_Reader_at : NoAttr K CR "at") (z_len : mg "len" = none) : FnOk P w K mg base CX0 1 f fd ["self"] (sp_Reader_at_end K CR) := by
 refine F.ok sc_Reader_at_end (fun vs H Q E h => ?_) (fun cdv A outer s H vs Q E hr h => ?_)
 · obtain ⟨r, dx, z, i, rfl, _⟩ := h
   rfl
 obtain ⟨r, dx, z, i, rfl, hr0, hz, q⟩ := h
 refine ⟨_, (pss_one (ps_ret (pe_cmpR op_eq (pe_fld (pv 0) rfl) (pe_callB call_len_str rfl z_len bt_len (pa_cons (pe_fld (pv 0) rfl) pa_nil)) (nomark _)))), ?_⟩
 walk_at "r"
 refine ⟨r, CR, dx, _, _, rfl, hr0, cl_Reader, nf_Reader_at, rfl, ?_⟩
 walk_at "r"
 refine ⟨r, CR, dx, _, _, rfl, hr0, cl_Reader, nf_Reader_text, rfl, ?_⟩
 walk_at "r"
 refine ⟨TX.sz hz, ?_⟩
 walk_at "r"
 rw [show decide (V.int (i : Int) = V.int (z.length : Int)) = decide (i = z.length) from decide_eq_decide.mpr ⟨fun e => by injection e with e; omega, fun e => by rw [e]⟩]
 exact q
noncomputable def sp_Reader_takes (K : PySem.W.Frag) (CR : Addr) : Sp := fun vs H Q _ => ∃ (r dx : Addr) (z : Str) (i : Nat) (y : Str), vs = [.ref r, .str y] ∧ H r = some (.ins CR dx (TX.rdr z i)) ∧ z.length ≤ 10 ^ 6 ∧ y.length ≤ 100 ∧ i ≤ z.length ∧ (y.cps.toList <+: z.cps.toList.drop i → Q (.bl true) (upd H r (.ins CR dx (TX.rdr z (i + y.length))))) ∧ (¬ y.cps.toList <+: z.cps.toList.drop i → Q (.bl false) H)
theorem ok_Reader_takes {f : Addr} {fd : FuncData} (F : Fun K "takes" "Reader.takes" s_Reader_takes f fd) (cl_Reader : Cls K CR) (nf_Reader_text : NoAttr K CR "text") (nf_Reader_at : NoAttr K CR "at") (z_len : mg "len" = none) : FnOk P w K mg base CX0 1 f fd ["self", "signs"] (sp_Reader_takes K CR) := by
 refine F.ok sc_Reader_takes (fun vs H Q E h => ?_) (fun cdv A outer s H vs Q E hr h => ?_)
 · obtain ⟨r, dx, z, i, y, rfl, _⟩ := h
   rfl
 obtain ⟨r, dx, z, i, y, rfl, hr0, hz, hy, hi, q1, q2⟩ := h
 refine ⟨_, (pss_cons (ps_if (pt_not (pt_val (pe_bm PySem.F.plainAttrs_str PySem.F.slot_str_startswith PySem.F.type_str_startswith mt_sStart3 (pe_fld (pv 0) rfl) (pa_cons (pv 1) (pa_cons (pe_fld (pv 0) rfl) pa_nil))))) (pss_one (ps_ret pe_bl)) pss_nil)
     (pss_cons (ps_fld (pv 0) (pe_op op_add (pe_fld (pv 0) rfl) (pe_callB call_len_str rfl z_len bt_len (pa_cons (pv 1) pa_nil))) rfl)
     (pss_one (ps_ret pe_bl)))), ?_⟩
 walk_at "r"
 refine ⟨r, CR, dx, _, _, rfl, hr0, cl_Reader, nf_Reader_text, rfl, ?_⟩
 walk_at "r"
 refine ⟨r, CR, dx, _, _, rfl, hr0, cl_Reader, nf_Reader_at, rfl, ?_⟩
 walk_at "r"
 refine ⟨z, y, i, rfl, rfl, ?_⟩
 rw [TX.sw_iff hi]
 walk_at "r"
 refine ite2 (fun c0 => ?_) (fun c0 => ?_)
 · have c0 : ¬ y.cps.toList <+: z.cps.toList.drop i := by simpa using c0
   walk_at "r"
   exact q2 c0
 · have c0 : y.cps.toList <+: z.cps.toList.drop i := by simpa using c0
   walk_at "r"
   refine ⟨r, CR, dx, _, _, rfl, hr0, cl_Reader, nf_Reader_at, rfl, ?_⟩
   walk_at "r"
   refine ⟨TX.sz (by omega), ?_⟩
   walk_at "r"
   refine ⟨r, CR, dx, _, rfl, hr0, cl_Reader, nf_Reader_at, by show 2 < 1000; decide, ?_⟩
   exact q1 c0
noncomputable def spX_Reader_needs (K : PySem.W.Frag) (CR : Addr) (C0 : Addr) : Sp := fun vs H Q E => ∃ (r dx : Addr) (z : Str) (i : Nat) (y : Str), vs = [.ref r, .str y] ∧ H r = some (.ins CR dx (TX.rdr z i)) ∧ z.length ≤ 10 ^ 6 ∧ y.length ≤ 100 ∧ (∀ c ∈ y.cps.toList, c < 16 ^ 8) ∧ i ≤ z.length ∧ (y.cps.toList <+: z.cps.toList.drop i → Q .non (upd H r (.ins CR dx (TX.rdr z (i + y.length))))) ∧ (¬ y.cps.toList <+: z.cps.toList.drop i → E (.ref C0) none H)
theorem okX_Reader_needs {f : Addr} {fd : FuncData} {C0 : Addr} (F : Fun K "needs" "Reader.needs" s_Reader_needs f fd) (o_NoText : OwnCls "NoText" C0 veB "ValueError.__new__" mg base) (cl_Reader : Cls K CR) (nf_Reader_text : NoAttr K CR "text") (nf_Reader_at : NoAttr K CR "at") (g_Reader_takes : GotM CX0 P w K mg base CR "takes" ["self", "signs"] 1 (sp_Reader_takes K CR)) : FnOk P w K mg base (CXE P w) 2 f fd ["self", "signs"] (spX_Reader_needs K CR C0) := by
 refine F.okX sc_Reader_needs (fun vs H Q E h => ?_) (fun cdv A outer s H vs Q E hr h => ?_)
 · obtain ⟨r, dx, z, i, y, rfl, _⟩ := h
   rfl
 obtain ⟨r, dx, z, i, y, rfl, hr0, hz, hy, hc, hi, q1, q2⟩ := h
 refine ⟨_, (pss_one (ps_if (pt_not (pt_val (pe_gotM g_Reader_takes cl_Reader pass0 hr (by decide) (pv 0) (pa_cons (pv 1) pa_nil)))) (pss_one (ps_raiseV o_NoText rfl (pa_cons (pe_fstr (pjv_cons (pe_fmtR (pv 1)) (pjv_cons pe_str pjv_nil))) pa_nil))) pss_nil)), ?_⟩
 walk_at "r"
 refine ⟨r, dx, _, rfl, hr0, rfl, ?_⟩
 walk_at "r"
 refine ⟨r, dx, z, i, y, rfl, hr0, hz, hy, hi, fun c0 => ?_, fun c0 => ?_⟩
 · walk_at "r"
   refine iteF ?_
   exact q1 c0
 · walk_at "r"
   have h1 := TX.rep_len hc hy
   have h2 := TX.sz_eq
   have h3 : (Str.empty ++ reprText y).length ≤ 1002 := by rw [TX.cat_len, TX.em_len]; omega
   have h5 : (" is missing" : Str).length = 11 := by decide +kernel
   have h4 : (Str.empty ++ reprText y ++ " is missing").length ≤ sizeLine := by rw [TX.cat_len]; omega
   have h6 : 10 * y.length + 2 ≤ sizeLine := by omega
   have h7 : (Str.empty ++ reprText y).length ≤ sizeLine := by omega
   clear h1 h3
   generalize reprText y = ry at *
   refine ⟨hc, h6, ry, rfl, h7, ?_⟩
   refine ⟨_, rfl, h4, h4, ?_⟩
   exact ⟨by simp, q2 c0⟩
noncomputable def spX_Reader_number (K : PySem.W.Frag) (CR : Addr) (C0 : Addr) : Sp := fun vs H Q E => ∃ (r dx : Addr) (z : Str) (i : Nat), vs = [.ref r] ∧ H r = some (.ins CR dx (TX.rdr z i)) ∧ z.length ≤ 10 ^ 6 ∧ i ≤ z.length ∧ (∀ n rs, TX.pnum (z.cps.toList.drop i) = some (n, rs) → Q (.int n) (upd H r (.ins CR dx (TX.rdr z (z.length - rs.length))))) ∧ (TX.pnum (z.cps.toList.drop i) = none → ∀ j, E (.ref C0) none (upd H r (.ins CR dx (TX.rdr z j))))
theorem okX_Reader_number {f : Addr} {fd : FuncData} {C0 : Addr} (F : Fun K "number" "Reader.number" s_Reader_number f fd) (o_NoText : OwnCls "NoText" C0 veB "ValueError.__new__" mg base) {t_FIGURES : Tok} (w_FIGURES : mg "FIGURES" = some (.str "0123456789" t_FIGURES)) (cl_Reader : Cls K CR) (nf_Reader_text : NoAttr K CR "text") (nf_Reader_at : NoAttr K CR "at") (g_number_of : Got P w K mg base "number_of" ["figures"] 1 (sp_number_of K)) (g_Reader_at_end : GotM CX0 P w K mg base CR "at_end" ["self"] 1 (sp_Reader_at_end K CR)) : FnOk P w K mg base (CXE P w) 2 f fd ["self"] (spX_Reader_number K CR C0) := by
 refine F.okX sc_Reader_number (fun vs H Q E h => ?_) (fun cdv A outer s H vs Q E hr h => ?_)
 · obtain ⟨r, dx, z, i, rfl, _⟩ := h
   rfl
 obtain ⟨r, dx, z, i, rfl, hr0, hz, hi, q1, q2⟩ := h
 refine ⟨_, (pss_cons (ps_set (i := 1) sc_Reader_number.nd rfl (Or.inl rfl) (pe_fld (pv 0) rfl))
     (pss_cons (ps_while PassesOwn.leaving (PW.pt (pw_and (pt_not (pt_val (pe_gotM0 g_Reader_at_end cl_Reader pass0 hr (by decide) (pv 0)))) (pw_and1 (pt_cmpR op_in_str (pe_ix ix_str (pe_fld (pv 0) rfl) (pe_fld (pv 0) rfl) (fun _ _ => rfl)) (pe_glob (v := .str "0123456789") rfl w_FIGURES ⟨_, rfl⟩) rfl)))) (pss_one (ps_fld (pv 0) (pe_op op_add (pe_fld (pv 0) rfl) pe_int) rfl)))
     (pss_cons (ps_set (i := 2) sc_Reader_number.nd rfl (Or.inl rfl) (pe_got g_number_of hr (by decide) rfl (pa_cons (pe_slice sl_str (pe_fld (pv 0) rfl) (po_some (pv 1)) (po_some (pe_fld (pv 0) rfl))) pa_nil)))
     (pss_cons (ps_if (pt_cmpR op_isN (pv 2) pe_non (nomark _)) (pss_one (ps_raiseV o_NoText rfl (pa_cons (pe_fstr (pjv_cons pe_str (pjv_cons (pe_fmt (pv 1)) pjv_nil))) pa_nil))) pss_nil)
     (pss_one (ps_ret (pv 2))))))), ?_⟩
 walk_at "r"
 refine ⟨r, CR, dx, _, _, rfl, hr0, cl_Reader, nf_Reader_at, rfl, ?_⟩
 walk_at "r"
 refine ⟨fun m σ H' => ∃ j : Nat, m = z.length - j ∧ i ≤ j ∧ j ≤ z.length ∧ σ = ([some (.ref r), some (.int (i : Int)), none] : St) ∧ (∀ c ∈ (z.cps.toList.drop i).take (j - i), TX.isD c = true) ∧ H' = upd H r (.ins CR dx (TX.rdr z j)), ⟨_, i, rfl, Nat.le_refl _, hi, rfl, by simp, (upd_id hr0).symm⟩, ?_⟩
 rintro m _ _ ⟨j, rfl, ij, jz, rfl, hd, rfl⟩
 have hj : (upd H r (.ins CR dx (TX.rdr z j))) r = some (.ins CR dx (TX.rdr z j)) := upd_same
 walk_at "r"
 refine ⟨r, dx, _, rfl, hj, rfl, ?_⟩
 walk_at "r"
 refine ⟨r, dx, z, j, rfl, hj, hz, ?_⟩
 walk_at "r"
 refine ite2 (fun c0 => ?_) (fun c0 => ?_)
 · have c0 : ¬ j = z.length := by simpa using c0
   have jl : j < z.cps.toList.length := by rw [TX.len_toList]; omega
   have hc : z.cps.toList[j]? = some (z.cps.toList[j]) := List.getElem?_eq_getElem jl
   generalize z.cps.toList[j] = c at hc
   walk_at "r"
   refine ⟨r, CR, dx, _, _, rfl, hj, cl_Reader, nf_Reader_text, rfl, ?_⟩
   walk_at "r"
   refine ⟨r, CR, dx, _, _, rfl, hj, cl_Reader, nf_Reader_at, rfl, ?_⟩
   refine ⟨z, (j : Int), c, rfl, rfl, TX.sz hz, atI_nat hc, ?_⟩
   walk_at "r"
   have e3 := TX.in_fig c
   refine ite2 (fun c3 => ?_) (fun c3 => ?_)
   · have c3 : TX.isD c = true := by
       have c4 : (!(Builtin.Str.occurrences TX.FIG ⟨#[c]⟩ 0 TX.FIG.length 1).isEmpty) = true := c3
       rw [e3] at c4; exact c4
     refine ⟨_, fun _ _ h => h, ?_⟩
     walk_at "r"
     refine ⟨r, CR, dx, _, _, rfl, hj, cl_Reader, nf_Reader_at, rfl, ?_⟩
     walk_at "r"
     refine ⟨r, CR, dx, _, rfl, hj, cl_Reader, nf_Reader_at, by show 2 < 1000; decide, ?_⟩
     rw [upd_upd]
     refine ⟨_, ?_, j + 1, rfl, by omega, by omega, rfl, fun d hdm => ?_, rfl⟩
     · omega
     · rw [show j + 1 - i = (j - i) + 1 by omega, List.take_succ] at hdm
       rcases List.mem_append.mp hdm with y | y
       · exact hd d y
       · rw [List.getElem?_drop, show i + (j - i) = j by omega, hc] at y
         have : d = c := by simpa using y
         rw [this]; exact c3
   · have c3 : TX.isD c = false := by
       have c4 : ¬ (!(Builtin.Str.occurrences TX.FIG ⟨#[c]⟩ 0 TX.FIG.length 1).isEmpty) = true := c3
       rw [e3] at c4; simpa using c4
     have hn : ∀ d, z.cps.toList[j]? = some d → TX.isD d = false := fun d e => by rw [hc] at e; cases e; exact c3
     obtain ⟨n1, n2⟩ := TX.num_at ij jz hd hn
     walk_at "r"
     refine ⟨r, CR, dx, _, _, rfl, hj, cl_Reader, nf_Reader_text, rfl, ?_⟩
     walk_at "r"
     refine ⟨r, CR, dx, _, _, rfl, hj, cl_Reader, nf_Reader_at, rfl, ?_⟩
     walk_at "r"
     refine ⟨TX.sz hz, ?_⟩
     rw [TX.slice_nat ij jz]
     walk_at "r"
     refine ⟨by rw [← TX.len_toList]; simp; omega, ?_⟩
     rw [n1]
     cases e : TX.pnum (z.cps.toList.drop i) with
     | none =>
       walk_at "r"
       have h5 : ("no number stands at " : Str).length = 20 := by decide +kernel
       have h2 := TX.sz_eq
       have h6 : (Str.empty ++ "no number stands at ").length = 20 := by rw [TX.cat_len, TX.em_len, h5]
       have h7 := TX.small_len (i := i) (by omega)
       have h8 : (Str.empty ++ "no number stands at " ++ Str.ofString (toString (i : Int))).length ≤ sizeLine := by rw [TX.cat_len]; omega
       refine ⟨by omega, ?_⟩
       refine ⟨_, rfl, .inl ⟨i, rfl, TX.small_log (by omega), ?_⟩⟩
       refine ⟨_, rfl, h8, h8, ?_⟩
       exact ⟨by simp, q2 e j⟩
     | some nr =>
       obtain ⟨n, rs⟩ := nr
       walk_at "r"
       rw [← n2 n rs e]
       exact q1 n rs e
 · have c0 : j = z.length := by simpa using c0
   have hn : ∀ d, z.cps.toList[j]? = some d → TX.isD d = false := fun d e => by
     have := (List.getElem?_eq_some_iff.mp e).1
     rw [TX.len_toList] at this; omega
   obtain ⟨n1, n2⟩ := TX.num_at ij jz hd hn
   walk_at "r"
   refine ⟨r, CR, dx, _, _, rfl, hj, cl_Reader, nf_Reader_text, rfl, ?_⟩
   walk_at "r"
   refine ⟨r, CR, dx, _, _, rfl, hj, cl_Reader, nf_Reader_at, rfl, ?_⟩
   walk_at "r"
   refine ⟨TX.sz hz, ?_⟩
   rw [TX.slice_nat ij jz]
   walk_at "r"
   refine ⟨by rw [← TX.len_toList]; simp; omega, ?_⟩
   rw [n1]
   cases e : TX.pnum (z.cps.toList.drop i) with
   | none =>
     walk_at "r"
     have h5 : ("no number stands at " : Str).length = 20 := by decide +kernel
     have h2 := TX.sz_eq
     have h6 : (Str.empty ++ "no number stands at ").length = 20 := by rw [TX.cat_len, TX.em_len, h5]
     have h7 := TX.small_len (i := i) (by omega)
     have h8 : (Str.empty ++ "no number stands at " ++ Str.ofString (toString (i : Int))).length ≤ sizeLine := by rw [TX.cat_len]; omega
     refine ⟨by omega, ?_⟩
     refine ⟨_, rfl, .inl ⟨i, rfl, TX.small_log (by omega), ?_⟩⟩
     refine ⟨_, rfl, h8, h8, ?_⟩
     exact ⟨by simp, q2 e j⟩
   | some nr =>
     obtain ⟨n, rs⟩ := nr
     walk_at "r"
     rw [← n2 n rs e]
     exact q1 n rs e
noncomputable def spX_begin_paper (K : PySem.W.Frag) (CR : Addr) (C0 : Addr) : Sp := fun vs H Q E => ∃ (r dx lb : Addr) (z : Str) (i : Nat) (fs : List V), vs = [.ref r, .ref lb] ∧ H r = some (.ins CR dx (TX.rdr z i)) ∧ H lb = some (.lst fs) ∧ z.length ≤ 10 ^ 6 ∧ fs.length ≤ 10 ^ 6 ∧ i ≤ z.length ∧ (∀ d rs v H', TX.pbegin (z.cps.toList.drop i) = .is d rs → But r H H' → H' r = some (.ins CR dx (TX.rdr z (z.length - rs.length))) → RdV (mxG H noH H') v d → Q v H') ∧ (∀ p g rs a b H', TX.pbegin (z.cps.toList.drop i) = .op p g rs → H a = none → H b = none → H' r = some (.ins CR dx (TX.rdr z (z.length - rs.length))) → H' lb = some (.lst (fs ++ [.ref a])) → H' a = some (.tup [.str "root", .int p, .int g, .ref b]) → H' b = some (.lst []) → (∀ c o, c ≠ r → c ≠ lb → H c = some o → H' c = some o) → Q .non H') ∧ (TX.pbegin (z.cps.toList.drop i) = .no → ∀ H', But r H H' → E (.ref C0) none H')
theorem okX_begin_paper {f : Addr} {fd : FuncData} {C0 : Addr} (F : Fun K "begin_paper" "begin_paper" s_begin_paper f fd) (o_NoText : OwnCls "NoText" C0 veB "ValueError.__new__" mg base) (cl_Reader : Cls K CR) (nf_Reader_text : NoAttr K CR "text") (nf_Reader_at : NoAttr K CR "at") (g_Reader_takes : GotM CX0 P w K mg base CR "takes" ["self", "signs"] 1 (sp_Reader_takes K CR)) (gX_Reader_needs : GotM (CXE P w) P w K mg base CR "needs" ["self", "signs"] 2 (spX_Reader_needs K CR C0)) (gX_Reader_number : GotM (CXE P w) P w K mg base CR "number" ["self"] 2 (spX_Reader_number K CR C0)) : FnOk P w K mg base (CXE P w) 3 f fd ["reader", "begun"] (spX_begin_paper K CR C0) := by
 refine F.okX sc_begin_paper (fun vs H Q E h => ?_) (fun cdv A outer s H vs Q E hr h => ?_)
 · obtain ⟨r, dx, lb, z, i, fs, rfl, _⟩ := h
   rfl
 obtain ⟨r, dx, lb, z, i, fs, rfl, hr0, hl0, hz, hf, hi, q1, q2, q3⟩ := h
 have rl : r ≠ lb := ne_of hr0 hl0 (by intro y; cases y)
 have bt : ∀ j, But r H (upd H r (.ins CR dx (TX.rdr z j))) := fun j b o hb e => by rw [upd_ne hb]; exact e
 have sd : z.cps.toList.drop i <:+ z.cps.toList := List.drop_suffix _ _
 refine ⟨_, (pss_cons (ps_set (i := 2) sc_begin_paper.nd rfl (Or.inl rfl) (pe_gotM0 gX_Reader_number cl_Reader xe_pass hr (by decide) (pv 0)))
     (pss_cons (ps_if (pt_not (pt_val (pe_gotM g_Reader_takes cl_Reader pass0 hr (by decide) (pv 0) (pa_cons pe_str pa_nil)))) (pss_cons (ps_if (pt_cmpR op_ne (pv 2) pe_int (nomark _)) (pss_one (ps_raiseV o_NoText rfl (pa_consN pe_str pa_nil))) pss_nil)
     (pss_one (ps_ret (pe_tupF (pa_consN pe_str pa_nil))))) pss_nil)
     (pss_cons (ps_set (i := 3) sc_begin_paper.nd rfl (Or.inl rfl) (pe_gotM0 gX_Reader_number cl_Reader xe_pass hr (by decide) (pv 0)))
     (pss_cons (ps_expr (pe_gotM gX_Reader_needs cl_Reader xe_pass hr (by decide) (pv 0) (pa_cons pe_str pa_nil)))
     (pss_cons (ps_set (i := 4) sc_begin_paper.nd rfl (Or.inl rfl) (pe_tupF (pa_consN pe_str (pa_consN (pv 2) (pa_consN (pv 3) (pa_consN (pe_lstA pa_nil) pa_nil))))))
     (pss_cons (ps_if (pt_val (pe_gotM g_Reader_takes cl_Reader pass0 hr (by decide) (pv 0) (pa_cons pe_str pa_nil))) (pss_one (ps_ret (pv 4))) pss_nil)
     (pss_cons (ps_expr (pe_bm PySem.F.plainAttrs_list PySem.F.slot_list_append PySem.F.type_list_append mt_append (pv 1) (pa_consN (pv 4) pa_nil)))
     (pss_one (ps_ret pe_non))))))))), ?_⟩
 walk_at "r"
 refine ⟨r, dx, _, rfl, hr0, rfl, ?_⟩
 walk_at "r"
 refine ⟨r, dx, z, i, rfl, hr0, hz, hi, fun p rs e1 => ?_, fun e1 j => q3 (TX.bg_no e1) _ (bt _)⟩
 have s1 := (TX.pnum_suf e1).trans sd
 have d1 := TX.suf_drop s1
 have j1 : z.length - rs.length ≤ z.length := Nat.sub_le _ _
 generalize hj : z.length - rs.length = j at d1 j1
 have hr1 : (upd H r (.ins CR dx (TX.rdr z j))) r = some (.ins CR dx (TX.rdr z j)) := upd_same
 walk_at "r"
 refine ⟨r, dx, _, rfl, hr1, rfl, ?_⟩
 walk_at "r"
 refine ⟨r, dx, z, j, ":", rfl, hr1, hz, by decide +kernel, j1, fun c0 => ?_, fun c0 => ?_⟩
 · rw [TX.cps_colon, d1, TX.pre1] at c0
   obtain ⟨t, rfl⟩ := c0
   have s2 := TX.suf_tail s1
   have d2 := TX.suf_drop s2
   have p2 := TX.pos_tail s1
   rw [hj] at p2
   rw [upd_upd, show (":" : Str).length = 1 by decide +kernel, p2]
   have j2 : z.length - t.length ≤ z.length := Nat.sub_le _ _
   have hr2 : (upd H r (.ins CR dx (TX.rdr z (z.length - t.length)))) r = some (.ins CR dx (TX.rdr z (z.length - t.length))) := upd_same
   have eb := TX.bg_two e1
   walk_at "r"
   refine ⟨r, dx, _, rfl, hr2, rfl, ?_⟩
   walk_at "r"
   refine ⟨r, dx, z, _, rfl, hr2, hz, j2, fun g rs e2 => ?_, fun e2 j => ?_⟩
   · rw [d2] at e2
     have s3 := (TX.pnum_suf e2).trans s2
     have d3 := TX.suf_drop s3
     rw [upd_upd]
     have hr3 : (upd H r (.ins CR dx (TX.rdr z (z.length - rs.length)))) r = some (.ins CR dx (TX.rdr z (z.length - rs.length))) := upd_same
     walk_at "r"
     refine ⟨r, dx, _, rfl, hr3, rfl, ?_⟩
     walk_at "r"
     refine ⟨r, dx, z, _, "(", rfl, hr3, hz, by decide +kernel, by decide +kernel, Nat.sub_le _ _, fun c1 => ?_, fun c1 => ?_⟩
     · rw [TX.cps_op, d3, TX.pre1] at c1
       obtain ⟨u, rfl⟩ := c1
       have s4 := TX.suf_tail s3
       have d4 := TX.suf_drop s4
       rw [upd_upd, show ("(" : Str).length = 1 by decide +kernel, TX.pos_tail s3]
       have hr4 : (upd H r (.ins CR dx (TX.rdr z (z.length - u.length)))) r = some (.ins CR dx (TX.rdr z (z.length - u.length))) := upd_same
       have hl4 : (upd H r (.ins CR dx (TX.rdr z (z.length - u.length)))) lb = some (.lst fs) := by rw [upd_ne rl.symm]; exact hl0
       have b4 := bt (z.length - u.length)
       generalize upd H r (.ins CR dx (TX.rdr z (z.length - u.length))) = H4 at hr4 hl4 b4
       have f4 : ∀ b, H4 b = none → H b = none := fun b y => by
         cases w : H b with
         | none => rfl
         | some o =>
           by_cases br : b = r
           · rw [br, hr4] at y; cases y
           · rw [b4 b o br w] at y; cases y
       walk_at "r"
       intro b H5 n5 s5 e5
       walk_at "r"
       intro a H6 n6 s6 e6
       walk_at "r"
       have hr6 := s6 _ _ (s5 _ _ hr4)
       refine ⟨r, dx, _, rfl, hr6, rfl, ?_⟩
       walk_at "r"
       refine ⟨r, dx, z, _, ")", rfl, hr6, hz, by decide +kernel, Nat.sub_le _ _, fun c2 => ?_, fun c2 => ?_⟩
       · rw [TX.cps_cl, d4, TX.pre1] at c2
         obtain ⟨w', rfl⟩ := c2
         rw [show (")" : Str).length = 1 by decide +kernel, TX.pos_tail s4]
         walk_at "r"
         have ar : a ≠ r := fun y => by rw [y, hr6] at e6; cases e6
         have br : b ≠ r := fun y => by rw [y] at n5; rw [hr4] at n5; cases n5
         have na : H a = none := f4 a (s5.free n6)
         refine q1 _ w' _ _ (eb.trans (TX.b2_is e2)) (fun c o hc e => by rw [upd_ne hc]; exact s6 _ _ (s5 _ _ (b4 c o hc e))) upd_same ?_
         refine .tup (mxG_at (.inl na) (by rw [upd_ne ar]; exact e6)) (.cons (.str _) (.cons (.int _) (.cons (.int _) (.cons (.lst (mxG_at (.inl (f4 b n5)) (by rw [upd_ne br]; exact s6 _ _ e5)) .nil) .nil))))
       · rw [TX.cps_cl, d4, TX.pre1] at c2
         walk_at "r"
         have hl6 := s6 _ _ (s5 _ _ hl4)
         refine ⟨.inl ⟨rfl, _, SqL.of hl6⟩, ?_⟩
         walk_at "r"
         refine ⟨lb, fs, _, rfl, rfl, hl6, by rw [TX.sz_eq]; omega, ?_⟩
         walk_at "r"
         have al : a ≠ lb := ne_of e6 hl6 (by intro y; cases y)
         have bl : b ≠ lb := fun y => by rw [y, hl4] at n5; cases n5
         exact q2 p g u a b _ (eb.trans (TX.b2_op e2 c2)) (f4 a (s5.free n6)) (f4 b n5) (by rw [upd_ne rl]; exact hr6) upd_same (by rw [upd_ne al]; exact e6) (by rw [upd_ne bl]; exact s6 _ _ e5) (fun c o h1 h2 e => by rw [upd_ne h2]; exact s6 _ _ (s5 _ _ (b4 c o h1 e)))
     · rw [TX.cps_op, d3, TX.pre1] at c1
       exact q3 (eb.trans (TX.b2_no' e2 c1)) _ (bt _)
   · rw [d2] at e2
     rw [upd_upd]
     exact q3 (eb.trans (TX.b2_no e2)) _ (bt _)
 · rw [TX.cps_colon, d1, TX.pre1] at c0
   have eb := TX.bg_one e1 c0
   walk_at "r"
   refine ite2 (fun c1 => ?_) (fun c1 => ?_)
   · walk_at "r"
     refine ⟨by simp, q3 ?_ _ (bt _)⟩
     rw [eb, if_neg (fun y => by rw [y] at c1; exact absurd c1 (by decide))]
   · have c1 : p = 2 := by
       have : (p : Int) = 2 := by simpa using c1
       omega
     walk_at "r"
     intro a H2 n2 s2 e2
     have na : H a = none := by
       by_cases ar : a = r
       · rw [ar, hr1] at n2; cases n2
       · rw [upd_ne ar] at n2; exact n2
     exact q1 two rs _ H2 (by rw [eb, if_pos c1]) (fun b o hb e => s2 b o (bt j b o hb e)) (by rw [hj]; exact s2 _ _ hr1) (two_rd (mxG_at (.inl na) e2))
noncomputable def spX_end_part (K : PySem.W.Frag) (CR : Addr) (C0 : Addr) : Sp := fun vs H Q E => ∃ (r dx lb a b : Addr) (z : Str) (i : Nat) (fs xs : List V) (p g : Int) (v : V), vs = [.ref r, .ref lb, v] ∧ H r = some (.ins CR dx (TX.rdr z i)) ∧ H lb = some (.lst (fs ++ [.ref a])) ∧ H a = some (.tup [.str "root", .int p, .int g, .ref b]) ∧ H b = some (.lst xs) ∧ b ≠ lb ∧ z.length ≤ 10 ^ 6 ∧ fs.length ≤ 10 ^ 6 ∧ xs.length ≤ 10 ^ 6 ∧ i ≤ z.length ∧ (∀ t rs c H', TX.pend (z.cps.toList.drop i) = .cl t rs → H c = none → H' r = some (.ins CR dx (TX.rdr z (z.length - rs.length))) → H' lb = some (.lst fs) → H' c = some (.tup [v, .int t]) → H' b = some (.lst (xs ++ [.ref c])) → (∀ e o, e ≠ r → e ≠ lb → e ≠ b → H e = some o → H' e = some o) → Q (.ref a) H') ∧ (∀ t rs c H', TX.pend (z.cps.toList.drop i) = .go t rs → H c = none → H' r = some (.ins CR dx (TX.rdr z (z.length - rs.length))) → H' lb = some (.lst (fs ++ [.ref a])) → H' c = some (.tup [v, .int t]) → H' b = some (.lst (xs ++ [.ref c])) → (∀ e o, e ≠ r → e ≠ lb → e ≠ b → H e = some o → H' e = some o) → Q .non H') ∧ (TX.pend (z.cps.toList.drop i) = .no → ∀ H', (∀ e o, e ≠ r → e ≠ lb → e ≠ b → H e = some o → H' e = some o) → E (.ref C0) none H')
theorem okX_end_part {f : Addr} {fd : FuncData} {C0 : Addr} (F : Fun K "end_part" "end_part" s_end_part f fd) (cl_Reader : Cls K CR) (nf_Reader_text : NoAttr K CR "text") (nf_Reader_at : NoAttr K CR "at") (g_Reader_takes : GotM CX0 P w K mg base CR "takes" ["self", "signs"] 1 (sp_Reader_takes K CR)) (gX_Reader_needs : GotM (CXE P w) P w K mg base CR "needs" ["self", "signs"] 2 (spX_Reader_needs K CR C0)) (gX_Reader_number : GotM (CXE P w) P w K mg base CR "number" ["self"] 2 (spX_Reader_number K CR C0)) : FnOk P w K mg base (CXE P w) 3 f fd ["reader", "begun", "paper"] (spX_end_part K CR C0) := by
 refine F.okX sc_end_part (fun vs H Q E h => ?_) (fun cdv A outer s H vs Q E hr h => ?_)
 · obtain ⟨r, dx, lb, a, b, z, i, fs, xs, p, g, v, rfl, _⟩ := h
   rfl
 obtain ⟨r, dx, lb, a, b, z, i, fs, xs, p, g, v, rfl, hr0, hl0, ha0, hb0, bl, hz, hf, hx, hi, q1, q2, q3⟩ := h
 have rl : r ≠ lb := ne_of hr0 hl0 (by intro y; cases y)
 have rb : r ≠ b := ne_of hr0 hb0 (by intro y; cases y)
 have ra : r ≠ a := ne_of hr0 ha0 (by intro y; cases y)
 have al : a ≠ lb := ne_of ha0 hl0 (by intro y; cases y)
 have ab : a ≠ b := ne_of ha0 hb0 (by intro y; cases y)
 have bt : ∀ j, But r H (upd H r (.ins CR dx (TX.rdr z j))) := fun j b o hb e => by rw [upd_ne hb]; exact e
 have b3 : ∀ {H1 : Hp}, But r H H1 → (∀ e o, e ≠ r → e ≠ lb → e ≠ b → H e = some o → H1 e = some o) := fun f e o h1 _ _ e1 => f e o h1 e1
 have sd : z.cps.toList.drop i <:+ z.cps.toList := List.drop_suffix _ _
 have sd0 : z.cps.toList.drop i = z.cps.toList.drop i := rfl
 generalize hrs : z.cps.toList.drop i = rs0 at sd q1 q2 q3
 refine ⟨_, (pss_cons (ps_expr (pe_gotM gX_Reader_needs cl_Reader xe_pass hr (by decide) (pv 0) (pa_cons pe_str pa_nil)))
     (pss_cons (ps_set (i := 3) sc_end_part.nd rfl (Or.inl rfl) (pe_gotM0 gX_Reader_number cl_Reader xe_pass hr (by decide) (pv 0)))
     (pss_cons (ps_expr (pe_bm PySem.F.plainAttrs_list PySem.F.slot_list_append PySem.F.type_list_append mt_append (pe_ix ix_tup (pe_ix ix_list (pv 1) pe_negc (fun _ _ => rfl)) pe_int (fun _ _ => rfl)) (pa_consN (pe_tupF (pa_consN (pv 2) (pa_consN (pv 3) pa_nil))) pa_nil)))
     (pss_cons (ps_if (pt_val (pe_gotM g_Reader_takes cl_Reader pass0 hr (by decide) (pv 0) (pa_cons pe_str pa_nil))) (pss_one (ps_ret (pe_bm0 PySem.F.plainAttrs_list PySem.F.slot_list_pop PySem.F.type_list_pop mt_pop (pv 1)))) pss_nil)
     (pss_cons (ps_expr (pe_gotM gX_Reader_needs cl_Reader xe_pass hr (by decide) (pv 0) (pa_cons pe_str pa_nil)))
     (pss_one (ps_ret pe_non))))))), ?_⟩
 walk_at "r"
 refine ⟨r, dx, _, rfl, hr0, rfl, ?_⟩
 walk_at "r"
 refine ⟨r, dx, z, i, "*", rfl, hr0, hz, by decide +kernel, by decide +kernel, hi, fun c0 => ?_, fun c0 => ?_⟩
 · rw [TX.cps_star, hrs, TX.pre1] at c0
   obtain ⟨t0, rfl⟩ := c0
   have s1 := TX.suf_tail sd
   have d1 := TX.suf_drop s1
   have hi1 : i + 1 = z.length - t0.length := by
     have := congrArg List.length hrs
     have := TX.suf_len sd
     rw [List.length_drop, TX.len_toList] at *
     simp only [List.length_cons] at *
     omega
   rw [show ("*" : Str).length = 1 by decide +kernel, hi1]
   have hr1 : (upd H r (.ins CR dx (TX.rdr z (z.length - t0.length)))) r = some (.ins CR dx (TX.rdr z (z.length - t0.length))) := upd_same
   walk_at "r"
   refine ⟨r, dx, _, rfl, hr1, rfl, ?_⟩
   walk_at "r"
   refine ⟨r, dx, z, _, rfl, hr1, hz, Nat.sub_le _ _, fun t rs e1 => ?_, fun e1 j => ?_⟩
   · rw [d1] at e1
     have s2 := (TX.pnum_suf e1).trans s1
     have d2 := TX.suf_drop s2
     rw [upd_upd]
     have hr2 : (upd H r (.ins CR dx (TX.rdr z (z.length - rs.length)))) r = some (.ins CR dx (TX.rdr z (z.length - rs.length))) := upd_same
     have b2 := bt (z.length - rs.length)
     generalize upd H r (.ins CR dx (TX.rdr z (z.length - rs.length))) = H2 at hr2 b2
     have hl2 := b2 _ _ rl.symm hl0
     have ha2 := b2 _ _ ra.symm ha0
     have hb2 := b2 _ _ rb.symm hb0
     walk_at "r"
     refine ⟨lb, _, _, _, rfl, rfl, SqL.of hl2, atI_last _ _, ?_⟩
     walk_at "r"
     refine ⟨a, _, _, _, rfl, rfl, SqT.of ha2, rfl, ?_⟩
     walk_at "r"
     refine ⟨.inl ⟨rfl, _, SqL.of hb2⟩, ?_⟩
     walk_at "r"
     intro c H3 n3 s3 e3
     have hb3 := s3 _ _ hb2
     refine ⟨b, xs, _, rfl, rfl, hb3, by rw [TX.sz_eq]; omega, ?_⟩
     walk_at "r"
     have cr : c ≠ r := fun y => by rw [y, hr2] at n3; cases n3
     have cb : c ≠ b := ne_of e3 hb3 (by intro y; cases y)
     have cl : c ≠ lb := fun y => by rw [y, hl2] at n3; cases n3
     have nc : H c = none := by
       cases w : H c with
       | none => rfl
       | some o => rw [b2 c o cr w] at n3; cases n3
     have hr4 : (upd H3 b (.lst (xs ++ [.ref c]))) r = some (.ins CR dx (TX.rdr z (z.length - rs.length))) := by rw [upd_ne rb]; exact s3 _ _ hr2
     have hl4 : (upd H3 b (.lst (xs ++ [.ref c]))) lb = some (.lst (fs ++ [.ref a])) := by rw [upd_ne bl.symm]; exact s3 _ _ hl2
     have hc4 : (upd H3 b (.lst (xs ++ [.ref c]))) c = some (.tup [v, .int t]) := by rw [upd_ne cb]; exact e3
     have hb4 : (upd H3 b (.lst (xs ++ [.ref c]))) b = some (.lst (xs ++ [.ref c])) := upd_same
     have b4 : ∀ e o, e ≠ r → e ≠ lb → e ≠ b → H e = some o → (upd H3 b (.lst (xs ++ [.ref c]))) e = some o := fun e o h1 _ h3 h => by rw [upd_ne h3]; exact s3 _ _ (b2 e o h1 h)
     generalize upd H3 b (.lst (xs ++ [.ref c])) = H4 at hr4 hl4 hc4 hb4 b4
     refine ⟨r, dx, _, rfl, hr4, rfl, ?_⟩
     walk_at "r"
     refine ⟨r, dx, z, _, ")", rfl, hr4, hz, by decide +kernel, Nat.sub_le _ _, fun c2 => ?_, fun c2 => ?_⟩
     · rw [TX.cps_cl, d2, TX.pre1] at c2
       obtain ⟨u, rfl⟩ := c2
       rw [show (")" : Str).length = 1 by decide +kernel, TX.pos_tail s2]
       walk_at "r"
       have hl5 : (upd H4 r (.ins CR dx (TX.rdr z (z.length - u.length)))) lb = some (.lst (fs ++ [.ref a])) := by rw [upd_ne rl.symm]; exact hl4
       refine ⟨.inl ⟨rfl, _, SqL.of hl5⟩, ?_⟩
       refine ⟨lb, _, .ref a, rfl, rfl, hl5, by simp, ?_⟩
       refine q1 t u c _ (TX.en_cl e1) nc (by rw [upd_ne rl]; exact upd_same) (by rw [upd_same, List.dropLast_concat]) (by rw [upd_ne cl, upd_ne cr]; exact hc4) (by rw [upd_ne bl, upd_ne rb.symm]; exact hb4) (fun e o h1 h2 h3 h => by rw [upd_ne h2, upd_ne h1]; exact b4 e o h1 h2 h3 h)
     · rw [TX.cps_cl, d2, TX.pre1] at c2
       walk_at "r"
       refine ⟨r, dx, _, rfl, hr4, rfl, ?_⟩
       walk_at "r"
       refine ⟨r, dx, z, _, ", ", rfl, hr4, hz, by decide +kernel, by decide +kernel, Nat.sub_le _ _, fun c3 => ?_, fun c3 => ?_⟩
       · rw [TX.cps_comma, d2, TX.pre2] at c3
         obtain ⟨u, rfl⟩ := c3
         rw [show (", " : Str).length = 1 + 1 by decide +kernel, ← Nat.add_assoc, TX.pos_tail s2, TX.pos_tail (TX.suf_tail s2)]
         walk_at "r"
         exact q2 t u c _ (TX.en_go e1) nc upd_same (by rw [upd_ne rl.symm]; exact hl4) (by rw [upd_ne cr]; exact hc4) (by rw [upd_ne rb.symm]; exact hb4) (fun e o h1 h2 h3 h => by rw [upd_ne h1]; exact b4 e o h1 h2 h3 h)
       · rw [TX.cps_comma, d2, TX.pre2] at c3
         exact q3 (TX.en_no3 e1 c2 c3) _ b4
   · rw [d1] at e1
     rw [upd_upd]
     exact q3 (TX.en_no2 e1) _ (b3 (bt _))
 · rw [TX.cps_star, hrs, TX.pre1] at c0
   exact q3 (TX.en_no1 c0) H (fun _ _ _ _ _ e => e)
noncomputable def spX_read_paper (K : PySem.W.Frag) (C0 : Addr) : Sp := fun vs H Q E => ∃ (z : Str), vs = [.str z] ∧ z.length ≤ 10 ^ 6 ∧ (∀ d v H', TX.pread z.cps.toList = some d → Same H H' → RdV (mxG H noH H') v d → Q v H') ∧ (TX.pread z.cps.toList = none → ∀ H', Same H H' → E (.ref C0) none H')
theorem okX_read_paper {f : Addr} {fd : FuncData} {C0 : Addr} (F : Fun K "read_paper" "read_paper" s_read_paper f fd) (o_NoText : OwnCls "NoText" C0 veB "ValueError.__new__" mg base) (cl_Reader : Cls K CR) (nf_Reader_text : NoAttr K CR "text") (nf_Reader_at : NoAttr K CR "at") (g_Reader_at_end : GotM CX0 P w K mg base CR "at_end" ["self"] 1 (sp_Reader_at_end K CR)) (g_Reader_init : GotMk CX0 P w K mg base CR "Reader" ["self", "text"] 1 (sp_Reader_init K CR)) (gX_begin_paper : GotX P w K mg base "begin_paper" ["reader", "begun"] 3 (spX_begin_paper K CR C0)) (gX_end_part : GotX P w K mg base "end_part" ["reader", "begun", "paper"] 3 (spX_end_part K CR C0)) (z_len : mg "len" = none) : FnOk P w K mg base (CXE P w) 4 f fd ["text"] (spX_read_paper K C0) := by
 refine F.okX sc_read_paper (fun vs H Q E h => ?_) (fun cdv A outer s H vs Q E hr h => ?_)
 · obtain ⟨z, rfl, _⟩ := h
   rfl
 obtain ⟨z, rfl, hz, q1, q2⟩ := h
 refine ⟨_, (pss_cons (ps_set (i := 1) sc_read_paper.nd rfl (Or.inl rfl) (pe_gotMk g_Reader_init pass0 hr (by decide) rfl (pa_cons (pv 0) pa_nil)))
     (pss_cons (ps_set (i := 2) sc_read_paper.nd rfl (Or.inl rfl) (pe_lstA pa_nil))
     (pss_cons (ps_set (i := 3) sc_read_paper.nd rfl (Or.inl rfl) (pe_gotX gX_begin_paper xe_pass hr (by decide) rfl (pa_cons (pv 1) (pa_cons (pv 2) pa_nil))))
     (pss_cons (ps_while PassesOwn.leaving (pt_cmpR op_gt (pe_callB call_len_seq rfl z_len bt_len (pa_cons (pv 2) pa_nil)) pe_int (nomark _)) (pss_one (ps_if (pt_cmpR op_isN (pv 3) pe_non (nomark _)) (pss_one (ps_set (i := 3) sc_read_paper.nd rfl (Or.inl rfl) (pe_gotX gX_begin_paper xe_pass hr (by decide) rfl (pa_cons (pv 1) (pa_cons (pv 2) pa_nil))))) (pss_one (ps_set (i := 3) sc_read_paper.nd rfl (Or.inl rfl) (pe_gotX gX_end_part xe_pass hr (by decide) rfl (pa_cons (pv 1) (pa_cons (pv 2) (pa_cons (pv 3) pa_nil)))))))))
     (pss_cons (ps_if (pt_not (pt_val (pe_gotM0 g_Reader_at_end cl_Reader pass0 hr (by decide) (pv 1)))) (pss_one (ps_raiseV o_NoText rfl (pa_cons pe_str pa_nil))) pss_nil)
     (pss_one (ps_ret (pv 3)))))))), ?_⟩
 walk_at "r"
 intro r dx nr nd dr
 refine ⟨r, dx, z, rfl, upd_same, rfl, ?_⟩
 rw [upd_upd]
 have hr1 : (upd (upd H dx (.own r)) r (.ins CR dx (TX.rdr z 0))) r = some (.ins CR dx (TX.rdr z 0)) := upd_same
 have s1 : Same H (upd (upd H dx (.own r)) r (.ins CR dx (TX.rdr z 0))) := fun b o e => by
   rw [upd_ne (ne_of_none e nr), upd_ne (ne_of_none e nd)]
   exact e
 generalize upd (upd H dx (.own r)) r (.ins CR dx (TX.rdr z 0)) = H1 at hr1 s1
 walk_at "r"
 intro lb H2 n2 s2 e2
 walk_at "r"
 have R0 : TX.Rd0 H H2 r lb [] := ⟨s1.trans s2, nr, s1.free n2, ⟨_, _, _, s2 _ _ hr1⟩, e2, fun f hf => absurd hf (by simp), by simp⟩
 have key : ∀ Q' : VK, (∀ L v cur rs H3, TX.LI CR H H3 r lb dx z L v cur rs → Q' v H3) → spX_begin_paper K CR C0 [.ref r, .ref lb] H2 Q' E := fun Q' k => by
   refine ⟨r, dx, lb, z, 0, [], rfl, s2 _ _ hr1, e2, hz, by simp, Nat.zero_le _, fun d rs v H3 eb b3 hr3 rd3 => ?_, fun p g rs a b H3 eb na nb hr3 hl3 ha3 hb3 b3 => ?_, fun eb H3 b3 => ?_⟩
   · have sf : rs <:+ z.cps.toList := TX.begin_suf.1 d rs eb
     obtain ⟨R3, c3⟩ := R0.is b3 hr3 rd3
     have e0 : TX.pread z.cps.toList = TX.prun [] (some d) rs := by unfold TX.pread; rw [show TX.pbegin z.cps.toList = _ from eb]
     exact k [] v (some d) rs H3 ⟨R3, c3, hr3, sf, by simp; exact TX.suf_len sf, fun f hf => absurd hf (by simp), fun _ y => (by cases y), fun _ _ => TX.rd_nn rd3 (TX.begin_nn eb), e0.symm⟩
   · have sf : rs <:+ z.cps.toList := TX.begin_suf.2 p g rs eb
     have R3 := R0.op na nb hr3 hl3 ha3 hb3 b3
     have e0 : TX.pread z.cps.toList = TX.prun [(p, g, [])] none rs := by unfold TX.pread; rw [show TX.pbegin z.cps.toList = _ from eb]
     have l0 : rs.length < z.length := by have := TX.begin_lt.2 p g rs eb; rw [List.drop_zero, TX.len_toList] at this; exact this
     exact k _ .non none rs H3 ⟨R3, rfl, hr3, sf, by simp; omega, fun f hf => by
       have : f = ⟨a, b, [], p, g, []⟩ := by simpa using hf
       subst this; simp; omega, fun y => (by cases y), fun _ y => (by cases y), e0.symm⟩
   · have e0 : TX.pread z.cps.toList = none := by unfold TX.pread; rw [show TX.pbegin z.cps.toList = _ from eb]
     exact q2 e0 H3 (fun c o e => b3 c o (ne_of_none e nr) (R0.sm c o e))
 refine key _ fun L v cur rs H3 I3 => ?_
 walk_at "r"
 refine ⟨fun m σ H' => ∃ L v cur rs, m = rs.length ∧ σ = ([some (.str z), some (.ref r), some (.ref lb), some v] : St) ∧ TX.LI CR H H' r lb dx z L v cur rs, ⟨_, L, v, cur, rs, rfl, rfl, I3⟩, ?_⟩
 clear I3
 rintro m _ H4 ⟨L, v, cur, rs, rfl, rfl, I4⟩
 walk_at "r"
 refine ⟨lb, _, rfl, .inl (SqL.of I4.R.lst), ?_⟩
 walk_at "r"
 refine ite2 (fun c0 => ?_) (fun c0 => ?_)
 · have L0 : L ≠ [] := fun y => by rw [y] at c0; exact absurd c0 (by decide)
   obtain ⟨f, L, rfl⟩ := List.exists_cons_of_ne_nil L0
   refine ⟨_, fun _ _ h => h, ?_⟩
   walk_at "r"
   cases cur with
   | none =>
     obtain rfl : v = .non := I4.cu
     have sd := TX.suf_drop I4.sf
     have l4 : (f :: L).length + rs.length ≤ z.length := I4.ll
     walk_at "r"
     refine ⟨r, dx, lb, z, _, _, rfl, I4.hr, I4.R.lst, hz, by simp at l4 ⊢; omega, Nat.sub_le _ _, fun d rs' v H5 eb b5 hr5 rd5 => ?_, fun p g rs' a b H5 eb na nb hr5 hl5 ha5 hb5 b5 => ?_, fun eb H5 b5 => ?_⟩
     · rw [sd] at eb
       obtain ⟨R5, c5⟩ := I4.R.is b5 hr5 rd5
       have l5 := TX.begin_lt.1 d rs' eb
       exact ⟨rs'.length, l5, f :: L, v, some d, rs', rfl, rfl, ⟨R5, c5, hr5, (TX.begin_suf.1 d rs' eb).trans I4.sf, by omega, fun h hh => by have := I4.lx h hh; omega, fun _ y => (by cases y), fun _ _ => TX.rd_nn rd5 (TX.begin_nn eb), by rw [← I4.ev]; exact (TX.prun_is eb).symm⟩⟩
     · rw [sd] at eb
       have R5 := I4.R.op na nb hr5 hl5 ha5 hb5 b5
       have l5 := TX.begin_lt.2 p g rs' eb
       exact ⟨rs'.length, l5, _, .non, none, rs', rfl, rfl, ⟨R5, rfl, hr5, (TX.begin_suf.2 p g rs' eb).trans I4.sf, by rw [List.length_cons]; omega, fun h hh => by
         rcases List.mem_cons.mp hh with rfl | hh
         · show 0 + rs'.length ≤ z.length; omega
         · have := I4.lx h hh; omega, fun y => (by cases y), fun _ y => (by cases y), by rw [← I4.ev]; exact (TX.prun_op eb).symm⟩⟩
     · rw [sd] at eb
       exact q2 (by rw [← I4.ev]; exact TX.prun_no eb) H5 (fun c o e => b5 c o (ne_of_none e nr) (I4.R.sm c o e))
   | some d =>
     have sd := TX.suf_drop I4.sf
     have l4 : (f :: L).length + rs.length ≤ z.length := I4.ll
     have lf := I4.lx f (.head _)
     obtain ⟨f0, fb0, fa, fb, _⟩ := I4.R.fr f (.head _)
     obtain ⟨n1, n2, n3, n4⟩ := I4.R.fne (f := f) (.head _)
     have nb : ∀ {e o}, H e = some o → e ≠ f.b := fun e => ne_of_none e fb0
     have hl : H4 lb = some (.lst ((L.reverse.map fun f => V.ref f.a) ++ [.ref f.a])) := by have := I4.R.lst; rw [List.reverse_cons, List.map_append] at this; exact this
     refine ite2 (fun y => absurd (of_decide_eq_true y) (I4.nv d rfl)) (fun _ => ?_)
     walk_at "r"
     refine ⟨r, dx, lb, f.a, f.b, z, _, _, f.xs, f.p, f.g, v, rfl, I4.hr, hl, fa, fb, n4, hz, by simp at l4 ⊢; omega, by omega, Nat.sub_le _ _, fun t rs' c H5 eb nc hr5 hl5 hc5 hb5 b5 => ?_, fun t rs' c H5 eb nc hr5 hl5 hc5 hb5 b5 => ?_, fun eb H5 b5 => ?_⟩
     · rw [sd] at eb
       obtain ⟨R5, c5⟩ := I4.R.cl I4.cu nc hr5 hl5 hc5 hb5 b5
       have l5 := TX.end_lt.1 t rs' eb
       exact ⟨rs'.length, l5, L, _, _, rs', rfl, rfl, ⟨R5, c5, hr5, (TX.end_suf.1 t rs' eb).trans I4.sf, by simp at l4; omega, fun h hh => by have := I4.lx h (.tail _ hh); omega, fun _ y => (by cases y), fun _ _ y => (by cases y), by rw [← I4.ev]; exact (TX.prun_cl eb).symm⟩⟩
     · rw [sd] at eb
       have R5 := I4.R.go I4.cu nc hr5 (by rw [List.reverse_cons, List.map_append]; exact hl5) hc5 hb5 b5
       have l5 := TX.end_lt.2 t rs' eb
       exact ⟨rs'.length, l5, _, .non, none, rs', rfl, rfl, ⟨R5, rfl, hr5, (TX.end_suf.2 t rs' eb).trans I4.sf, by simp at l4 ⊢; omega, fun h hh => by
         rcases List.mem_cons.mp hh with rfl | hh
         · show (f.xs ++ [V.ref c]).length + rs'.length ≤ z.length
           rw [List.length_append]; simp; omega
         · have := I4.lx h (.tail _ hh); omega, fun y => (by cases y), fun _ y => (by cases y), by rw [← I4.ev]; exact (TX.prun_go eb).symm⟩⟩
     · rw [sd] at eb
       exact q2 (by rw [← I4.ev]; exact TX.prun_eno eb) H5 (fun c o e => b5 c o (ne_of_none e nr) (ne_of_none e I4.R.l0) (nb e) (I4.R.sm c o e))
 · have L0 : L = [] := by
     cases L with
     | nil => rfl
     | cons f L => exact absurd (decide_eq_true (by simp)) c0
   subst L0
   obtain ⟨d, rfl⟩ : ∃ d, cur = some d := by
     cases cur with
     | none => exact absurd rfl (I4.ne rfl)
     | some d => exact ⟨d, rfl⟩
   have ev : (if rs = [] then some d else none) = TX.pread z.cps.toList := by rw [← I4.ev]; exact TX.prun_end.symm
   have ls := TX.suf_len I4.sf
   walk_at "r"
   refine ⟨r, dx, _, rfl, I4.hr, rfl, ?_⟩
   walk_at "r"
   refine ⟨r, dx, z, _, rfl, I4.hr, hz, ?_⟩
   walk_at "r"
   refine ite2 (fun c1 => ?_) (fun c1 => ?_)
   · walk_at "r"
     refine ⟨by simp, q2 ?_ H4 I4.R.sm⟩
     rw [← ev, if_neg (fun y => by rw [y] at c1; simp at c1)]
   · have r0 : rs = [] := by
       have c1 : z.length - rs.length = z.length := by simpa using c1
       cases rs with
       | nil => rfl
       | cons c t => simp at c1 ls; omega
     walk_at "r"
     exact q1 d v H4 (by rw [← ev, if_pos r0]) I4.R.sm (I4.R.out I4.cu)
noncomputable def sp_show_paper (K : PySem.W.Frag) (dd : Nat) : Sp := fun vs H Q _ => 0 < dd ∧ ∃ (v : V) (d : PyData) (B : Nat), vs = [v] ∧ RdV H v d ∧ TX.NB B dd d ∧ B ≤ 900 ∧ (TX.sh dd d).length ≤ 10 ^ 6 ∧ ∀ H', Same H H' → Q (.str (TX.tS (TX.sh dd d))) H'
theorem ok_show_paper {f : Addr} {fd : FuncData} {dd : Nat} (F : Fun K "show_paper" "show_paper" s_show_paper f fd) (g_show_paper : Got P w K mg base "show_paper" ["paper"] (2 + dd) (sp_show_paper K dd)) : FnOk P w K mg base CX0 (2 + (dd + 1)) f fd ["paper"] (sp_show_paper K (dd + 1)) := by
 refine F.ok sc_show_paper (fun vs H Q E h => ?_) (fun cdv A outer s H vs Q E hr h => ?_)
 · obtain ⟨_, v, d, B, rfl, _⟩ := h
   rfl
 obtain ⟨_, v, d, B, rfl, rd, ip, hB, hl, q⟩ := h
 refine ⟨_, (pss_cons (ps_if (pt_cmpR op_eq (pe_ix ix_tup (pv 0) pe_int (fun _ _ => rfl)) pe_str (nomark _)) (pss_one (ps_ret pe_str)) pss_nil)
     (pss_cons (ps_set (i := 1) sc_show_paper.nd rfl (Or.inl rfl) (pe_ix ix_tup (pv 0) pe_int (fun _ _ => rfl)))
     (pss_cons (ps_set (i := 2) sc_show_paper.nd rfl (Or.inl rfl) (pe_ix ix_tup (pv 0) pe_int (fun _ _ => rfl)))
     (pss_cons (ps_set (i := 3) sc_show_paper.nd rfl (Or.inl rfl) (pe_lstA pa_nil))
     (pss_cons (ps_for PassesOwn.never rfl (pi_list (pe_ix ix_tup (pv 0) pe_int (fun _ _ => rfl))) (pg_name (i := 4) sc_show_paper.nd rfl (Or.inl rfl)) (pss_cons (ps_set (i := 5) sc_show_paper.nd rfl (Or.inl rfl) (pe_got g_show_paper hr (Nat.le_refl _) rfl (pa_cons (pe_ix ix_tup (pv 4) pe_int (fun _ _ => rfl)) pa_nil)))
     (pss_cons (ps_set (i := 6) sc_show_paper.nd rfl (Or.inl rfl) (pe_ix ix_tup (pv 4) pe_int (fun _ _ => rfl)))
     (pss_one (ps_expr (pe_bm PySem.F.plainAttrs_list PySem.F.slot_list_append PySem.F.type_list_append mt_append (pv 3) (pa_cons (pe_fstr (pjv_cons (pe_fmt (pv 5)) (pjv_cons pe_str (pjv_cons (pe_fmt (pv 6)) pjv_nil)))) pa_nil)))))))
     (pss_cons (ps_set (i := 7) sc_show_paper.nd rfl (Or.inl rfl) (pe_bm PySem.F.plainAttrs_str PySem.F.slot_str_join PySem.F.type_str_join mt_sJoin pe_str (pa_cons (pv 3) pa_nil)))
     (pss_one (ps_ret (pe_fstr (pjv_cons (pe_fmt (pv 1)) (pjv_cons pe_str (pjv_cons (pe_fmt (pv 2)) (pjv_cons pe_str (pjv_cons (pe_fmt (pv 7)) (pjv_cons pe_str pjv_nil))))))))))))))), ?_⟩
 rcases ip with rfl | ⟨p, g, ps, rfl, hp, hg, lp, hx⟩
 · obtain ⟨a, rfl, ha⟩ := rd_two rd
   walk_at "r"
   refine ⟨a, _, _, _, rfl, rfl, SqT.of ha, rfl, ?_⟩
   walk_at "r"
   rw [TX.sh_two] at q
   exact q H (Same.refl _)
 · obtain ⟨a, b, xs, rfl, ha, hb, rs⟩ := rd_root rd
   rw [TX.sh_root'] at q hl
   have ls := rs.length
   walk_at "r"
   refine ⟨a, _, _, _, rfl, rfl, SqT.of ha, rfl, ?_⟩
   walk_at "r"
   refine ⟨a, _, _, _, rfl, rfl, SqT.of ha, rfl, ?_⟩
   walk_at "r"
   refine ⟨a, _, _, _, rfl, rfl, SqT.of ha, rfl, ?_⟩
   walk_at "r"
   intro l H1 n1 s1 e1
   walk_at "r"
   refine ⟨a, _, _, _, rfl, rfl, SqT.of (s1 _ _ ha), rfl, ?_⟩
   refine ⟨b, rfl, ⟨_, SqL.of (s1 _ _ hb)⟩, ?_⟩
   have bl : b ≠ l := ne_of_none hb n1
   refine for_list (fun i σ H' => i ≤ ps.length ∧ But l H1 H' ∧ H' l = some (.lst (((ps.take i).map (TX.pT dd)).map fun t => V.str (TX.tS t))) ∧ ∃ (r4 r5 r6 r7 : Option V), σ = ([some (.ref a), some (.int (p : Int)), some (.int (g : Int)), some (.ref l), r4, r5, r6, r7] : St)) ⟨Nat.zero_le _, But.refl, e1, _, _, _, _, rfl⟩ (fun i σ H' _ h => SqL.of (h.2.1 _ _ bl (s1 _ _ hb))) ?_ ?_
   · rintro i x _ H2 hxi ⟨hi, f2, e2, r4, r5, r6, r7, rfl⟩
     obtain ⟨y, hy, ry⟩ := rs.get hxi
     obtain ⟨t, k, rfl, hk4, it⟩ := hx y (List.mem_of_getElem? hy)
     have hk : k < 10 ^ 60 := TX.t60 hk4
     have sH2 : Same H H2 := fun c o e => f2 c o (ne_of_none e n1) (s1 _ _ e)
     obtain ⟨c, z, rfl, hc, rz⟩ := rd_part (ry.mono sH2)
     have il : i < ps.length := (List.getElem?_eq_some_iff.mp hy).1
     have l1 : (TX.pT dd (partP t k)).length ≤ (TX.jn (ps.map (TX.pT dd))).length := TX.jn_part (List.mem_map_of_mem (List.mem_of_getElem? hy))
     have l2 : (TX.pT dd (partP t k)).length = (TX.sh dd t).length + ((TX.dg k).length + 1) := by show (TX.sh dd t ++ 42 :: TX.dg k).length = _; rw [List.length_append, List.length_cons]
     have l3 : (TX.jn (ps.map (TX.pT dd))).length ≤ 10 ^ 6 := by simp only [List.length_append, List.length_cons] at hl; omega
     walk_at "r"
     refine ⟨c, _, _, _, rfl, rfl, SqT.of hc, rfl, ?_⟩
     walk_at "r"
     refine ⟨it.pos, z, t, B, rfl, rz, it, hB, by omega, fun H3 s3 => ?_⟩
     walk_at "r"
     refine ⟨c, _, _, _, rfl, rfl, SqT.of (s3 _ _ hc), rfl, ?_⟩
     walk_at "r"
     have e3 := s3 _ _ e2
     refine ⟨.inl ⟨rfl, _, SqL.of e3⟩, ?_⟩
     walk_at "r"
     have t1 : Str.empty ++ TX.tS (TX.sh dd t) ++ "*" = TX.tS (TX.sh dd t ++ [42]) := by rw [TX.em_cat, TX.star_tS, TX.tS_cat]
     have t2 : Str.empty ++ TX.tS (TX.sh dd t) ++ "*" ++ Str.ofString (toString (k : Int)) = TX.tS (TX.pT dd (partP t k)) := by
       rw [t1, TX.tS_int, TX.tS_cat]
       show TX.tS _ = TX.tS (TX.sh dd t ++ 42 :: TX.dg k)
       rw [List.append_assoc]; rfl
     refine .inr ⟨TX.tS (TX.sh dd t), rfl, by rw [TX.tS_len]; exact TX.sz6 (by omega), ?_⟩
     refine ⟨_, rfl, by rw [TX.em_cat, TX.tS_len]; exact TX.sz6 (by omega), ?_⟩
     refine ⟨_, rfl, by rw [t1, TX.tS_len, List.length_append]; exact TX.sz6 (by simp; omega), ?_⟩
     refine ⟨_, rfl, .inl ⟨(k : Int), rfl, TX.big_log hk, ?_⟩⟩
     have h9 : (Str.empty ++ TX.tS (TX.sh dd t) ++ "*" ++ Str.ofString (toString (k : Int))).length ≤ sizeLine := by rw [t2, TX.tS_len]; exact TX.sz6 (by omega)
     refine ⟨_, rfl, h9, h9, ?_⟩
     rw [t2]
     refine ⟨l, _, _, rfl, rfl, e3, by rw [TX.sz_eq]; simp; omega, ?_⟩
     refine ⟨by omega, f2.trans (s3.but.trans .put), ?_, _, _, _, _, rfl⟩
     rw [upd_same, List.take_add_one, hy]
     simp
   · rintro _ H2 ⟨_, f2, e2, r4, r5, r6, r7, rfl⟩
     rw [ls, List.take_length] at e2
     have sH2 : Same H H2 := fun c o e => f2 c o (ne_of_none e n1) (s1 _ _ e)
     have l3 : (TX.jn (ps.map (TX.pT dd))).length ≤ 10 ^ 6 := by simp only [List.length_append, List.length_cons] at hl; omega
     walk_at "r"
     refine ⟨_, l, (ps.map (TX.pT dd)).map TX.tS, rfl, rfl, by rw [e2, List.map_map (f := TX.tS)]; rfl, TX.join_ok l3, ?_⟩
     rw [TX.join_tS]
     have lp' := TX.dg_len (k := 59) hp
     have lg' := TX.dg_len (k := 59) hg
     walk_at "r"
     have t1 : Str.empty ++ Str.ofString (toString (p : Int)) = TX.tS (TX.dg p) := by rw [TX.tS_int, TX.em_cat]
     have t2 : Str.empty ++ Str.ofString (toString (p : Int)) ++ ":" = TX.tS (TX.dg p ++ [58]) := by rw [t1, TX.colon_tS, TX.tS_cat]
     have t3 : Str.empty ++ Str.ofString (toString (p : Int)) ++ ":" ++ Str.ofString (toString (g : Int)) = TX.tS (TX.dg p ++ [58] ++ TX.dg g) := by rw [t2, TX.tS_int, TX.tS_cat]
     have t4 : Str.empty ++ Str.ofString (toString (p : Int)) ++ ":" ++ Str.ofString (toString (g : Int)) ++ "(" = TX.tS (TX.dg p ++ [58] ++ TX.dg g ++ [40]) := by rw [t3, TX.op_tS, TX.tS_cat]
     have t5 : Str.empty ++ Str.ofString (toString (p : Int)) ++ ":" ++ Str.ofString (toString (g : Int)) ++ "(" ++ TX.tS (TX.jn (ps.map (TX.pT dd))) = TX.tS (TX.dg p ++ [58] ++ TX.dg g ++ [40] ++ TX.jn (ps.map (TX.pT dd))) := by rw [t4, TX.tS_cat]
     have t6 : Str.empty ++ Str.ofString (toString (p : Int)) ++ ":" ++ Str.ofString (toString (g : Int)) ++ "(" ++ TX.tS (TX.jn (ps.map (TX.pT dd))) ++ ")" = TX.tS (TX.dg p ++ 58 :: (TX.dg g ++ 40 :: (TX.jn (ps.map (TX.pT dd)) ++ [41]))) := by
       rw [t5, TX.cl_tS, TX.tS_cat]
       congr 1
       simp
     refine .inl ⟨(p : Int), rfl, TX.big_log hp, ?_⟩
     refine ⟨_, rfl, by rw [t1, TX.tS_len]; exact TX.sz6 (by omega), ?_⟩
     refine ⟨_, rfl, by rw [t2, TX.tS_len, List.length_append]; exact TX.sz6 (by simp; omega), ?_⟩
     refine ⟨_, rfl, .inl ⟨(g : Int), rfl, TX.big_log hg, ?_⟩⟩
     refine ⟨_, rfl, by rw [t3, TX.tS_len]; exact TX.sz6 (by simp; omega), ?_⟩
     refine ⟨_, rfl, by rw [t4, TX.tS_len]; exact TX.sz6 (by simp; omega), ?_⟩
     refine ⟨_, rfl, .inr ⟨_, rfl, by rw [TX.tS_len]; exact TX.sz6 (by omega), ?_⟩⟩
     refine ⟨_, rfl, by rw [t5, TX.tS_len]; exact TX.sz6 (by simp; omega), ?_⟩
     have h9 : (Str.empty ++ Str.ofString (toString (p : Int)) ++ ":" ++ Str.ofString (toString (g : Int)) ++ "(" ++ TX.tS (TX.jn (ps.map (TX.pT dd))) ++ ")").length ≤ sizeLine := by rw [t6, TX.tS_len]; exact TX.sz6 (by omega)
     refine ⟨_, rfl, h9, h9, ?_⟩
     rw [t6]
     exact q H2 sH2
theorem all_show_paper {f : Addr} {fd : FuncData} (F : Fun K "show_paper" "show_paper" s_show_paper f fd) (b : Binds K fd ["paper"] []) (kp : PySem.W.keepIn K (.ref f) = true) (m : mg "show_paper" = some (.ref f)) : ∀ dd : Nat, Got P w K mg base "show_paper" ["paper"] (2 + dd) (sp_show_paper K dd)
 | 0 => ⟨f, fd, F.ok (k := 1) sc_show_paper (fun vs H Q E h => by obtain ⟨z, _⟩ := h; exact absurd z (Nat.lt_irrefl 0)) (fun cdv A outer s H vs Q E hr h => by obtain ⟨z, _⟩ := h; exact absurd z (Nat.lt_irrefl 0)), b, kp, m⟩
 | dd + 1 => have g_show_paper := all_show_paper F b kp m dd
   ⟨f, fd, ok_show_paper F g_show_paper, b, kp, m⟩
noncomputable def sp__law_cell_at (K : PySem.W.Frag) : Sp := fun vs H Q _ => ∃ (a : Addr) (ns : List Int) (k : Nat), vs = [.ref a, .int k] ∧ SqL K H a (ns.map V.int) ∧ ∀ c : Int, Q (.int c) H
theorem ok__law_cell_at {f : Addr} {fd : FuncData} (F : Fun K "_law_cell_at" "_law_cell_at" s__law_cell_at f fd) (z_len : mg "len" = none) : FnOk P w K mg base CX0 1 f fd ["script", "k"] (sp__law_cell_at K) := by
 refine F.ok sc__law_cell_at (fun vs H Q E h => ?_) (fun cdv A outer s H vs Q E hr h => ?_)
 · obtain ⟨a, ns, k, rfl, _⟩ := h
   rfl
 obtain ⟨a, ns, k, rfl, hs, q⟩ := h
 refine ⟨_, (pss_cons (ps_if (pt_cmpR op_lt (pv 1) (pe_callB call_len_seq rfl z_len bt_len (pa_cons (pv 0) pa_nil)) (nomark _)) (pss_one (ps_ret (pe_ix ix_list (pv 0) (pv 1) (fun _ _ => rfl)))) pss_nil)
     (pss_one (ps_ret pe_int))), ?_⟩
 walk_at "r"
 refine ⟨a, _, rfl, .inl hs, ?_⟩
 walk_at "r"
 refine ite2 (fun cc => ?_) (fun _ => ?_)
 · have lt : k < ns.length := by have := of_decide_eq_true cc; rw [List.length_map] at this; omega
   walk_at "r"
   exact ⟨a, _, _, _, rfl, rfl, hs, atI_nat (by rw [List.getElem?_map, List.getElem?_eq_getElem lt]; rfl), q _⟩
 · try refine h9 _ _ ?_
   exact q _
noncomputable def sp__law_digits (K : PySem.W.Frag) : Sp := fun vs H Q _ => ∃ (c m b : Int), vs = [.int c, .int m, .int b] ∧ 0 ≤ m ∧ m ≤ 100 ∧ 0 < b ∧ b ≤ 10 ^ 9 ∧ ∀ (p : Addr) (ns : List Int) (H' : Hp), H p = none → Same H H' → H' p = some (.lst (ns.map V.int)) → ns.length = m.toNat → (∀ x ∈ ns, 0 ≤ x ∧ x < b) → Q (.ref p) H'
theorem ok__law_digits {f : Addr} {fd : FuncData} (F : Fun K "_law_digits" "_law_digits" s__law_digits f fd) (z_range : mg "range" = none) : FnOk P w K mg base CX0 1 f fd ["cell", "many", "top"] (sp__law_digits K) := by
 refine F.ok sc__law_digits (fun vs H Q E h => ?_) (fun cdv A outer s H vs Q E hr h => ?_)
 · obtain ⟨c, m, b, rfl, _⟩ := h
   rfl
 obtain ⟨c', m, b, rfl, m0, m1, b0, b1, q⟩ := h
 refine ⟨_, (pss_cons (ps_set (i := 3) sc__law_digits.nd rfl (Or.inl rfl) (pe_lstA pa_nil))
     (pss_cons (ps_set (i := 4) sc__law_digits.nd rfl (Or.inl rfl) (pv 0))
     (pss_cons (ps_for PassesOwn.never rfl (pi_range1 rfl z_range (pa_cons (pv 1) pa_nil)) (pg_name (i := 5) sc__law_digits.nd rfl (Or.inl rfl)) (pss_cons (ps_set (i := 6) sc__law_digits.nd rfl (Or.inl rfl) (pe_op op_modK (pe_op op_mulR (pe_op op_add (pe_op op_add (pv 0) (pe_op op_mulB pe_int (pv 5))) pe_int) pe_int) pe_int))
     (pss_cons (ps_set (i := 6) sc__law_digits.nd rfl (Or.inl rfl) (pe_op op_modK (pe_op op_mulB (pv 6) (pv 6)) pe_int))
     (pss_cons (ps_set (i := 6) sc__law_digits.nd rfl (Or.inl rfl) (pe_op op_fdivK (pe_op op_modK (pe_op op_mulKR (pe_op op_add (pv 6) (pe_op op_mulKL pe_int (pe_op op_add (pv 5) pe_int))) pe_int) pe_int) pe_int))
     (pss_join (ps_if (pt_cmpR op_ge (pv 0) (pe_powc (10 ^ 18)) (nomark _)) (pss_one (ps_set (i := 6) sc__law_digits.nd rfl (Or.inl rfl) (pv 4))) pss_nil)
     (pss_cons (ps_expr (pe_bm PySem.F.plainAttrs_list PySem.F.slot_list_append PySem.F.type_list_append mt_append (pv 3) (pa_cons (pe_op op_mod (pv 6) (pv 2)) pa_nil)))
     (pss_one (ps_set (i := 4) sc__law_digits.nd rfl (Or.inl rfl) (pe_op op_fdivB (pv 4) (pv 2))))))))))
     (pss_one (ps_ret (pv 3)))))), ?_⟩
 walk_at "r"
 intro p H1 np s1 e1
 walk_at "r"
 refine ⟨by omega, by omega, ?_⟩
 refine for_up (fun i σ H' => i ≤ 100 ∧ But p H1 H' ∧ ∃ (ns : List Int) (r : Int) (r5 r6 : Option V), σ = ([some (.int c'), some (.int m), some (.int b), some (.ref p), some (.int r), r5, r6] : St) ∧ H' p = some (.lst (ns.map V.int)) ∧ ns.length = i ∧ (∀ x ∈ ns, 0 ≤ x ∧ x < b)) ⟨by omega, But.refl, [], _, _, _, rfl, e1, rfl, fun x hx => absurd hx (by simp)⟩ ?_ ?_
 · rintro i _ H2 hi ⟨i1, f2, ns, r, r5, r6, rfl, e2, ln, hx⟩
   walk_at "r"
   refine ⟨?_, ?_⟩
   · exact ⟨by decide, by decide⟩
   walk_at "r"
   have s0 := Int.emod_nonneg ((c' + 977 * (0 + (i : Int)) + 1) * 48271) (show (2147483647 : Int) ≠ 0 by decide)
   have s1' := Int.emod_lt_of_pos ((c' + 977 * (0 + (i : Int)) + 1) * 48271) (show (0 : Int) < 2147483647 by decide)
   dsimp only
   generalize (c' + 977 * (0 + (i : Int)) + 1) * 48271 % 2147483647 = st at *
   walk_at "r"
   have t0 := Int.emod_nonneg (st * st) (show (2147483629 : Int) ≠ 0 by decide)
   have t1 := Int.emod_lt_of_pos (st * st) (show (0 : Int) < 2147483629 by decide)
   try dsimp only
   generalize st * st % 2147483629 = st2 at *
   walk_at "r"
   try dsimp only
   generalize (st2 + 40692 * (0 + (i : Int) + 3)) * 69621 % 2147483423 / 8 = st3 at *
   refine ⟨fun σ H' => H' = H2 ∧ ∃ (r st : Int), σ = ([some (.int c'), some (.int m), some (.int b), some (.ref p), some (.int r), some (.int (0 + (i : Int))), some (.int st)] : St), ?_, ?_⟩
   · walk_at "r"
     refine ite2 (fun _ => ?_) (fun _ => ?_)
     · walk_at "r"
       exact ⟨_, _, rfl⟩
     · exact ⟨rfl, _, _, rfl⟩
   · rintro σ _ ⟨rfl, r', st', rfl⟩
     walk_at "r"
     refine ⟨.inl ⟨rfl, _, SqL.of e2⟩, ?_⟩
     walk_at "r"
     refine ⟨p, _, _, rfl, rfl, e2, small1000 (by rw [List.length_map]; omega), ?_⟩
     walk_at "r"
     refine ⟨by omega, f2.trans .put, ns ++ [st' % b], _, _, _, rfl, ?_, by rw [List.length_append, ln]; rfl, fun x hx' => ?_⟩
     · rw [upd_same]; simp
     · rcases List.mem_append.mp hx' with z | z
       · exact hx x z
       · rw [List.mem_singleton.mp z]
         exact ⟨Int.emod_nonneg _ (by omega), Int.emod_lt_of_pos _ (by omega)⟩
 · rintro _ H2 ⟨i1, f2, ns, r, r5, r6, rfl, e2, ln, hx⟩
   walk_at "r"
   exact q p ns H2 np (But.fresh np s1 f2) e2 (by rw [ln]) hx
noncomputable def sp__law_alike (K : PySem.W.Frag) (dd : Nat) : Sp := fun vs H Q _ => 0 < dd ∧ ∃ (v w : V) (d : PyData), vs = [v, w] ∧ RdV H v d ∧ RdV H w d ∧ TX.AL dd d ∧ ∀ H', Same H H' → Q (.bl true) H'
theorem ok__law_alike {f : Addr} {fd : FuncData} {dd : Nat} (F : Fun K "_law_alike" "_law_alike" s__law_alike f fd) (g__law_alike : Got P w K mg base "_law_alike" ["found", "due"] (1 + dd) (sp__law_alike K dd)) (z_isinstance : mg "isinstance" = none) (z_bool : mg "bool" = none) (z_int : mg "int" = none) (z_list : mg "list" = none) (z_tuple : mg "tuple" = none) (z_range : mg "range" = none) (z_len : mg "len" = none) (z_str : mg "str" = none) : FnOk P w K mg base CX0 (1 + (dd + 1)) f fd ["found", "due"] (sp__law_alike K (dd + 1)) := by
 refine F.ok sc__law_alike (fun vs H Q E h => ?_) (fun cdv A outer s H vs Q E hr h => ?_)
 · obtain ⟨_, v, w, d, rfl, _⟩ := h
   rfl
 obtain ⟨_, v, w, d, rfl, rv, rw', al, q⟩ := h
 cases d with
 | none => exact al.elim
 | bool b => exact al.elim
 | dict kv => exact al.elim
 | int i =>
   obtain rfl := rd_intI rv
   obtain rfl := rd_intI rw'
   refine ⟨_, (pss_cons (ps_if (PW.pt (pw_or (pt_cmpR op_isN (pv 1) pe_non (nomark _)) (pw_or1 (pt_val (pe_callB call_isinst rfl z_isinstance bt_isinstance (pa_cons (pv 1) (pa_cons (pe_bltn (v := .ty "str") rfl z_str bt_str rfl) pa_nil))))))) (pss_one (ps_ret (pe_cmpR op_eq (pv 0) (pv 1) (nomark _)))) pss_nil)
     (pss_cons (ps_if (pt_val (pe_callB call_isV3 rfl z_isinstance bt_isinstance (pa_cons (pv 1) (pa_cons (pe_tupA (pa_cons (pe_bltn (v := .ty "tuple") rfl z_tuple bt_tuple rfl) (pa_cons (pe_bltn (v := .ty "list") rfl z_list btl_list rfl) pa_nil))) pa_nil)))) (pss_cons (ps_if (PW.pt (pw_or (pt_cmpR op_ne (pe_callB call_isinst rfl z_isinstance bt_isinstance (pa_cons (pv 0) (pa_cons (pe_bltn (v := .ty "tuple") rfl z_tuple bt_tuple rfl) pa_nil))) (pe_callB call_isinst rfl z_isinstance bt_isinstance (pa_cons (pv 1) (pa_cons (pe_bltn (v := .ty "tuple") rfl z_tuple bt_tuple rfl) pa_nil))) (nomark _)) (pw_or1 (pt_not (pt_val (pe_callB call_isV3 rfl z_isinstance bt_isinstance (pa_cons (pv 0) (pa_cons (pe_tupA (pa_cons (pe_bltn (v := .ty "tuple") rfl z_tuple bt_tuple rfl) (pa_cons (pe_bltn (v := .ty "list") rfl z_list btl_list rfl) pa_nil))) pa_nil)))))))) (pss_one (ps_ret pe_bl)) pss_nil)
     (pss_cons (ps_if (pt_cmpR op_ne (pe_callB call_len_seq rfl z_len bt_len (pa_cons (pv 0) pa_nil)) (pe_callB call_len_seq rfl z_len bt_len (pa_cons (pv 1) pa_nil)) (nomark _)) (pss_one (ps_ret pe_bl)) pss_nil)
     (pss_one (ps_ret (pe_cmpR (op_eqI hr.units0) (pe_comp ["k"] [(0, "found", _), (1, "due", _)] rfl (pi_range1 rfl z_range (pa_cons (pe_callB call_len_seq rfl z_len bt_len (pa_cons (pv 1) pa_nil)) pa_nil)) (fun _ _ _ => (pg_name (i := 0) (show List.Nodup (["k", "found", "due"] : List Str) by decide +kernel) rfl (Or.inl rfl))) (fun _ _ _ => (pts_one (pt_not (pt_val (pe_got g__law_alike hr (Nat.le_refl _) rfl (pa_cons (pe_ix ix_vC (pv 1) (pv 0) (fun _ _ => rfl)) (pa_cons (pe_ix ix_vC (pv 2) (pv 0) (fun _ _ => rfl)) pa_nil))))))) (fun _ _ _ => (pv 0)) rfl (by decide +kernel) rfl (by decide +kernel) (List.forall_mem_cons.mpr ⟨rfl, (List.forall_mem_cons.mpr ⟨rfl, (List.forall_mem_nil _)⟩)⟩) rfl (List.forall_mem_cons.mpr ⟨⟨rfl, rfl, rfl, rfl⟩, (List.forall_mem_cons.mpr ⟨⟨rfl, rfl, rfl, rfl⟩, (List.forall_mem_nil _)⟩)⟩)) (pe_lstA pa_nil) (nomark _)))))) pss_nil)
     (pss_one (ps_ret (pe_and (pe_callB call_isinst rfl z_isinstance bt_isinstance (pa_cons (pv 0) (pa_cons (pe_bltn (v := .ty "int") rfl z_int bt_int rfl) pa_nil))) (pe_and (pe_not (pe_callB call_isinst rfl z_isinstance bt_isinstance (pa_cons (pv 0) (pa_cons (pe_bltn (v := .ty "bool") rfl z_bool bt_bool rfl) pa_nil)))) (pe_one (pe_cmpR op_eq (pv 0) (pv 1) (nomark _))))))))), ?_⟩
   walk_at "r"
   refine ⟨_, _, _, _, rfl, .int _, kit_is', ?_⟩
   walk_at "r"
   intro t H1 s1 e1
   refine ⟨_, t, ["tuple", "list"], "int", _, rfl, .inl ⟨_, rfl, rfl⟩, e1, kit_itl, ?_⟩
   walk_at "r"
   refine ⟨_, _, _, _, rfl, .int _, kit_ii, ?_⟩
   walk_at "r"
   refine ⟨_, _, _, _, rfl, .int _, kit_ib, ?_⟩
   walk_at "r"
   rw [decide_eq_true rfl]
   exact q H1 s1
 | str x =>
   obtain rfl := rd_strI rv
   obtain rfl := rd_strI rw'
   refine ⟨_, (pss_cons (ps_if (PW.pt (pw_or (pt_cmpR op_isN (pv 1) pe_non (nomark _)) (pw_or1 (pt_val (pe_callB call_isinst rfl z_isinstance bt_isinstance (pa_cons (pv 1) (pa_cons (pe_bltn (v := .ty "str") rfl z_str bt_str rfl) pa_nil))))))) (pss_one (ps_ret (pe_cmpR op_eq (pv 0) (pv 1) (nomark _)))) pss_nil)
     (pss_cons (ps_if (pt_val (pe_callB call_isV3 rfl z_isinstance bt_isinstance (pa_cons (pv 1) (pa_cons (pe_tupA (pa_cons (pe_bltn (v := .ty "tuple") rfl z_tuple bt_tuple rfl) (pa_cons (pe_bltn (v := .ty "list") rfl z_list btl_list rfl) pa_nil))) pa_nil)))) (pss_cons (ps_if (PW.pt (pw_or (pt_cmpR op_ne (pe_callB call_isinst rfl z_isinstance bt_isinstance (pa_cons (pv 0) (pa_cons (pe_bltn (v := .ty "tuple") rfl z_tuple bt_tuple rfl) pa_nil))) (pe_callB call_isinst rfl z_isinstance bt_isinstance (pa_cons (pv 1) (pa_cons (pe_bltn (v := .ty "tuple") rfl z_tuple bt_tuple rfl) pa_nil))) (nomark _)) (pw_or1 (pt_not (pt_val (pe_callB call_isV3 rfl z_isinstance bt_isinstance (pa_cons (pv 0) (pa_cons (pe_tupA (pa_cons (pe_bltn (v := .ty "tuple") rfl z_tuple bt_tuple rfl) (pa_cons (pe_bltn (v := .ty "list") rfl z_list btl_list rfl) pa_nil))) pa_nil)))))))) (pss_one (ps_ret pe_bl)) pss_nil)
     (pss_cons (ps_if (pt_cmpR op_ne (pe_callB call_len_seq rfl z_len bt_len (pa_cons (pv 0) pa_nil)) (pe_callB call_len_seq rfl z_len bt_len (pa_cons (pv 1) pa_nil)) (nomark _)) (pss_one (ps_ret pe_bl)) pss_nil)
     (pss_one (ps_ret (pe_cmpR (op_eqI hr.units0) (pe_comp ["k"] [(0, "found", _), (1, "due", _)] rfl (pi_range1 rfl z_range (pa_cons (pe_callB call_len_seq rfl z_len bt_len (pa_cons (pv 1) pa_nil)) pa_nil)) (fun _ _ _ => (pg_name (i := 0) (show List.Nodup (["k", "found", "due"] : List Str) by decide +kernel) rfl (Or.inl rfl))) (fun _ _ _ => (pts_one (pt_not (pt_val (pe_got g__law_alike hr (Nat.le_refl _) rfl (pa_cons (pe_ix ix_vC (pv 1) (pv 0) (fun _ _ => rfl)) (pa_cons (pe_ix ix_vC (pv 2) (pv 0) (fun _ _ => rfl)) pa_nil))))))) (fun _ _ _ => (pv 0)) rfl (by decide +kernel) rfl (by decide +kernel) (List.forall_mem_cons.mpr ⟨rfl, (List.forall_mem_cons.mpr ⟨rfl, (List.forall_mem_nil _)⟩)⟩) rfl (List.forall_mem_cons.mpr ⟨⟨rfl, rfl, rfl, rfl⟩, (List.forall_mem_cons.mpr ⟨⟨rfl, rfl, rfl, rfl⟩, (List.forall_mem_nil _)⟩)⟩)) (pe_lstA pa_nil) (nomark _)))))) pss_nil)
     (pss_one (ps_ret (pe_and (pe_callB call_isinst rfl z_isinstance bt_isinstance (pa_cons (pv 0) (pa_cons (pe_bltn (v := .ty "int") rfl z_int bt_int rfl) pa_nil))) (pe_and (pe_not (pe_callB call_isinst rfl z_isinstance bt_isinstance (pa_cons (pv 0) (pa_cons (pe_bltn (v := .ty "bool") rfl z_bool bt_bool rfl) pa_nil)))) (pe_one (pe_cmpR op_eq (pv 0) (pv 1) (nomark _))))))))), ?_⟩
   walk_at "r"
   refine ⟨_, _, _, _, rfl, .str _, TX.kit_ss, ?_⟩
   walk_at "r"
   rw [decide_eq_true rfl]
   exact q H (Same.refl _)
 | tuple ds =>
   obtain ⟨a, xs, rfl, ha, rx⟩ := rd_tupI rv
   obtain ⟨b, ys, rfl, hb, ry⟩ := rd_tupI rw'
   refine ⟨_, (pss_cons (ps_if (PW.pt (pw_or (pt_cmpR op_isN (pv 1) pe_non (nomark _)) (pw_or1 (pt_val (pe_callB call_isinst rfl z_isinstance bt_isinstance (pa_cons (pv 1) (pa_cons (pe_bltn (v := .ty "str") rfl z_str bt_str rfl) pa_nil))))))) (pss_one (ps_ret (pe_cmpR op_eq (pv 0) (pv 1) (nomark _)))) pss_nil)
     (pss_cons (ps_if (pt_val (pe_callB call_isV3 rfl z_isinstance bt_isinstance (pa_cons (pv 1) (pa_cons (pe_tupA (pa_cons (pe_bltn (v := .ty "tuple") rfl z_tuple bt_tuple rfl) (pa_cons (pe_bltn (v := .ty "list") rfl z_list btl_list rfl) pa_nil))) pa_nil)))) (pss_cons (ps_if (PW.pt (pw_or (pt_cmpR op_ne (pe_callB call_isinst rfl z_isinstance bt_isinstance (pa_cons (pv 0) (pa_cons (pe_bltn (v := .ty "tuple") rfl z_tuple bt_tuple rfl) pa_nil))) (pe_callB call_isinst rfl z_isinstance bt_isinstance (pa_cons (pv 1) (pa_cons (pe_bltn (v := .ty "tuple") rfl z_tuple bt_tuple rfl) pa_nil))) (nomark _)) (pw_or1 (pt_not (pt_val (pe_callB call_isV3 rfl z_isinstance bt_isinstance (pa_cons (pv 0) (pa_cons (pe_tupA (pa_cons (pe_bltn (v := .ty "tuple") rfl z_tuple bt_tuple rfl) (pa_cons (pe_bltn (v := .ty "list") rfl z_list btl_list rfl) pa_nil))) pa_nil)))))))) (pss_one (ps_ret pe_bl)) pss_nil)
     (pss_cons (ps_if (pt_cmpR op_ne (pe_callB call_len_seq rfl z_len bt_len (pa_cons (pv 0) pa_nil)) (pe_callB call_len_seq rfl z_len bt_len (pa_cons (pv 1) pa_nil)) (nomark _)) (pss_one (ps_ret pe_bl)) pss_nil)
     (pss_one (ps_ret (pe_cmpR (op_eqI hr.units0) (pe_comp ["k"] [(0, "found", _), (1, "due", _)] rfl (pi_range1 rfl z_range (pa_cons (pe_callB call_len_seq rfl z_len bt_len (pa_cons (pv 1) pa_nil)) pa_nil)) (fun _ _ _ => (pg_name (i := 0) (show List.Nodup (["k", "found", "due"] : List Str) by decide +kernel) rfl (Or.inl rfl))) (fun _ _ _ => (pts_one (pt_not (pt_val (pe_got g__law_alike hr (Nat.le_refl _) rfl (pa_cons (pe_ix ix_vC (pv 1) (pv 0) (fun _ _ => rfl)) (pa_cons (pe_ix ix_vC (pv 2) (pv 0) (fun _ _ => rfl)) pa_nil))))))) (fun _ _ _ => (pv 0)) rfl (by decide +kernel) rfl (by decide +kernel) (List.forall_mem_cons.mpr ⟨rfl, (List.forall_mem_cons.mpr ⟨rfl, (List.forall_mem_nil _)⟩)⟩) rfl (List.forall_mem_cons.mpr ⟨⟨rfl, rfl, rfl, rfl⟩, (List.forall_mem_cons.mpr ⟨⟨rfl, rfl, rfl, rfl⟩, (List.forall_mem_nil _)⟩)⟩)) (pe_lstA pa_nil) (nomark _)))))) pss_nil)
     (pss_one (ps_ret (pe_and (pe_callB call_isinst rfl z_isinstance bt_isinstance (pa_cons (pv 0) (pa_cons (pe_bltn (v := .ty "int") rfl z_int bt_int rfl) pa_nil))) (pe_and (pe_not (pe_callB call_isinst rfl z_isinstance bt_isinstance (pa_cons (pv 0) (pa_cons (pe_bltn (v := .ty "bool") rfl z_bool bt_bool rfl) pa_nil)))) (pe_one (pe_cmpR op_eq (pv 0) (pv 1) (nomark _))))))))), ?_⟩
   have lx := rx.length
   have ly := ry.length
   walk_at "r"
   refine ⟨_, _, _, _, rfl, .tup hb, kit_ts, ?_⟩
   walk_at "r"
   intro t H1 s1 e1
   have ha1 := s1 _ _ ha
   have hb1 := s1 _ _ hb
   refine ⟨_, t, ["tuple", "list"], "tuple", _, rfl, .inr (.inr ⟨_, _, rfl, hb1, rfl⟩), e1, kit_ttl, ?_⟩
   walk_at "r"
   refine ⟨_, _, _, _, rfl, .tup ha1, kit_tt, ?_⟩
   walk_at "r"
   refine ⟨_, _, _, _, rfl, .tup hb1, kit_tt, ?_⟩
   walk_at "r"
   intro t2 H2 s2 e2
   have ha2 := s2 _ _ ha1
   have hb2 := s2 _ _ hb1
   refine ⟨_, t2, ["tuple", "list"], "tuple", _, rfl, .inr (.inr ⟨_, _, rfl, ha2, rfl⟩), e2, kit_ttl, ?_⟩
   walk_at "r"
   refine ⟨a, _, rfl, .inr (SqT.of ha2), ?_⟩
   walk_at "r"
   refine ⟨b, _, rfl, .inr (SqT.of hb2), ?_⟩
   walk_at "r"
   refine ite2 (fun cc => absurd cc (by rw [lx, ly]; simp)) (fun _ => ?_)
   walk_at "r"
   refine ⟨b, _, rfl, .inr (SqT.of hb2), ?_⟩
   walk_at "r"
   have l9 : ds.length ≤ 900 := al.1
   refine ⟨by omega, by omega, fun D hD => ?_⟩
   have aD : a ≠ D := ne_of_none ha2 hD
   have bD : b ≠ D := ne_of_none hb2 hD
   have s12 := s1.trans s2
   refine comp_range (fun i σ H' => (∃ r, σ = ([r, some (.ref a), some (.ref b)] : St)) ∧ But D H2 H' ∧ H' D = some (.lst [])) ⟨⟨_, rfl⟩, But.put, upd_same⟩ ?_ ?_
   · rintro i _ H3 hi ⟨⟨r', rfl⟩, f3, e3⟩
     have ix : i < ds.length := by omega
     have hd := List.getElem?_eq_getElem ix
     obtain ⟨x, hx, rdx⟩ := rx.get' hd
     obtain ⟨y, hy, rdy⟩ := ry.get' hd
     have ax := al.2 _ (List.getElem_mem ix)
     generalize ds[i] = e at rdx rdy ax
     have s03 : Same H H3 := fun b o w => f3 b o (ne_of_none (s12 _ _ w) hD) (s12 _ _ w)
     rw [Int.zero_add]
     walk_at "r"
     refine .inr ⟨a, _, _, _, rfl, rfl, SqT.of (f3 _ _ aD ha2), atI_nat hx, ?_⟩
     walk_at "r"
     refine .inr ⟨b, _, _, _, rfl, rfl, SqT.of (f3 _ _ bD hb2), atI_nat hy, ?_⟩
     walk_at "r"
     refine ⟨ax.pos, x, y, e, rfl, rdx.mono s03, rdy.mono s03, ax, fun H4 s4 => ?_⟩
     walk_at "r"
     exact ⟨⟨_, rfl⟩, f3.trans s4.but, s4 _ _ e3⟩
   · rintro _ H3 ⟨⟨r', rfl⟩, f3, e3⟩
     walk_at "r"
     intro l5 H4 _ s4 e4
     refine ⟨D, l5, [], [], rfl, rfl, SqL.of (s4 _ _ e3), SqL.of e4, ?_⟩
     exact q H4 ((s12.trans (But.fresh hD (Same.refl _) f3)).trans s4)
 | list ds =>
   obtain ⟨a, xs, rfl, ha, rx⟩ := rd_lstI rv
   obtain ⟨b, ys, rfl, hb, ry⟩ := rd_lstI rw'
   refine ⟨_, (pss_cons (ps_if (PW.pt (pw_or (pt_cmpR op_isN (pv 1) pe_non (nomark _)) (pw_or1 (pt_val (pe_callB call_isinst rfl z_isinstance bt_isinstance (pa_cons (pv 1) (pa_cons (pe_bltn (v := .ty "str") rfl z_str bt_str rfl) pa_nil))))))) (pss_one (ps_ret (pe_cmpR op_eq (pv 0) (pv 1) (nomark _)))) pss_nil)
     (pss_cons (ps_if (pt_val (pe_callB call_isV3 rfl z_isinstance bt_isinstance (pa_cons (pv 1) (pa_cons (pe_tupA (pa_cons (pe_bltn (v := .ty "tuple") rfl z_tuple bt_tuple rfl) (pa_cons (pe_bltn (v := .ty "list") rfl z_list btl_list rfl) pa_nil))) pa_nil)))) (pss_cons (ps_if (PW.pt (pw_or (pt_cmpR op_ne (pe_callB call_isinst rfl z_isinstance bt_isinstance (pa_cons (pv 0) (pa_cons (pe_bltn (v := .ty "tuple") rfl z_tuple bt_tuple rfl) pa_nil))) (pe_callB call_isinst rfl z_isinstance bt_isinstance (pa_cons (pv 1) (pa_cons (pe_bltn (v := .ty "tuple") rfl z_tuple bt_tuple rfl) pa_nil))) (nomark _)) (pw_or1 (pt_not (pt_val (pe_callB call_isV3 rfl z_isinstance bt_isinstance (pa_cons (pv 0) (pa_cons (pe_tupA (pa_cons (pe_bltn (v := .ty "tuple") rfl z_tuple bt_tuple rfl) (pa_cons (pe_bltn (v := .ty "list") rfl z_list btl_list rfl) pa_nil))) pa_nil)))))))) (pss_one (ps_ret pe_bl)) pss_nil)
     (pss_cons (ps_if (pt_cmpR op_ne (pe_callB call_len_seq rfl z_len bt_len (pa_cons (pv 0) pa_nil)) (pe_callB call_len_seq rfl z_len bt_len (pa_cons (pv 1) pa_nil)) (nomark _)) (pss_one (ps_ret pe_bl)) pss_nil)
     (pss_one (ps_ret (pe_cmpR (op_eqI hr.units0) (pe_comp ["k"] [(0, "found", _), (1, "due", _)] rfl (pi_range1 rfl z_range (pa_cons (pe_callB call_len_seq rfl z_len bt_len (pa_cons (pv 1) pa_nil)) pa_nil)) (fun _ _ _ => (pg_name (i := 0) (show List.Nodup (["k", "found", "due"] : List Str) by decide +kernel) rfl (Or.inl rfl))) (fun _ _ _ => (pts_one (pt_not (pt_val (pe_got g__law_alike hr (Nat.le_refl _) rfl (pa_cons (pe_ix ix_vC (pv 1) (pv 0) (fun _ _ => rfl)) (pa_cons (pe_ix ix_vC (pv 2) (pv 0) (fun _ _ => rfl)) pa_nil))))))) (fun _ _ _ => (pv 0)) rfl (by decide +kernel) rfl (by decide +kernel) (List.forall_mem_cons.mpr ⟨rfl, (List.forall_mem_cons.mpr ⟨rfl, (List.forall_mem_nil _)⟩)⟩) rfl (List.forall_mem_cons.mpr ⟨⟨rfl, rfl, rfl, rfl⟩, (List.forall_mem_cons.mpr ⟨⟨rfl, rfl, rfl, rfl⟩, (List.forall_mem_nil _)⟩)⟩)) (pe_lstA pa_nil) (nomark _)))))) pss_nil)
     (pss_one (ps_ret (pe_and (pe_callB call_isinst rfl z_isinstance bt_isinstance (pa_cons (pv 0) (pa_cons (pe_bltn (v := .ty "int") rfl z_int bt_int rfl) pa_nil))) (pe_and (pe_not (pe_callB call_isinst rfl z_isinstance bt_isinstance (pa_cons (pv 0) (pa_cons (pe_bltn (v := .ty "bool") rfl z_bool bt_bool rfl) pa_nil)))) (pe_one (pe_cmpR op_eq (pv 0) (pv 1) (nomark _))))))))), ?_⟩
   have lx := rx.length
   have ly := ry.length
   walk_at "r"
   refine ⟨_, _, _, _, rfl, .lst hb, kit_ls, ?_⟩
   walk_at "r"
   intro t H1 s1 e1
   have ha1 := s1 _ _ ha
   have hb1 := s1 _ _ hb
   refine ⟨_, t, ["tuple", "list"], "list", _, rfl, .inr (.inl ⟨_, _, rfl, hb1, rfl⟩), e1, kit_ltl, ?_⟩
   walk_at "r"
   refine ⟨_, _, _, _, rfl, .lst ha1, kit_lt, ?_⟩
   walk_at "r"
   refine ⟨_, _, _, _, rfl, .lst hb1, kit_lt, ?_⟩
   walk_at "r"
   intro t2 H2 s2 e2
   have ha2 := s2 _ _ ha1
   have hb2 := s2 _ _ hb1
   refine ⟨_, t2, ["tuple", "list"], "list", _, rfl, .inr (.inl ⟨_, _, rfl, ha2, rfl⟩), e2, kit_ltl, ?_⟩
   walk_at "r"
   refine ⟨a, _, rfl, .inl (SqL.of ha2), ?_⟩
   walk_at "r"
   refine ⟨b, _, rfl, .inl (SqL.of hb2), ?_⟩
   walk_at "r"
   refine ite2 (fun cc => absurd cc (by rw [lx, ly]; simp)) (fun _ => ?_)
   walk_at "r"
   refine ⟨b, _, rfl, .inl (SqL.of hb2), ?_⟩
   walk_at "r"
   have l9 : ds.length ≤ 900 := al.1
   refine ⟨by omega, by omega, fun D hD => ?_⟩
   have aD : a ≠ D := ne_of_none ha2 hD
   have bD : b ≠ D := ne_of_none hb2 hD
   have s12 := s1.trans s2
   refine comp_range (fun i σ H' => (∃ r, σ = ([r, some (.ref a), some (.ref b)] : St)) ∧ But D H2 H' ∧ H' D = some (.lst [])) ⟨⟨_, rfl⟩, But.put, upd_same⟩ ?_ ?_
   · rintro i _ H3 hi ⟨⟨r', rfl⟩, f3, e3⟩
     have ix : i < ds.length := by omega
     have hd := List.getElem?_eq_getElem ix
     obtain ⟨x, hx, rdx⟩ := rx.get' hd
     obtain ⟨y, hy, rdy⟩ := ry.get' hd
     have ax := al.2 _ (List.getElem_mem ix)
     generalize ds[i] = e at rdx rdy ax
     have s03 : Same H H3 := fun b o w => f3 b o (ne_of_none (s12 _ _ w) hD) (s12 _ _ w)
     rw [Int.zero_add]
     walk_at "r"
     refine .inl ⟨a, _, _, _, rfl, rfl, SqL.of (f3 _ _ aD ha2), atI_nat hx, ?_⟩
     walk_at "r"
     refine .inl ⟨b, _, _, _, rfl, rfl, SqL.of (f3 _ _ bD hb2), atI_nat hy, ?_⟩
     walk_at "r"
     refine ⟨ax.pos, x, y, e, rfl, rdx.mono s03, rdy.mono s03, ax, fun H4 s4 => ?_⟩
     walk_at "r"
     exact ⟨⟨_, rfl⟩, f3.trans s4.but, s4 _ _ e3⟩
   · rintro _ H3 ⟨⟨r', rfl⟩, f3, e3⟩
     walk_at "r"
     intro l5 H4 _ s4 e4
     refine ⟨D, l5, [], [], rfl, rfl, SqL.of (s4 _ _ e3), SqL.of e4, ?_⟩
     exact q H4 ((s12.trans (But.fresh hD (Same.refl _) f3)).trans s4)
theorem all__law_alike {f : Addr} {fd : FuncData} (F : Fun K "_law_alike" "_law_alike" s__law_alike f fd) (z_isinstance : mg "isinstance" = none) (z_bool : mg "bool" = none) (z_int : mg "int" = none) (z_list : mg "list" = none) (z_tuple : mg "tuple" = none) (z_range : mg "range" = none) (z_len : mg "len" = none) (z_str : mg "str" = none) (b : Binds K fd ["found", "due"] []) (kp : PySem.W.keepIn K (.ref f) = true) (m : mg "_law_alike" = some (.ref f)) : ∀ dd : Nat, Got P w K mg base "_law_alike" ["found", "due"] (1 + dd) (sp__law_alike K dd)
 | 0 => ⟨f, fd, F.ok (k := 0) sc__law_alike (fun vs H Q E h => by obtain ⟨z, _⟩ := h; exact absurd z (Nat.lt_irrefl 0)) (fun cdv A outer s H vs Q E hr h => by obtain ⟨z, _⟩ := h; exact absurd z (Nat.lt_irrefl 0)), b, kp, m⟩
 | dd + 1 => have g__law_alike := all__law_alike F z_isinstance z_bool z_int z_list z_tuple z_range z_len z_str b kp m dd
   ⟨f, fd, ok__law_alike F g__law_alike z_isinstance z_bool z_int z_list z_tuple z_range z_len z_str, b, kp, m⟩
noncomputable def sp__law_drawn_paper (K : PySem.W.Frag) (dd : Nat) : Sp := fun vs H Q _ => 0 < dd ∧ ∃ (a : Addr) (ns : List Int) (at' dn : Nat), vs = [.ref a, .int at', .int dn] ∧ dn < dd ∧ dn ≤ 3 ∧ at' + TX.dw dn ≤ 10000 ∧ H a = some (.lst (ns.map V.int)) ∧ ns.length = 24 ∧ (∀ x ∈ ns, 0 ≤ x ∧ x < 10 ^ 9) ∧ ∀ (c : Addr) (v : V) (d : PyData) (m : Nat) (H' : Hp), H c = none → Same H H' → H' c = some (.tup [v, .int m]) → RdV (mxG H noH H') v d → TX.NBg (10 ^ 55) 300 3 (dn + 1) d → m ≤ at' + TX.dw dn → Q (.ref c) H'
theorem ok__law_drawn_paper {f : Addr} {fd : FuncData} {dd : Nat} (F : Fun K "_law_drawn_paper" "_law_drawn_paper" s__law_drawn_paper f fd) (g__law_drawn_paper : Got P w K mg base "_law_drawn_paper" ["xs", "at", "deep"] (2 + dd) (sp__law_drawn_paper K dd)) (z_range : mg "range" = none) (z_len : mg "len" = none) : FnOk P w K mg base CX0 (2 + (dd + 1)) f fd ["xs", "at", "deep"] (sp__law_drawn_paper K (dd + 1)) := by
 refine F.ok sc__law_drawn_paper (fun vs H Q E h => ?_) (fun cdv A outer s H vs Q E hr h => ?_)
 · obtain ⟨_, a, ns, m0, dn, rfl, _⟩ := h
   rfl
 obtain ⟨_, a, ns, m0, dn, rfl, hdn, d3, m0B, ha, hl, hx, q⟩ := h
 have hl' : (ns.map V.int).length = 24 := by rw [List.length_map]; exact hl
 have at' : ∀ m : Int, ∃ x : Int, atI (ns.map V.int) (m % ((24 : Nat) : Int)) = some (.int x) ∧ 0 ≤ x ∧ x < 10 ^ 9 := fun m => by
   obtain ⟨k, hk⟩ : ∃ k : Nat, m % ((24 : Nat) : Int) = (k : Int) := ⟨(m % ((24 : Nat) : Int)).toNat, by omega⟩
   have k24 : k < ns.length := by omega
   refine ⟨ns[k], by rw [hk]; exact TX.at_ns k24, hx _ (List.getElem_mem _)⟩
 refine ⟨_, (pss_cons (ps_if (PW.pt (pw_or (pt_cmpR op_eq (pv 2) pe_int (nomark _)) (pw_or1 (pt_cmpR op_eq (pe_op op_modK (pe_ix ix_list (pv 0) (pe_op op_mod (pv 1) (pe_callB call_len_seq rfl z_len bt_len (pa_consN (pv 0) pa_nil))) (fun _ _ => rfl)) pe_int) pe_int (nomark _))))) (pss_one (ps_ret (pe_tupF (pa_consN (pe_tupF (pa_consN pe_str pa_nil)) (pa_consN (pe_op op_add (pv 1) pe_int) pa_nil))))) pss_nil)
     (pss_cons (ps_set (i := 3) sc__law_drawn_paper.nd rfl (Or.inl rfl) (pe_op op_modK (pe_op op_fdivK (pe_ix ix_list (pv 0) (pe_op op_mod (pv 1) (pe_callB call_len_seq rfl z_len bt_len (pa_consN (pv 0) pa_nil))) (fun _ _ => rfl)) pe_int) pe_int))
     (pss_cons (ps_set (i := 4) sc__law_drawn_paper.nd rfl (Or.inl rfl) (pe_ix ix_list (pe_lstA (pa_consN (pe_op op_modK (pe_op op_fdivK (pe_ix ix_list (pv 0) (pe_op op_mod (pv 1) (pe_callB call_len_seq rfl z_len bt_len (pa_consN (pv 0) pa_nil))) (fun _ _ => rfl)) pe_int) pe_int) (pa_consN (pe_op op_fdivK (pe_ix ix_list (pv 0) (pe_op op_mod (pv 1) (pe_callB call_len_seq rfl z_len bt_len (pa_consN (pv 0) pa_nil))) (fun _ _ => rfl)) pe_int) (pa_consN (pe_op op_mod (pe_op op_pow (pe_ix ix_list (pv 0) (pe_op op_mod (pv 1) (pe_callB call_len_seq rfl z_len bt_len (pa_consN (pv 0) pa_nil))) (fun _ _ => rfl)) pe_int) (pe_powc (10 ^ 50))) (pa_consN pe_int pa_nil))))) (pv 3) (fun _ _ => rfl)))
     (pss_cons (ps_set (i := 5) sc__law_drawn_paper.nd rfl (Or.inl rfl) (pe_ix ix_list (pe_lstA (pa_consN (pe_op op_modK (pe_ix ix_list (pv 0) (pe_op op_mod (pe_op op_add (pv 1) pe_int) (pe_callB call_len_seq rfl z_len bt_len (pa_consN (pv 0) pa_nil))) (fun _ _ => rfl)) pe_int) (pa_consN (pe_op op_mod (pe_op op_pow (pe_ix ix_list (pv 0) (pe_op op_mod (pe_op op_add (pv 1) pe_int) (pe_callB call_len_seq rfl z_len bt_len (pa_consN (pv 0) pa_nil))) (fun _ _ => rfl)) pe_int) (pe_powc (10 ^ 40))) pa_nil))) (pe_op op_fdivK (pe_op op_modK (pe_ix ix_list (pv 0) (pe_op op_mod (pe_op op_add (pv 1) pe_int) (pe_callB call_len_seq rfl z_len bt_len (pa_consN (pv 0) pa_nil))) (fun _ _ => rfl)) pe_int) pe_int) (fun _ _ => rfl)))
     (pss_cons (ps_set (i := 6) sc__law_drawn_paper.nd rfl (Or.inl rfl) (pe_op op_modK (pe_op op_fdivK (pe_ix ix_list (pv 0) (pe_op op_mod (pe_op op_add (pv 1) pe_int) (pe_callB call_len_seq rfl z_len bt_len (pa_consN (pv 0) pa_nil))) (fun _ _ => rfl)) pe_int) pe_int))
     (pss_cons (ps_set (i := 1) sc__law_drawn_paper.nd rfl (Or.inl rfl) (pe_op op_add (pv 1) pe_int))
     (pss_cons (ps_set (i := 7) sc__law_drawn_paper.nd rfl (Or.inl rfl) (pe_lstA pa_nil))
     (pss_cons (ps_for PassesOwn.never rfl (pi_range1 rfl z_range (pa_consN (pv 6) pa_nil)) (pg_name (i := 8) sc__law_drawn_paper.nd rfl (Or.inl rfl)) (pss_cons (ps_asg (pe_got g__law_drawn_paper hr (Nat.le_refl _) rfl (pa_consN (pv 0) (pa_consN (pv 1) (pa_consN (pe_op op_sub (pv 2) pe_int) pa_nil)))) (pg_tup rfl (pgs_cons (pg_name (i := 9) sc__law_drawn_paper.nd rfl (Or.inl rfl)) (pgs_cons (pg_name (i := 1) sc__law_drawn_paper.nd rfl (Or.inl rfl)) pgs_nil))))
     (pss_one (ps_expr (pe_bm PySem.F.plainAttrs_list PySem.F.slot_list_append PySem.F.type_list_append mt_append (pv 7) (pa_consN (pe_tupF (pa_consN (pv 9) (pa_consN (pe_op op_mod (pe_ix ix_list (pv 0) (pe_op op_mod (pv 1) (pe_callB call_len_seq rfl z_len bt_len (pa_consN (pv 0) pa_nil))) (fun _ _ => rfl)) (pe_ix ix_list (pe_lstA (pa_consN pe_int (pa_consN pe_int (pa_consN pe_int pa_nil)))) (pe_op op_modK (pe_op op_fdivK (pe_ix ix_list (pv 0) (pe_op op_mod (pv 1) (pe_callB call_len_seq rfl z_len bt_len (pa_consN (pv 0) pa_nil))) (fun _ _ => rfl)) pe_int) pe_int) (fun _ _ => rfl))) pa_nil))) pa_nil))))))
     (pss_one (ps_ret (pe_tupF (pa_consN (pe_tupF (pa_consN pe_str (pa_consN (pv 4) (pa_consN (pv 5) (pa_consN (pv 7) pa_nil))))) (pa_consN (pv 1) pa_nil))))))))))))), ?_⟩
 have twoQ : ∀ (c e : Addr) (H1 H2 : Hp), H c = none → Same H H1 → H1 c = some (.tup [.str "two"]) → H1 e = none → Same H1 H2 → H2 e = some (.tup [.ref c, .int (m0 + 1 : Nat)]) → Q (.ref e) H2 := fun c e H1 H2 n1 s1 e1 n2 s2 e2 => q e _ _ _ H2 (s1.free n2) (s1.trans s2) e2 (two_rd (mxG_at (.inl n1) (s2 _ _ e1))) (.inl rfl) (by have := TX.dw_pos dn; omega)
 obtain ⟨x0, h0, x00, x01⟩ := at' (m0 : Int)
 obtain ⟨x1, h1, x10, x11⟩ := at' ((m0 : Int) + 1)
 obtain ⟨x2, h2, x20, x21⟩ := at' ((m0 : Int) + 2)
 walk_at "r"
 refine ite2 (fun cc => ?_) (fun cc => ?_)
 · walk_at "r"
   intro c H1 n1 s1 e1
   walk_at "r"
   intro e H2 n2 s2 e2
   exact twoQ c e H1 H2 n1 s1 e1 n2 s2 (by rw [e2]; rfl)
 have dn0 : dn ≠ 0 := fun z => cc (by rw [z]; rfl)
 obtain ⟨l, rfl⟩ : ∃ l, dn = l + 1 := ⟨dn - 1, by omega⟩
 have lm : ((l + 1 : Nat) : Int) - 1 = (l : Int) := by omega
 walk_at "r"
 refine ⟨a, _, rfl, .inl (SqL.of (ha)), ?_⟩
 walk_at "r"
 refine ⟨a, _, _, .int x0, rfl, rfl, SqL.of (ha), by rw [hl']; exact h0, ?_⟩
 walk_at "r"
 refine ite2 (fun cc => ?_) (fun cc => ?_)
 · walk_at "r"
   intro c H1 n1 s1 e1
   walk_at "r"
   intro e H2 n2 s2 e2
   exact twoQ c e H1 H2 n1 s1 e1 n2 s2 (by rw [e2]; rfl)
 walk_at "r"
 refine ⟨a, _, rfl, .inl (SqL.of (ha)), ?_⟩
 walk_at "r"
 refine ⟨a, _, _, .int x0, rfl, rfl, SqL.of (ha), by rw [hl']; exact h0, ?_⟩
 walk_at "r"
 refine ⟨a, _, rfl, .inl (SqL.of (ha)), ?_⟩
 walk_at "r"
 refine ⟨a, _, _, .int x0, rfl, rfl, SqL.of (ha), by rw [hl']; exact h0, ?_⟩
 walk_at "r"
 refine ⟨a, _, rfl, .inl (SqL.of (ha)), ?_⟩
 walk_at "r"
 refine ⟨a, _, _, .int x0, rfl, rfl, SqL.of (ha), by rw [hl']; exact h0, ?_⟩
 walk_at "r"
 refine ⟨a, _, rfl, .inl (SqL.of (ha)), ?_⟩
 walk_at "r"
 refine ⟨a, _, _, .int x0, rfl, rfl, SqL.of (ha), by rw [hl']; exact h0, ?_⟩
 walk_at "r"
 refine ⟨⟨by decide, by decide, by omega⟩, ?_⟩
 refine ⟨_, _, rfl, rfl, (by decide +kernel : (0 : Int) < 10 ^ 50), ?_⟩
 obtain ⟨m1, m2⟩ := TX.mod_lt (x := x0 ^ Int.toNat 6) (M := 10 ^ 50) (by decide +kernel)
 have t50 : (10 : Int) ^ 50 < 10 ^ 55 := by decide +kernel
 have t40 : (10 : Int) ^ 40 < 10 ^ 55 := by decide +kernel
 have t60 : (10 : Int) ^ 9 < 10 ^ 55 := by decide +kernel
 dsimp only
 generalize x0 ^ Int.toNat 6 % 10 ^ 50 = y0 at *
 obtain ⟨p, hpa, hpB, _⟩ := TX.at_list (xs := [x0 / 16 % 100, x0 / 16, y0, 2]) (M := 10 ^ 55) (i := x0 / 4 % 4) (by
   intro x hx
   simp only [List.mem_cons, List.not_mem_nil, or_false] at hx
   rcases hx with rfl | rfl | rfl | rfl <;> omega) (by omega) (by simp; omega)
 walk_at "r"
 intro l1 H1 n1 s1 e1
 walk_at "r"
 refine ⟨l1, _, _, _, rfl, rfl, SqL.of e1, hpa, ?_⟩
 walk_at "r"
 refine ⟨a, _, rfl, .inl (SqL.of (s1 _ _ ha)), ?_⟩
 walk_at "r"
 refine ⟨a, _, _, .int x1, rfl, rfl, SqL.of (s1 _ _ ha), by rw [hl']; exact h1, ?_⟩
 walk_at "r"
 refine ⟨a, _, rfl, .inl (SqL.of (s1 _ _ ha)), ?_⟩
 walk_at "r"
 refine ⟨a, _, _, .int x1, rfl, rfl, SqL.of (s1 _ _ ha), by rw [hl']; exact h1, ?_⟩
 walk_at "r"
 refine ⟨⟨by decide, by decide, by omega⟩, ?_⟩
 refine ⟨_, _, rfl, rfl, (by decide +kernel : (0 : Int) < 10 ^ 40), ?_⟩
 obtain ⟨m3, m4⟩ := TX.mod_lt (x := x1 ^ Int.toNat 5) (M := 10 ^ 40) (by decide +kernel)
 dsimp only
 generalize x1 ^ Int.toNat 5 % 10 ^ 40 = y1 at *
 obtain ⟨g, hga, hgB, _⟩ := TX.at_list (xs := [x1 % 20, y1]) (M := 10 ^ 55) (i := x2 % 5 / 4) (by
   intro x hx
   simp only [List.mem_cons, List.not_mem_nil, or_false] at hx
   rcases hx with rfl | rfl <;> omega) (by omega) (by simp; omega)
 walk_at "r"
 intro l2 H2 n2 s2 e2
 have s02 := s1.trans s2
 walk_at "r"
 refine ⟨a, _, rfl, .inl (SqL.of (s02 _ _ ha)), ?_⟩
 walk_at "r"
 refine ⟨a, _, _, .int x2, rfl, rfl, SqL.of (s02 _ _ ha), by rw [hl']; exact h2, ?_⟩
 walk_at "r"
 refine ⟨l2, _, _, _, rfl, rfl, SqL.of e2, hga, ?_⟩
 walk_at "r"
 refine ⟨a, _, rfl, .inl (SqL.of (s02 _ _ ha)), ?_⟩
 walk_at "r"
 refine ⟨a, _, _, .int x2, rfl, rfl, SqL.of (s02 _ _ ha), by rw [hl']; exact h2, ?_⟩
 walk_at "r"
 intro pa H3 n3 s3 e3
 have s03 := s02.trans s3
 walk_at "r"
 have apa : a ≠ pa := ne_of_none ha (s02.free n3)
 refine ⟨by omega, by omega, ?_⟩
 refine for_up (fun i σ H' => ∃ (xs : List V) (ts : List PyData) (m : Nat) (r8 r9 : Option V), σ = ([some (.ref a), some (.int (m : Int)), some (.int ((l + 1 : Nat) : Int)), some (.int (x0 / 4 % 4)), some (.int (p : Int)), some (.int (g : Int)), some (.int (x2 / 5 % 4)), some (.ref pa), r8, r9] : St) ∧ But pa H3 H' ∧ H' pa = some (.lst xs) ∧ RdVs (mxG H3 noH H') xs ts ∧ xs.length = i ∧ (∀ t ∈ ts, ∃ (t' : PyData) (k : Nat), t = partP t' k ∧ k ≤ 300 ∧ TX.NBg (10 ^ 55) 300 3 (l + 1) t') ∧ m ≤ m0 + 3 + i * TX.dw l) ⟨[], [], m0 + 3, _, _, by rw [show (((m0 + 3 : Nat)) : Int) = (m0 : Int) + 3 by omega]; rfl, But.refl, e3, .nil, rfl, fun t ht => absurd ht (by simp), by simp⟩ ?_ ?_
 · rintro i _ H4 hi ⟨xs, ts, m, r8, r9, rfl, f4, e4, rd4, lx, ht, hm⟩
   have hi3 : i < 3 := by omega
   have a4 := f4 _ _ apa (s03 _ _ ha)
   have m9 : m + TX.dw l ≤ 10000 := by
     have h1 : i * TX.dw l ≤ 2 * TX.dw l := Nat.mul_le_mul (by omega) (Nat.le_refl _)
     have h2 : m0 + (3 + 3 * TX.dw l) ≤ 10000 := m0B
     omega
   have fr4 : ∀ b, H4 b = none → H3 b = none := fun b z => by
     cases w : H3 b with
     | none => rfl
     | some o =>
       by_cases bp : b = pa
       · subst bp; rw [e4] at z; cases z
       · rw [f4 b o bp w] at z; cases z
   walk_at "r"
   refine ⟨by omega, a, ns, m, l, by rw [← lm]; rfl, by omega, by omega, m9, a4, hl, hx, fun c v d m' H5 nc s5 e5 rv nb hm' => ?_⟩
   obtain ⟨x3, h3, x30, x31⟩ := at' (m' : Int)
   refine ⟨c, _, rfl, SqT.of e5, rfl, ?_⟩
   walk_at "r"
   have e45 := s5 _ _ e4
   refine ⟨.inl ⟨rfl, _, SqL.of e45⟩, ?_⟩
   walk_at "r"
   refine ⟨a, _, rfl, .inl (SqL.of (s5 _ _ a4)), ?_⟩
   walk_at "r"
   refine ⟨a, _, _, .int x3, rfl, rfl, SqL.of (s5 _ _ a4), by rw [hl']; exact h3, ?_⟩
   walk_at "r"
   intro l6 H6 n6 s6 e6
   walk_at "r"
   refine ⟨a, _, rfl, .inl (SqL.of (s6 _ _ (s5 _ _ a4))), ?_⟩
   walk_at "r"
   refine ⟨a, _, _, .int x3, rfl, rfl, SqL.of (s6 _ _ (s5 _ _ a4)), by rw [hl']; exact h3, ?_⟩
   walk_at "r"
   obtain ⟨w, hw, hwB, hwm⟩ := TX.at_list (xs := [2, 9, 200]) (M := 201) (i := x3 / 300 % 3) (by decide) (by omega) (by simp; omega)
   refine ⟨l6, _, _, _, rfl, rfl, SqL.of e6, hw, ?_⟩
   have w0 : (0 : Int) < (w : Int) := by
     simp only [List.mem_cons, List.not_mem_nil, or_false] at hwm
     omega
   walk_at "r"
   obtain ⟨k, hk⟩ : ∃ k : Nat, x3 % (w : Int) = (k : Int) := ⟨(x3 % (w : Int)).toNat, by have := Int.emod_nonneg x3 (show (w : Int) ≠ 0 by omega); omega⟩
   have kB : k ≤ 300 := by
     have := Int.emod_lt_of_pos x3 w0
     omega
   intro c7 H7 n7 s7 e7
   dsimp only at e7
   rw [hk] at e7
   dsimp only
   have s47 : Same H4 H7 := s5.trans (s6.trans s7)
   have c7pa : c7 ≠ pa := fun z => by rw [z] at n7; rw [(s5.trans s6) _ _ e4] at n7; cases n7
   have e47 := s47 _ _ e4
   refine ⟨pa, _, _, rfl, rfl, e47, small1000 (by omega), ?_⟩
   refine ⟨xs ++ [.ref c7], ts ++ [partP d k], m', some (.int (0 + (i : Int))), some v, rfl, (f4.trans s47.but).trans .put, upd_same, ?_, by simp [lx], fun t h => ?_, ?_⟩
   · refine (rd4.mono (mxG_to fun b o w e => ?_)).append (.cons (part_rd (x := v) (mxG_at (.inl (fr4 _ ((s5.trans s6).free n7))) (by rw [upd_ne c7pa]; exact e7)) (rv.mono (mxG_to fun b o w e => ?_))) .nil)
     · have bp : b ≠ pa := fun z => by
         subst z
         rcases w with w | w
         · rw [e3] at w; cases w
         · exact w rfl
       exact ⟨w, by rw [upd_ne bp]; exact s47 _ _ e⟩
     · have b4 : H4 b = none := w.elim id (fun y => absurd rfl y)
       have bp : b ≠ pa := fun z => by subst z; rw [e4] at b4; cases b4
       exact ⟨.inl (fr4 _ b4), by rw [upd_ne bp]; exact (s6.trans s7) _ _ e⟩
   · rcases List.mem_append.mp h with z | z
     · exact ht t z
     · rw [List.mem_singleton.mp z]; exact ⟨d, k, rfl, kB, nb⟩
   · rw [Nat.add_mul]; omega
 · rintro _ H4 ⟨xs, ts, m, r8, r9, rfl, f4, e4, rd4, lx, ht, hm⟩
   have s34 : Same H H4 := fun b o w => f4 b o (ne_of_none w (s02.free n3)) (s03 _ _ w)
   have n0 : ∀ b, H4 b = none → H b = none := fun b z => s34.free z
   have lx3 : xs.length ≤ 3 := by omega
   have lt := rd4.length
   walk_at "r"
   intro c5 H5 n5 s5 e5
   walk_at "r"
   intro c6 H6 n6 s6 e6
   refine q c6 _ (rootP p g ts) m H6 (n0 _ (s5.free n6)) (s34.trans (s5.trans s6)) e6 ?_ (.inr ⟨p, g, ts, rfl, by exact_mod_cast hpB, by exact_mod_cast hgB, by omega, ht⟩) ?_
   · refine .tup (mxG_at (.inl (n0 _ n5)) (s6 _ _ e5)) (.cons (.str _) (.cons (.int _) (.cons (.int _) (.cons (.lst (mxG_at (.inl (s02.free n3)) ((s5.trans s6) _ _ e4)) ?_) .nil))))
     refine rd4.mono (mxG_to fun b o w e => ?_)
     have b3 : H3 b = none := w.elim id (fun y => absurd rfl y)
     exact ⟨.inl (s03.free b3), (s5.trans s6) _ _ e⟩
   · have : (x2 / 5 % 4).toNat * TX.dw l ≤ 3 * TX.dw l := Nat.mul_le_mul (by omega) (Nat.le_refl _)
     show m ≤ m0 + (3 + 3 * TX.dw l)
     omega
theorem all__law_drawn_paper {f : Addr} {fd : FuncData} (F : Fun K "_law_drawn_paper" "_law_drawn_paper" s__law_drawn_paper f fd) (z_range : mg "range" = none) (z_len : mg "len" = none) (b : Binds K fd ["xs", "at", "deep"] []) (kp : PySem.W.keepIn K (.ref f) = true) (m : mg "_law_drawn_paper" = some (.ref f)) : ∀ dd : Nat, Got P w K mg base "_law_drawn_paper" ["xs", "at", "deep"] (2 + dd) (sp__law_drawn_paper K dd)
 | 0 => ⟨f, fd, F.ok (k := 1) sc__law_drawn_paper (fun vs H Q E h => by obtain ⟨z, _⟩ := h; exact absurd z (Nat.lt_irrefl 0)) (fun cdv A outer s H vs Q E hr h => by obtain ⟨z, _⟩ := h; exact absurd z (Nat.lt_irrefl 0)), b, kp, m⟩
 | dd + 1 => have g__law_drawn_paper := all__law_drawn_paper F z_range z_len b kp m dd
   ⟨f, fd, ok__law_drawn_paper F g__law_drawn_paper z_range z_len, b, kp, m⟩
noncomputable def sp__law_paper (K : PySem.W.Frag) : Sp := fun vs H Q _ => ∃ (c : Int), vs = [.int c] ∧ ∀ (v : V) (d : PyData) (H' : Hp), Same H H' → RdV H' v d → TX.NBg (10 ^ 55) 300 3 40 d → (TX.sh 40 d).length ≤ 30000 → Q v H'
theorem ok__law_paper {f : Addr} {fd : FuncData} (F : Fun K "_law_paper" "_law_paper" s__law_paper f fd) (g__law_drawn_paper : Got P w K mg base "_law_drawn_paper" ["xs", "at", "deep"] (7) (sp__law_drawn_paper K 5)) (g__law_digits : Got P w K mg base "_law_digits" ["cell", "many", "top"] 1 (sp__law_digits K)) (z_range : mg "range" = none) : FnOk P w K mg base CX0 60 f fd ["cell"] (sp__law_paper K) := by
 refine F.ok sc__law_paper (fun vs H Q E h => ?_) (fun cdv A outer s H vs Q E hr h => ?_)
 · obtain ⟨c, rfl, _⟩ := h
   rfl
 obtain ⟨c, rfl, q⟩ := h
 refine ⟨_, (pss_cons (ps_set (i := 1) sc__law_paper.nd rfl (Or.inl rfl) (pe_got g__law_digits hr (by decide) rfl (pa_consN (pv 0) (pa_consN pe_int (pa_consN (pe_powc (10 ^ 9)) pa_nil)))))
     (pss_cons (ps_set (i := 2) sc__law_paper.nd rfl (Or.inl rfl) (pe_ix ix_tup (pe_got g__law_drawn_paper hr (by decide) rfl (pa_consN (pv 1) (pa_consN pe_int (pa_consN pe_int pa_nil)))) pe_int (fun _ _ => rfl)))
     (pss_join (ps_if (pt_cmpR op_eq (pe_op op_modK (pe_ix ix_list (pv 1) pe_int (fun _ _ => rfl)) pe_int) pe_int (nomark _)) (pss_one (ps_for PassesOwn.never rfl (pi_range1 rfl z_range (pa_consN (pe_op op_modK (pe_ix ix_list (pv 1) pe_int (fun _ _ => rfl)) pe_int) pa_nil)) (pg_name (i := 3) sc__law_paper.nd rfl (Or.inl rfl)) (pss_one (ps_set (i := 2) sc__law_paper.nd rfl (Or.inl rfl) (pe_tupF (pa_consN pe_str (pa_consN (pe_op op_add pe_int (pv 3)) (pa_consN (pe_op op_modK (pe_ix ix_list (pv 1) (pe_op op_modK (pv 3) pe_int) (fun _ _ => rfl)) pe_int) (pa_consN (pe_lstA (pa_consN (pe_tupF (pa_consN (pe_tupF (pa_consN pe_str pa_nil)) (pa_consN pe_int pa_nil))) (pa_consN (pe_tupF (pa_consN (pv 2) (pa_consN (pe_op op_add pe_int (pe_op op_modK (pv 3) pe_int)) pa_nil))) pa_nil))) pa_nil))))))))) pss_nil)
     (pss_one (ps_ret (pv 2)))))), ?_⟩
 walk_at "r"
 refine ⟨c, 24, 10 ^ 9, rfl, by decide, by decide, by decide, by decide, fun ra rs H1 n1 s1 e1 l1 hx1 => ?_⟩
 have l1 : rs.length = 24 := l1
 have at' : ∀ k : Nat, k < 24 → ∃ x : Int, atI (rs.map V.int) (k : Int) = some (.int x) ∧ 0 ≤ x ∧ x < 10 ^ 9 := fun k hk => ⟨rs[k], TX.at_ns (by omega), hx1 _ (List.getElem_mem _)⟩
 walk_at "r"
 refine ⟨by decide, ra, rs, 0, 3, rfl, by decide, by decide, by decide, e1, l1, hx1, fun c2 v2 d2 m2 H2 n2 s2 e2 rd2 nb2 _ => ?_⟩
 walk_at "r"
 refine ⟨c2, _, _, _, rfl, rfl, SqT.of e2, rfl, ?_⟩
 have rd2 : RdV H2 v2 d2 := rd2.mono mxG_sub
 have ln2 := TX.drawn_len (nb2.mono (by decide +kernel) (by decide) (Nat.le_refl _) (Nat.le_refl _))
 obtain ⟨x23, h23, _, _⟩ := at' 23 (by decide)
 obtain ⟨x22, h22, x220, x221⟩ := at' 22 (by decide)
 have ra2 := s2 _ _ e1
 refine ⟨fun σ H' => Same H2 H' ∧ ∃ (v : V) (d : PyData) (n : Nat) (r3 : Option V), σ = ([some (.int c), some (.ref ra), some v, r3] : St) ∧ RdV H' v d ∧ n ≤ 35 ∧ TX.NBg (10 ^ 55) 300 3 (4 + n) d ∧ (TX.sh (4 + n) d).length ≤ 20000 + 200 * n, ?_, ?_⟩
 · walk_at "r"
   refine ⟨ra, _, _, _, rfl, rfl, SqL.of ra2, h23, ?_⟩
   walk_at "r"
   refine ite2 (fun cc => ?_) (fun cc => ?_)
   · walk_at "r"
     refine ⟨ra, _, _, _, rfl, rfl, SqL.of ra2, h22, ?_⟩
     walk_at "r"
     refine ⟨by omega, by omega, ?_⟩
     refine for_up (fun i σ H' => i ≤ 35 ∧ Same H2 H' ∧ ∃ (v : V) (d : PyData) (r3 : Option V), σ = ([some (.int c), some (.ref ra), some v, r3] : St) ∧ RdV H' v d ∧ TX.NBg (10 ^ 55) 300 3 (4 + i) d ∧ (TX.sh (4 + i) d).length ≤ 20000 + 200 * i) ⟨by decide, Same.refl _, v2, d2, _, rfl, rd2, nb2, by omega⟩ ?_ ?_
     · rintro i _ H3 hi ⟨hi', s3, v, d, r3, rfl, rd, nb, ln⟩
       obtain ⟨xk, hk, xk0, xk1⟩ := at' (i % 24) (Nat.mod_lt _ (by decide))
       have ra3 := s3 _ _ ra2
       walk_at "r"
       refine ⟨ra, _, _, _, rfl, rfl, SqL.of ra3, by rw [show ((0 : Int) + (i : Int)) % 24 = ((i % 24 : Nat) : Int) by omega]; exact hk, ?_⟩
       walk_at "r"
       intro t4 H4 n4 s4 e4
       walk_at "r"
       intro t5 H5 n5 s5 e5
       walk_at "r"
       intro t6 H6 n6 s6 e6
       walk_at "r"
       intro l7 H7 n7 s7 e7
       walk_at "r"
       intro c8 H8 n8 s8 e8
       have s48 : Same H4 H8 := s5.trans (s6.trans (s7.trans s8))
       have s38 : Same H3 H8 := s4.trans s48
       obtain ⟨gx, hgx⟩ : ∃ gx : Nat, xk % 9 = (gx : Int) := ⟨(xk % 9).toNat, by omega⟩
       obtain ⟨kx, hkx⟩ : ∃ kx : Nat, 1 + (0 + (i : Int)) % 2 = (kx : Int) := ⟨(1 + (0 + (i : Int)) % 2).toNat, by omega⟩
       have b55 : ∀ n : Nat, n < 1000 → n < 10 ^ 55 := fun n hn => Nat.lt_trans hn (by decide +kernel)
       have b60 : ∀ n : Nat, n < 1000 → n < 10 ^ 60 := fun n hn => Nat.lt_trans hn (by decide +kernel)
       refine ⟨by omega, s3.trans s38, _, rootP ((3 + i : Nat) : Int) gx [partP two ((1 : Nat) : Int), partP d kx], some (.int (0 + (i : Int))), rfl, ?_, ?_, ?_⟩
       · refine .tup e8 (.cons (.str _) (.cons ?_ (.cons ?_ (.cons (.lst (s8 _ _ e7) (.cons (part_rd ((s6.trans (s7.trans s8)) _ _ e5) (two_rd (s48 _ _ e4))) (.cons (part_rd ((s7.trans s8) _ _ (by rw [← hkx]; exact e6)) (rd.mono s38)) .nil))) .nil))))
         · rw [show ((3 + i : Nat) : Int) = 3 + (0 + (i : Int)) by omega]; exact .int _
         · rw [← hgx]; exact .int _
       · have := TX.wrap_nb (n := 3 + i) (p := 3 + i) (g := gx) (k := kx) (d := d) (by rw [show 3 + i + 1 = 4 + i by omega]; exact nb) (b55 _ (by omega)) (b55 _ (by omega)) (by decide) (by omega)
         rw [show 4 + (i + 1) = 3 + i + 2 by omega]; exact this
       · have := TX.wrap_len (n := 3 + i) (p := 3 + i) (g := gx) (k := kx) (d := d) (b60 _ (by omega)) (b60 _ (by omega)) (by omega)
         rw [show 3 + i + 1 = 4 + i by omega] at this
         rw [show 4 + (i + 1) = 3 + i + 2 by omega]
         omega
     · rintro σ H3 ⟨hi', s3, v, d, r3, rfl, rd, nb, ln⟩
       exact ⟨s3, v, d, _, r3, rfl, rd, hi', nb, ln⟩
   · exact ⟨Same.refl _, v2, d2, 0, _, rfl, rd2, by decide, nb2, by omega⟩
 · rintro _ H3 ⟨s3, v, d, n, r3, rfl, rd, hn, nb, ln⟩
   walk_at "r"
   refine q v d H3 (s1.trans (s2.trans s3)) rd (nb.mono (Nat.le_refl _) (Nat.le_refl _) (Nat.le_refl _) (by omega)) ?_
   rw [TX.sh_mono (by omega) nb.np]
   omega
noncomputable def sp__law_shown (K : PySem.W.Frag) (dd : Nat) : Sp := fun vs H Q _ => 0 < dd ∧ ∃ (v : V) (d : PyData) (B : Nat), vs = [v] ∧ RdV H v d ∧ TX.NB B dd d ∧ B ≤ 900 ∧ (TX.sh dd d).length ≤ 10 ^ 6 ∧ Q (.str (TX.tS (TX.sh dd d))) H
theorem ok__law_shown {f : Addr} {fd : FuncData} {dd : Nat} (F : Fun K "_law_shown" "_law_shown" s__law_shown f fd) (g__law_shown : Got P w K mg base "_law_shown" ["paper"] (2 + dd) (sp__law_shown K dd)) (z_range : mg "range" = none) (z_len : mg "len" = none) (z_int : mg "int" = none) (z_str : mg "str" = none) : FnOk P w K mg base CX0 (2 + (dd + 1)) f fd ["paper"] (sp__law_shown K (dd + 1)) := by
 refine F.ok sc__law_shown (fun vs H Q E h => ?_) (fun cdv A outer s H vs Q E hr h => ?_)
 · obtain ⟨_, v, d, B, rfl, _⟩ := h
   rfl
 obtain ⟨_, v, d, B, rfl, rd, ip, hB, hl, q⟩ := h
 refine ⟨_, (pss_cons (ps_if (pt_cmpR op_eq (pe_ix ix_tup (pv 0) pe_int (fun _ _ => rfl)) pe_str (nomark _)) (pss_one (ps_ret pe_str)) pss_nil)
     (pss_cons (ps_set (i := 1) sc__law_shown.nd rfl (Or.inl rfl) (pe_op op_add_str (pe_op op_add_str (pe_op op_add_str (pe_callTy call_str_int rfl z_str bt_str (pa_cons (pe_ix ix_tup (pv 0) pe_int (fun _ _ => rfl)) pa_nil)) pe_str) (pe_callTy call_str_int rfl z_str bt_str (pa_cons (pe_ix ix_tup (pv 0) pe_int (fun _ _ => rfl)) pa_nil))) pe_str))
     (pss_cons (ps_for PassesOwn.never rfl (pi_range1 rfl z_range (pa_cons (pe_callB call_len_seq rfl z_len bt_len (pa_cons (pe_ix ix_tup (pv 0) pe_int (fun _ _ => rfl)) pa_nil)) pa_nil)) (pg_name (i := 2) sc__law_shown.nd rfl (Or.inl rfl)) (pss_cons (ps_asg (pe_ix ix_list (pe_ix ix_tup (pv 0) pe_int (fun _ _ => rfl)) (pv 2) (fun _ _ => rfl)) (pg_tup rfl (pgs_cons (pg_name (i := 3) sc__law_shown.nd rfl (Or.inl rfl)) (pgs_cons (pg_name (i := 4) sc__law_shown.nd rfl (Or.inl rfl)) pgs_nil))))
     (pss_one (ps_set (i := 1) sc__law_shown.nd rfl (Or.inl rfl) (pe_op op_add_str (pe_op op_add_str (pe_op op_add_str (pe_op op_add_str (pv 1) (pe_op op_mulS pe_str (pe_callTy call_int1 rfl z_int bt_int (pa_cons (pe_cmpR op_gt (pv 2) pe_int (nomark _)) pa_nil)))) (pe_got g__law_shown hr (Nat.le_refl _) rfl (pa_cons (pv 3) pa_nil))) pe_str) (pe_callTy call_str_int rfl z_str bt_str (pa_cons (pv 4) pa_nil)))))))
     (pss_one (ps_ret (pe_op op_add_str (pv 1) pe_str)))))), ?_⟩
 rcases ip with rfl | ⟨p, g, ps, rfl, hp, hg, lp, hx⟩
 · obtain ⟨a, rfl, ha⟩ := rd_two rd
   walk_at "r"
   refine ⟨a, _, _, _, rfl, rfl, SqT.of ha, rfl, ?_⟩
   walk_at "r"
   rw [TX.sh_two] at q
   exact q
 · obtain ⟨a, b, xs, rfl, ha, hb, rs⟩ := rd_root rd
   rw [TX.sh_root'] at q hl
   have ls := rs.length
   have lp' := TX.dg_len (k := 59) hp
   have lg' := TX.dg_len (k := 59) hg
   have l3 : (TX.jn (ps.map (TX.pT dd))).length ≤ 10 ^ 6 := by simp only [List.length_append, List.length_cons] at hl; omega
   have t1 : Str.ofString (toString (p : Int)) ++ ":" = TX.tS (TX.dg p ++ [58]) := by rw [TX.tS_int, TX.colon_tS, TX.tS_cat]
   have t2 : TX.tS (TX.dg p ++ [58]) ++ Str.ofString (toString (g : Int)) = TX.tS (TX.dg p ++ [58] ++ TX.dg g) := by rw [TX.tS_int, TX.tS_cat]
   have t3 : TX.tS (TX.dg p ++ [58] ++ TX.dg g) ++ "(" = TX.tS (TX.dg p ++ [58] ++ TX.dg g ++ [40]) := by rw [TX.op_tS, TX.tS_cat]
   walk_at "r"
   refine ⟨a, _, _, _, rfl, rfl, SqT.of ha, rfl, ?_⟩
   walk_at "r"
   refine ⟨a, _, _, _, rfl, rfl, SqT.of ha, rfl, ?_⟩
   refine ⟨(p : Int), rfl, TX.big_log hp, ?_⟩
   have z1 : Str.ofString (toString (p : Int)) = TX.tS (TX.dg p) := TX.tS_int p
   have z2 : Str.ofString (toString (g : Int)) = TX.tS (TX.dg g) := TX.tS_int g
   refine ⟨_, _, rfl, rfl, by rw [z1, TX.colon_tS, TX.tS_len, TX.tS_len]; exact TX.sz6 (by simp only [List.length_append, List.length_cons, List.length_nil]; omega), ?_⟩
   rw [t1]
   refine ⟨_, rfl, ?_⟩
   refine ⟨a, _, _, _, rfl, rfl, SqT.of ha, rfl, ?_⟩
   refine ⟨(g : Int), rfl, TX.big_log hg, ?_⟩
   refine ⟨_, _, rfl, rfl, by rw [z2, TX.tS_len, TX.tS_len]; exact TX.sz6 (by simp only [List.length_append, List.length_cons, List.length_nil]; omega), ?_⟩
   rw [t2]
   refine ⟨_, _, rfl, rfl, by rw [TX.op_tS, TX.tS_len, TX.tS_len]; exact TX.sz6 (by simp only [List.length_append, List.length_cons, List.length_nil]; omega), ?_⟩
   rw [t3]
   walk_at "r"
   refine ⟨a, _, _, _, rfl, rfl, SqT.of ha, rfl, ?_⟩
   refine ⟨b, _, rfl, .inl (SqL.of hb), ?_⟩
   walk_at "r"
   refine ⟨by omega, by omega, ?_⟩
   refine for_up (fun i σ H' => i ≤ ps.length ∧ H' = H ∧ ∃ (r2 r3 r4 : Option V), σ = ([some (.ref a), some (.str (TX.tS (TX.dg p ++ [58] ++ TX.dg g ++ [40] ++ TX.jn ((ps.take i).map (TX.pT dd))))), r2, r3, r4] : St)) ⟨Nat.zero_le _, rfl, _, _, _, by simp [TX.jn]; rfl⟩ ?_ ?_
   · rintro i _ _ hi ⟨hi', rfl, r2, r3, r4, rfl⟩
     have il : i < ps.length := by omega
     have hy := List.getElem?_eq_getElem il
     obtain ⟨x, hxi, ry⟩ := rs.get' hy
     generalize ps[i] = y at hy ry
     obtain ⟨t, k, rfl, hk4, it⟩ := hx y (List.mem_of_getElem? hy)
     have hk : k < 10 ^ 60 := TX.t60 hk4
     obtain ⟨c, z, rfl, hc, rz⟩ := rd_part ry
     have l1 : (TX.pT dd (partP t k)).length ≤ (TX.jn (ps.map (TX.pT dd))).length := TX.jn_part (List.mem_map_of_mem (List.mem_of_getElem? hy))
     have l2 : (TX.pT dd (partP t k)).length = (TX.sh dd t).length + ((TX.dg k).length + 1) := by show (TX.sh dd t ++ 42 :: TX.dg k).length = _; rw [List.length_append, List.length_cons]
     have l4 : (TX.jn ((ps.take i).map (TX.pT dd))).length ≤ (TX.jn (ps.map (TX.pT dd))).length := TX.jn_take _ _ _
     have lk := TX.dg_len (k := 59) hk
     walk_at "r"
     refine ⟨a, _, _, _, rfl, rfl, SqT.of ha, rfl, ?_⟩
     refine ⟨_, rfl, ?_⟩
     refine ⟨b, _, _, _, rfl, rfl, SqL.of hb, by rw [Int.zero_add]; exact atI_nat hxi, ?_⟩
     refine ⟨c, _, rfl, SqT.of hc, rfl, ?_⟩
     refine ⟨_, _, rfl, _, _, rfl, rfl, ?_⟩
     refine ⟨_, rfl, ?_⟩
     refine ⟨_, rfl, _, _, rfl, rfl, .inr ⟨_, rfl, ?_⟩⟩
     refine ⟨", ", _, rfl, rfl, ?_⟩
     have sp : (if decide ((0 : Int) < 0 + (i : Int)) = true then (", " : Str) else Str.empty) = TX.tS (if i = 0 then [] else [44, 32]) := by
       by_cases i0 : i = 0
       · subst i0; rfl
       · rw [if_pos (decide_eq_true (by omega)), if_neg i0]; exact TX.comma_tS
     have ls2 : (if i = 0 then [] else [44, 32] : List Nat).length ≤ 2 := by split <;> simp
     dsimp only
     rw [sp]
     generalize hs : (if i = 0 then [] else [44, 32] : List Nat) = se at ls2 sp
     refine ⟨_, _, rfl, rfl, by rw [TX.tS_len, TX.tS_len]; exact TX.sz6 (by simp only [List.length_append, List.length_cons, List.length_nil]; omega), ?_⟩
     rw [TX.tS_cat]
     refine ⟨_, rfl, it.pos, z, t, B, rfl, rz, it, hB, by omega, ?_⟩
     refine ⟨_, _, rfl, rfl, by rw [TX.tS_len, TX.tS_len]; exact TX.sz6 (by simp only [List.length_append, List.length_cons, List.length_nil]; omega), ?_⟩
     rw [TX.tS_cat]
     refine ⟨_, _, rfl, rfl, by rw [TX.star_tS, TX.tS_len, TX.tS_len]; exact TX.sz6 (by simp only [List.length_append, List.length_cons, List.length_nil]; omega), ?_⟩
     rw [TX.star_tS, TX.tS_cat]
     refine ⟨_, rfl, (k : Int), rfl, TX.big_log hk, ?_⟩
     refine ⟨_, _, rfl, rfl, by rw [TX.tS_int, TX.tS_len, TX.tS_len]; exact TX.sz6 (by simp only [List.length_append, List.length_cons, List.length_nil]; omega), ?_⟩
     rw [TX.tS_int, TX.tS_cat]
     refine ⟨by omega, rfl, some (.int (0 + (i : Int))), some z, some (.int (k : Int)), ?_⟩
     have et : TX.dg p ++ [58] ++ TX.dg g ++ [40] ++ TX.jn ((ps.take i).map (TX.pT dd)) ++ se ++ TX.sh dd t ++ [42] ++ TX.dg k = TX.dg p ++ [58] ++ TX.dg g ++ [40] ++ TX.jn ((ps.take (i + 1)).map (TX.pT dd)) := by
       rw [List.take_add_one, hy]
       show _ = _ ++ TX.jn ((ps.take i ++ [partP t k]).map (TX.pT dd))
       rw [List.map_append, List.map_singleton, TX.jn_snoc, ← hs]
       have e0 : ((ps.take i).map (TX.pT dd) = []) = (i = 0) := by
         rw [List.map_eq_nil_iff, List.take_eq_nil_iff]
         refine propext ⟨fun y => ?_, fun y => .inl y⟩
         rcases y with y | y
         · exact y
         · rw [y] at il; simp at il
       simp only [e0]
       show _ = _ ++ (_ ++ (_ ++ (TX.sh dd t ++ 42 :: TX.dg k)))
       simp only [List.append_assoc, List.cons_append, List.nil_append]
     rw [et]
     rfl
   · rintro _ _ ⟨_, rfl, r2, r3, r4, rfl⟩
     have e9 : (xs.length : Int).toNat = ps.length := by rw [Int.toNat_natCast, ls]
     rw [e9, List.take_length]
     refine ⟨_, rfl, _, _, rfl, rfl, by rw [TX.cl_tS, TX.tS_len, TX.tS_len]; exact TX.sz6 (by simp only [List.length_append, List.length_cons, List.length_nil]; omega), ?_⟩
     rw [TX.cl_tS, TX.tS_cat]
     have et : TX.dg p ++ [58] ++ TX.dg g ++ [40] ++ TX.jn (ps.map (TX.pT dd)) ++ [41] = TX.dg p ++ 58 :: (TX.dg g ++ 40 :: (TX.jn (ps.map (TX.pT dd)) ++ [41])) := by simp
     rw [et]
     exact q
theorem all__law_shown {f : Addr} {fd : FuncData} (F : Fun K "_law_shown" "_law_shown" s__law_shown f fd) (z_range : mg "range" = none) (z_len : mg "len" = none) (z_int : mg "int" = none) (z_str : mg "str" = none) (b : Binds K fd ["paper"] []) (kp : PySem.W.keepIn K (.ref f) = true) (m : mg "_law_shown" = some (.ref f)) : ∀ dd : Nat, Got P w K mg base "_law_shown" ["paper"] (2 + dd) (sp__law_shown K dd)
 | 0 => ⟨f, fd, F.ok (k := 1) sc__law_shown (fun vs H Q E h => by obtain ⟨z, _⟩ := h; exact absurd z (Nat.lt_irrefl 0)) (fun cdv A outer s H vs Q E hr h => by obtain ⟨z, _⟩ := h; exact absurd z (Nat.lt_irrefl 0)), b, kp, m⟩
 | dd + 1 => have g__law_shown := all__law_shown F z_range z_len z_int z_str b kp m dd
   ⟨f, fd, ok__law_shown F g__law_shown z_range z_len z_int z_str, b, kp, m⟩
noncomputable def sp__law_copy (K : PySem.W.Frag) (dd : Nat) : Sp := fun vs H Q _ => 0 < dd ∧ ∃ (v : V) (d : PyData) (B : Nat) (G : Hp), vs = [v] ∧ RdV G v d ∧ Same G H ∧ IsP B dd d ∧ dd ≤ 60 ∧ B ≤ 900 ∧ ∀ (v' : V) (H' : Hp), Same H H' → RdV (mxG H (tG G) H') v' d → Q v' H'
theorem ok__law_copy {f : Addr} {fd : FuncData} {dd : Nat} (F : Fun K "_law_copy" "_law_copy" s__law_copy f fd) (g__law_copy : Got P w K mg base "_law_copy" ["paper"] (2 + dd) (sp__law_copy K dd)) : FnOk P w K mg base CX0 (2 + (dd + 1)) f fd ["paper"] (sp__law_copy K (dd + 1)) := by
 refine F.ok sc__law_copy (fun vs H Q E h => ?_) (fun cdv A outer s H vs Q E hr h => ?_)
 · obtain ⟨_, v, d, B, G, rfl, _⟩ := h
   rfl
 obtain ⟨_, v, d, B, G, rfl, rd, sG, ip, d60, B9, q⟩ := h
 refine ⟨_, (pss_cons (ps_if (pt_cmpR op_eq (pe_ix ix_tup (pv 0) pe_int (fun _ _ => rfl)) pe_str (nomark _)) (pss_one (ps_ret (pv 0))) pss_nil)
     (pss_one (ps_ret (pe_op op_catTA (pe_slice sl_tupA (pv 0) po_none (po_some pe_int)) (pe_tupF (pa_consN (pe_comp ["one", "times"] [] rfl (pi_list (pe_ix ix_tup (pv 0) pe_int (fun _ _ => rfl))) (fun _ _ _ => (pg_tupC (n := 2) rfl (pgs_cons (pg_name (i := 0) (show List.Nodup (["one", "times"] : List Str) by decide +kernel) rfl (Or.inl rfl)) (pgs_cons (pg_name (i := 1) (show List.Nodup (["one", "times"] : List Str) by decide +kernel) rfl (Or.inl rfl)) pgs_nil)))) (fun _ _ _ => pts_nil) (fun _ _ _ => (pe_tupF (pa_consN (pe_got g__law_copy hr (Nat.le_refl _) rfl (pa_consN (pv 0) pa_nil)) (pa_consN (pv 1) pa_nil)))) rfl (by decide +kernel) rfl (by decide +kernel) (List.forall_mem_nil _) rfl (List.forall_mem_nil _)) pa_nil)))))), ?_⟩
 rcases ip with rfl | ⟨p, g, ps, rfl, lp, hp⟩
 · obtain ⟨a, rfl, ha⟩ := rd_two rd
   walk_at "r"
   refine ⟨a, _, _, _, rfl, rfl, SqT.of (sG _ _ ha), rfl, ?_⟩
   walk_at "r"
   exact q _ H (Same.refl _) (two_rd (mxG_at (.inr (tG_at ha)) (sG _ _ ha)))
 · obtain ⟨a, b, xs, rfl, ha, hb, rs⟩ := rd_root rd
   walk_at "r"
   refine ⟨a, _, _, _, rfl, rfl, SqT.of (sG _ _ ha), rfl, ?_⟩
   walk_at "r"
   refine ⟨a, _, rfl, SqT.of (sG _ _ ha), (by rintro ⟨_, z⟩; cases z), fun c2 H2 n2 s2 e2 => ?_⟩
   walk_at "r"
   have sG2 := sG.trans s2
   refine ⟨a, _, _, _, rfl, rfl, SqT.of (sG2 _ _ ha), rfl, ?_⟩
   refine ⟨b, rfl, ⟨_, SqL.of (sG2 _ _ hb)⟩, fun D hD => ?_⟩
   have hDG : G D = none := sG2.free hD
   have hDT : tG G D = none := tG_none hDG
   have hl := rs.length
   have bD : b ≠ D := ne_of_none (sG2 _ _ hb) hD
   have hDH : H D = none := s2.free hD
   refine comp_list (fun i σ H' => (∃ r r', σ = ([r, r'] : St)) ∧ But D H2 H' ∧ ∃ ys : List V, H' D = some (.lst ys) ∧ RdVs (mxG H (tG G) (hide D H')) ys (ps.take i)) ⟨⟨_, _, rfl⟩, But.put, [], upd_same, .nil⟩ (fun i σ H' _ h => SqL.of (h.2.1 _ _ bD (sG2 _ _ hb))) ?_ ?_
   · rintro i x _ H3 hx ⟨⟨r, r', rfl⟩, f3, ys, e3, ry3⟩
     obtain ⟨y, hy, ry⟩ := rs.get hx
     obtain ⟨t, k, rfl, it⟩ := hp y (List.mem_of_getElem? hy)
     obtain ⟨c', z, rfl, hc, rz⟩ := rd_part ry
     have il : i < ps.length := (List.getElem?_eq_some_iff.mp hy).1
     have sG3 : Same G H3 := fun b o w => f3 b o (ne_of_none w hDG) (sG2 _ _ w)
     have s03 : Same H H3 := fun b o w => f3 b o (ne_of_none (s2 _ _ w) hD) (s2 _ _ w)
     refine ⟨c', _, rfl, SqT.of (sG3 _ _ hc), rfl, ?_⟩
     walk_at "r"
     refine ⟨it.pos, z, t, B, G, rfl, rz, sG3, it, by omega, B9, fun v' H4 s4 rv => ?_⟩
     walk_at "r"
     intro c7 H7 n7 s7 e7
     walk_at "r"
     have s37 : Same H3 H7 := s4.trans s7
     have n7' : H c7 = none := (s03.trans s4).free n7
     have c7D : c7 ≠ D := fun z => by rw [z] at n7; rw [s4 _ _ e3] at n7; cases n7
     refine ⟨_, s37 _ _ e3, small1000 (by have := ry3.length; rw [List.length_take] at this; omega), ⟨_, _, rfl⟩, (f3.trans s37.but).trans .put, ys ++ [.ref c7], upd_same, ?_⟩
     rw [List.take_add_one, hy]
     refine (ry3.mono (mxG_to fun b o w e => ?_)).append (.cons (part_rd (x := v') (mxG_at (.inl n7') (hide_at c7D (by rw [upd_ne c7D]; exact e7))) (rv.mono (mxG_to fun b o w e => ?_))) .nil)
     · obtain ⟨bD, e⟩ := hide_of e
       exact ⟨w, hide_at bD (by rw [upd_ne bD]; exact s37 _ _ e)⟩
     · have bD : b ≠ D := fun y => by
         subst y
         rcases w with w | w
         · rw [e3] at w; cases w
         · exact w hDT
       exact ⟨w.imp (fun y => s03.free y) id, hide_at bD (by rw [upd_ne bD]; exact s7 _ _ e)⟩
   · rintro _ H3 ⟨⟨r, r', rfl⟩, f3, ys, e3, ry3⟩
     have s03 : Same H H3 := fun b o w => f3 b o (ne_of_none (s2 _ _ w) hD) (s2 _ _ w)
     rw [hl, List.take_length] at ry3
     walk_at "r"
     intro c4 H4 n4 s4 e4
     refine ⟨c2, c4, _, _, rfl, rfl, SqT.of (s4 _ _ (f3 _ _ (ne_of_none e2 hD) e2)), SqT.of e4, (by intro z; cases z), (by simp), (len_small (show (4 : Nat) ≤ _ by decide)), fun c5 H5 n5 s5 e5 => ?_⟩
     refine q _ H5 (s03.trans (s4.trans s5)) (root_rd (mxG_at (.inl ((s03.trans s4).free n5)) e5) (mxG_at (.inl hDH) (s5 _ _ (s4 _ _ e3))) (ry3.mono (mxG_to fun b o w e => ⟨w, s5 _ _ (s4 _ _ (hide_of e).2)⟩)))
theorem all__law_copy {f : Addr} {fd : FuncData} (F : Fun K "_law_copy" "_law_copy" s__law_copy f fd) (b : Binds K fd ["paper"] []) (kp : PySem.W.keepIn K (.ref f) = true) (m : mg "_law_copy" = some (.ref f)) : ∀ dd : Nat, Got P w K mg base "_law_copy" ["paper"] (2 + dd) (sp__law_copy K dd)
 | 0 => ⟨f, fd, F.ok (k := 1) sc__law_copy (fun vs H Q E h => by obtain ⟨z, _⟩ := h; exact absurd z (Nat.lt_irrefl 0)) (fun cdv A outer s H vs Q E hr h => by obtain ⟨z, _⟩ := h; exact absurd z (Nat.lt_irrefl 0)), b, kp, m⟩
 | dd + 1 => have g__law_copy := all__law_copy F b kp m dd
   ⟨f, fd, ok__law_copy F g__law_copy, b, kp, m⟩
noncomputable def sp_law (K : PySem.W.Frag) : Sp := fun vs H Q _ => ∃ (a : Addr) (ns : List Int), vs = [.ref a] ∧ SqL K H a (ns.map V.int) ∧ ns.length ≤ 63 ∧ ∀ H', Q (.bl true) H'
theorem ok_law {f : Addr} {fd : FuncData} {C0 : Addr} (F : Fun K "law" "law" s_law f fd) (g__law_alike : Got P w K mg base "_law_alike" ["found", "due"] (125) (sp__law_alike K 124)) (g_show_paper : Got P w K mg base "show_paper" ["paper"] (43) (sp_show_paper K 41)) (g__law_copy : Got P w K mg base "_law_copy" ["paper"] (43) (sp__law_copy K 41)) (g__law_shown : Got P w K mg base "_law_shown" ["paper"] (43) (sp__law_shown K 41)) (g__law_paper : Got P w K mg base "_law_paper" ["cell"] 60 (sp__law_paper K)) (g__law_cell_at : Got P w K mg base "_law_cell_at" ["script", "k"] 1 (sp__law_cell_at K)) (gX_read_paper : GotX P w K mg base "read_paper" ["text"] 4 (spX_read_paper K C0)) (z_range : mg "range" = none) (z_max : mg "max" = none) (z_min : mg "min" = none) (z_len : mg "len" = none) (z_isinstance : mg "isinstance" = none) (z_str : mg "str" = none) : FnOk P w K mg base CX0 200 f fd ["script"] (sp_law K) := by
 refine F.ok sc_law (fun vs H Q E h => ?_) (fun cdv A outer s H vs Q E hr h => ?_)
 · obtain ⟨a, ns, rfl, _⟩ := h
   rfl
 obtain ⟨a, ns, rfl, hS, h63, q⟩ := h
 refine ⟨_, (pss_cons (ps_for PassesOwn.never rfl (pi_range1 rfl z_range (pa_cons (pe_callB (call_max2 rfl) rfl z_max bt_max (pa_cons pe_int (pa_cons (pe_callB (call_min2 rfl) rfl z_min bt_min (pa_cons (pe_callB call_len_seq rfl z_len bt_len (pa_cons (pv 0) pa_nil)) (pa_cons pe_int pa_nil))) pa_nil))) pa_nil)) (pg_name (i := 1) sc_law.nd rfl (Or.inl rfl)) (pss_cons (ps_set (i := 2) sc_law.nd rfl (Or.inl rfl) (pe_got g__law_paper hr (by decide) rfl (pa_cons (pe_op op_add (pe_got g__law_cell_at hr (by decide) rfl (pa_cons (pv 0) (pa_cons (pv 1) pa_nil))) (pv 1)) pa_nil)))
     (pss_cons (ps_set (i := 3) sc_law.nd rfl (Or.inl rfl) (pe_got g__law_shown hr (by decide) rfl (pa_cons (pv 2) pa_nil)))
     (pss_cons (ps_set (i := 4) sc_law.nd rfl (Or.inl rfl) (pe_got g__law_copy hr (by decide) rfl (pa_cons (pv 2) pa_nil)))
     (pss_cons (ps_set (i := 5) sc_law.nd rfl (Or.inl rfl) (pe_got g_show_paper hr (by decide) rfl (pa_cons (pv 4) pa_nil)))
     (pss_cons (ps_if (PW.pt (pw_or (pt_not (pt_val (pe_callB call_isinst rfl z_isinstance bt_isinstance (pa_cons (pv 5) (pa_cons (pe_bltn (v := .ty "str") rfl z_str bt_str rfl) pa_nil))))) (pw_or (pt_cmpR op_ne (pv 5) (pv 3) (nomark _)) (pw_or1 (pt_cmpR (op_neD hr.units200) (pv 4) (pv 2) (nomark _)))))) (pss_one (ps_ret pe_bl)) pss_nil)
     (pss_cons (ps_set (i := 6) sc_law.nd rfl (Or.inl rfl) (pe_gotX gX_read_paper xe_not hr (by decide) rfl (pa_cons (pv 3) pa_nil)))
     (pss_cons (ps_if (pt_not (pt_val (pe_got g__law_alike hr (by decide) rfl (pa_cons (pv 6) (pa_cons (pv 2) pa_nil))))) (pss_one (ps_ret pe_bl)) pss_nil)
     (pss_one (ps_if (pt_cmpR op_eq (pe_ix ix_tup (pv 2) pe_int (fun _ _ => rfl)) pe_str (nomark _)) (pss_cons (ps_expr (pe_bm PySem.F.plainAttrs_list PySem.F.slot_list_append PySem.F.type_list_append mt_append (pe_ix ix_tup (pv 6) pe_int (fun _ _ => rfl)) (pa_cons pe_int pa_nil)))
     (pss_one (ps_if (pt_not (pt_val (pe_got g__law_alike hr (by decide) rfl (pa_cons (pe_gotX gX_read_paper xe_not hr (by decide) rfl (pa_cons (pv 3) pa_nil)) (pa_cons (pv 2) pa_nil))))) (pss_one (ps_ret pe_bl)) pss_nil))) pss_nil))))))))))
     (pss_one (ps_ret pe_bl))), ?_⟩
 walk_at "r"
 refine ⟨a, _, rfl, .inl hS, ?_⟩
 walk_at "r"
 generalize hM : (if (if (8 : Int) < ((List.map V.int ns).length : Int) then (8 : Int) else ((List.map V.int ns).length : Int)) > 1 then (if (8 : Int) < ((List.map V.int ns).length : Int) then (8 : Int) else ((List.map V.int ns).length : Int)) else 1) = M
 have M6 : 1 ≤ M ∧ M ≤ 8 := by
   rw [← hM]
   split <;> split <;> omega
 refine ⟨by omega, by omega, ?_⟩
 refine for_up (fun i σ H' => Same H H' ∧ ∃ r1 r2 r3 r4 r5 r6, σ = ([some (.ref a), r1, r2, r3, r4, r5, r6] : St)) ⟨Same.refl _, _, _, _, _, _, _, rfl⟩ ?_ ?_
 · rintro i _ H1 hi ⟨s1, r1, r2, r3, r4, r5, r6, rfl⟩
   walk_at "r"
   refine ⟨a, ns, i, by show [V.ref a, V.int (0 + (i : Int))] = _; rw [Int.zero_add], s1.seq hS, fun c => ?_⟩
   walk_at "r"
   intro v d H2 s2 rd nbs ln
   have nb : TX.NB 3 40 d := nbs.mono (by decide +kernel) (by decide) (Nat.le_refl _) (Nat.le_refl _)
   walk_at "r"
   refine ⟨by decide, v, d, 3, rfl, rd, TX.NB.mono (Nat.le_refl _) (show 40 ≤ 41 by decide) nb, by decide, ?_, ?_⟩
   · rw [TX.sh_mono (show 40 ≤ 41 by decide) nb.np]; omega
   rw [TX.sh_mono (show 40 ≤ 41 by decide) nb.np]
   have ip : IsP 3 40 d := nb.is
   have np : TX.NP 40 d := nb.np
   walk_at "r"
   refine ⟨by decide, v, d, 3, H2, rfl, rd, Same.refl _, ip.mono (Nat.le_refl _) (show 40 ≤ 41 by decide), by decide, by decide, fun v3 H3 s3 rd3 => ?_⟩
   have rd3 : RdV H3 v3 d := rd3.mono mxG_sub
   walk_at "r"
   refine ⟨by decide, v3, d, 3, rfl, rd3, TX.NB.mono (Nat.le_refl _) (show 40 ≤ 41 by decide) nb, by decide, ?_, fun H4 s4 => ?_⟩
   · rw [TX.sh_mono (show 40 ≤ 41 by decide) nb.np]; omega
   rw [TX.sh_mono (show 40 ≤ 41 by decide) nb.np]
   walk_at "r"
   refine ⟨_, _, _, _, rfl, .str _, TX.kit_ss, ?_⟩
   walk_at "r"
   refine ite2 (fun cc => absurd cc (by simp)) (fun _ => ?_)
   walk_at "r"
   have lay := ip.lay
   have s24 := s3.trans s4
   refine ⟨d, d, rd3.mono s4, rd.mono s24, lay.1, lay.1, .inl (by omega), ?_⟩
   rw [SeqAt.eqv_refl _ lay.1]
   walk_at "r"
   have hz : (TX.tS (TX.sh 40 d)).length ≤ 10 ^ 6 := by rw [TX.tS_len]; omega
   refine ⟨hz, fun d5 v5 H5 e5 s5 rd5 => ?_, fun e5 => ?_⟩
   · rw [TX.tS_cps, TX.read_sh nb.np] at e5
     obtain rfl := Option.some.inj e5
     have s25 := s24.trans s5
     have r5 : RdV H5 v5 d := rd5.mono mxG_sub
     have al : TX.AL 124 d := (TX.AL.of (by decide) ip).mono (by decide)
     walk_at "r"
     refine ⟨by decide, v5, v, d, rfl, r5, rd.mono s25, al, fun H6 s6 => ?_⟩
     walk_at "r"
     have s26 := s25.trans s6
     rcases nb with rfl | ⟨p, g, ps, rfl, nb⟩
     · obtain ⟨c7, rfl, h7⟩ := rd_two (rd.mono s26)
       refine ⟨c7, _, _, _, rfl, rfl, SqT.of h7, rfl, ?_⟩
       walk_at "r"
       refine ite2 (fun cc => absurd cc (by decide)) (fun _ => ?_)
       exact ⟨s1.trans (s2.trans s26), _, _, _, _, _, _, rfl⟩
     · obtain ⟨c7, b7, xs7, rfl, h7, hb7, rs7⟩ := rd_root (rd.mono s26)
       obtain ⟨c8, b8, xs8, rfl, h8, hb8, rs8⟩ := rd_root rd5
       obtain ⟨_, h8'⟩ := mxG_of h8
       obtain ⟨nb8, hb8'⟩ := mxG_of hb8
       have nb8 : H4 b8 = none := nb8.resolve_right (by simp [noH])
       have h86 := s6 _ _ h8'
       have hb86 := s6 _ _ hb8'
       refine ⟨c7, _, _, _, rfl, rfl, SqT.of h7, rfl, ?_⟩
       walk_at "r"
       refine ⟨c8, _, _, _, rfl, rfl, SqT.of h86, rfl, ?_⟩
       walk_at "r"
       refine ⟨.inl ⟨rfl, _, SqL.of hb86⟩, ?_⟩
       walk_at "r"
       have l8 := rs8.length
       have l3 : ps.length ≤ 3 := nb.2.2.1
       refine ⟨b8, _, _, rfl, rfl, hb86, small1000 (by omega), ?_⟩
       have s47 : Same H4 (upd H6 b8 (.lst (xs8 ++ [.int 7]))) := fun b o e => by
         rw [upd_ne (ne_of_none e nb8)]
         exact s6 _ _ (s5 _ _ e)
       generalize upd H6 b8 (.lst (xs8 ++ [.int 7])) = H7 at s47
       walk_at "r"
       refine ⟨hz, fun d9 v9 H9 e9 s9 rd9 => ?_, fun e9 => ?_⟩
       · rw [TX.tS_cps, TX.read_sh np] at e9
         obtain rfl := Option.some.inj e9
         have s49 := s47.trans s9
         walk_at "r"
         refine ⟨by decide, v9, _, _, rfl, rd9.mono mxG_sub, rd.mono (s24.trans s49), al, fun H10 s10 => ?_⟩
         walk_at "r"
         exact ⟨s1.trans (s2.trans (s24.trans (s49.trans s10))), _, _, _, _, _, _, rfl⟩
       · rw [TX.tS_cps, TX.read_sh np] at e9
         cases e9
   · rw [TX.tS_cps, TX.read_sh nb.np] at e5
     cases e5
 · rintro σ H' ⟨_, r1, r2, r3, r4, r5, r6, rfl⟩
   walk_at "r"
   exact q _
end
theorem lenS {us : List Value} {n : Nat} (h : us.length = n + 1) : ∃ a t, us = a :: t ∧ t.length = n := by
 cases us with
 | nil => cases h
 | cons a t => exact ⟨a, t, rfl, Nat.succ.inj h⟩
theorem lenZ {us : List Value} (h : us.length = 0) : us = [] := List.length_eq_zero_iff.mp h
theorem lenE1 {us : List Value} (hl : us.length = 1) : ∃ a0, us = [a0] := by
 obtain ⟨a0, t0, rfl, h0⟩ := lenS hl
 cases lenZ h0
 exact ⟨a0, rfl⟩
theorem lenE2 {us : List Value} (hl : us.length = 2) : ∃ a0 a1, us = [a0, a1] := by
 obtain ⟨a0, t0, rfl, h0⟩ := lenS hl
 obtain ⟨a1, t1, rfl, h1⟩ := lenS h0
 cases lenZ h1
 exact ⟨a0, a1, rfl⟩
theorem lenE3 {us : List Value} (hl : us.length = 3) : ∃ a0 a1 a2, us = [a0, a1, a2] := by
 obtain ⟨a0, t0, rfl, h0⟩ := lenS hl
 obtain ⟨a1, t1, rfl, h1⟩ := lenS h0
 obtain ⟨a2, t2, rfl, h2⟩ := lenS h1
 cases lenZ h2
 exact ⟨a0, a1, a2, rfl⟩
theorem all_mk {l : PySem.W.OpenLaw} {w : World} {K : PySem.W.Frag} {h : Heap} {mg : Str → Option Value} {fa : Addr} (X : K.In h) (G : h.Ns mainGlobals mg) (hfa : mg "law" = some (.ref fa))
   {c_Reader : Addr} (n_Reader : PySem.W.nsIn K mainGlobals "Reader" = some (some (.ref c_Reader))) (pg_Reader : PySem.W.plainGet K c_Reader Str.empty = true) (hd_Reader : PySem.W.hasDictIn K c_Reader = true) (po_Reader : PySem.W.plainOver K c_Reader = true) (sa_Reader : PySem.W.findIn K (.ref c_Reader) "__setattr__" = some (some (.builtin "object.__setattr__"))) (mk_Reader : PySem.W.makesIn K c_Reader = true) (kc_Reader : PySem.W.keepIn K (.ref c_Reader) = true) (nf_Reader_text : PySem.W.findIn K (.ref c_Reader) "text" = some none) (nf_Reader_at : PySem.W.findIn K (.ref c_Reader) "at" = some none)
   {f1 : Addr} {od1 an1 : Option Addr} {sl1 : Array (Option Value)} {oc1 kV1 dc1 pm1 cd1 ct1 : Value}
   (a1 : PySem.W.nsIn K mainGlobals "number_of" = some (some (.ref f1))) (l1 : K.lookup f1 = some ⟨oc1, od1, .func (PySem.W.fnOf "number_of" "number_of" (defArgs s_number_of) (defBody s_number_of) (defScope s_number_of) .none kV1 dc1 pm1 an1 cd1 ct1), sl1⟩) (c1 : PySem.W.codeIn K cd1 "number_of" = true) (k1 : PySem.W.keepIn K (.ref f1) = true)
   {f2 : Addr} {od2 an2 : Option Addr} {sl2 : Array (Option Value)} {oc2 kV2 dc2 pm2 cd2 ct2 : Value}
   (a2 : PySem.W.findIn K (.ref c_Reader) "__init__" = some (some (.ref f2))) (i2 : PySem.W.isFn K (.ref f2) = true) (l2 : K.lookup f2 = some ⟨oc2, od2, .func (PySem.W.fnOf "__init__" "Reader.__init__" (defArgs s_Reader_init) (defBody s_Reader_init) (defScope s_Reader_init) .none kV2 dc2 pm2 an2 cd2 ct2), sl2⟩) (c2 : PySem.W.codeIn K cd2 "Reader.__init__" = true) (k2 : PySem.W.keepIn K (.ref f2) = true)
   {f3 : Addr} {od3 an3 : Option Addr} {sl3 : Array (Option Value)} {oc3 kV3 dc3 pm3 cd3 ct3 : Value}
   (a3 : PySem.W.findIn K (.ref c_Reader) "at_end" = some (some (.ref f3))) (i3 : PySem.W.isFn K (.ref f3) = true) (l3 : K.lookup f3 = some ⟨oc3, od3, .func (PySem.W.fnOf "at_end" "Reader.at_end" (defArgs s_Reader_at_end) (defBody s_Reader_at_end) (defScope s_Reader_at_end) .none kV3 dc3 pm3 an3 cd3 ct3), sl3⟩) (c3 : PySem.W.codeIn K cd3 "Reader.at_end" = true) (k3 : PySem.W.keepIn K (.ref f3) = true)
   {f4 : Addr} {od4 an4 : Option Addr} {sl4 : Array (Option Value)} {oc4 kV4 dc4 pm4 cd4 ct4 : Value}
   (a4 : PySem.W.findIn K (.ref c_Reader) "takes" = some (some (.ref f4))) (i4 : PySem.W.isFn K (.ref f4) = true) (l4 : K.lookup f4 = some ⟨oc4, od4, .func (PySem.W.fnOf "takes" "Reader.takes" (defArgs s_Reader_takes) (defBody s_Reader_takes) (defScope s_Reader_takes) .none kV4 dc4 pm4 an4 cd4 ct4), sl4⟩) (c4 : PySem.W.codeIn K cd4 "Reader.takes" = true) (k4 : PySem.W.keepIn K (.ref f4) = true)
   {f5 : Addr} {od5 an5 : Option Addr} {sl5 : Array (Option Value)} {oc5 kV5 dc5 pm5 cd5 ct5 : Value}
   (a5 : PySem.W.findIn K (.ref c_Reader) "needs" = some (some (.ref f5))) (i5 : PySem.W.isFn K (.ref f5) = true) (l5 : K.lookup f5 = some ⟨oc5, od5, .func (PySem.W.fnOf "needs" "Reader.needs" (defArgs s_Reader_needs) (defBody s_Reader_needs) (defScope s_Reader_needs) .none kV5 dc5 pm5 an5 cd5 ct5), sl5⟩) (c5 : PySem.W.codeIn K cd5 "Reader.needs" = true) (k5 : PySem.W.keepIn K (.ref f5) = true)
   {f6 : Addr} {od6 an6 : Option Addr} {sl6 : Array (Option Value)} {oc6 kV6 dc6 pm6 cd6 ct6 : Value}
   (a6 : PySem.W.findIn K (.ref c_Reader) "number" = some (some (.ref f6))) (i6 : PySem.W.isFn K (.ref f6) = true) (l6 : K.lookup f6 = some ⟨oc6, od6, .func (PySem.W.fnOf "number" "Reader.number" (defArgs s_Reader_number) (defBody s_Reader_number) (defScope s_Reader_number) .none kV6 dc6 pm6 an6 cd6 ct6), sl6⟩) (c6 : PySem.W.codeIn K cd6 "Reader.number" = true) (k6 : PySem.W.keepIn K (.ref f6) = true)
   {f7 : Addr} {od7 an7 : Option Addr} {sl7 : Array (Option Value)} {oc7 kV7 dc7 pm7 cd7 ct7 : Value}
   (a7 : PySem.W.nsIn K mainGlobals "begin_paper" = some (some (.ref f7))) (l7 : K.lookup f7 = some ⟨oc7, od7, .func (PySem.W.fnOf "begin_paper" "begin_paper" (defArgs s_begin_paper) (defBody s_begin_paper) (defScope s_begin_paper) .none kV7 dc7 pm7 an7 cd7 ct7), sl7⟩) (c7 : PySem.W.codeIn K cd7 "begin_paper" = true) (k7 : PySem.W.keepIn K (.ref f7) = true)
   {f8 : Addr} {od8 an8 : Option Addr} {sl8 : Array (Option Value)} {oc8 kV8 dc8 pm8 cd8 ct8 : Value}
   (a8 : PySem.W.nsIn K mainGlobals "end_part" = some (some (.ref f8))) (l8 : K.lookup f8 = some ⟨oc8, od8, .func (PySem.W.fnOf "end_part" "end_part" (defArgs s_end_part) (defBody s_end_part) (defScope s_end_part) .none kV8 dc8 pm8 an8 cd8 ct8), sl8⟩) (c8 : PySem.W.codeIn K cd8 "end_part" = true) (k8 : PySem.W.keepIn K (.ref f8) = true)
   {f9 : Addr} {od9 an9 : Option Addr} {sl9 : Array (Option Value)} {oc9 kV9 dc9 pm9 cd9 ct9 : Value}
   (a9 : PySem.W.nsIn K mainGlobals "read_paper" = some (some (.ref f9))) (l9 : K.lookup f9 = some ⟨oc9, od9, .func (PySem.W.fnOf "read_paper" "read_paper" (defArgs s_read_paper) (defBody s_read_paper) (defScope s_read_paper) .none kV9 dc9 pm9 an9 cd9 ct9), sl9⟩) (c9 : PySem.W.codeIn K cd9 "read_paper" = true) (k9 : PySem.W.keepIn K (.ref f9) = true)
   {f10 : Addr} {od10 an10 : Option Addr} {sl10 : Array (Option Value)} {oc10 kV10 dc10 pm10 cd10 ct10 : Value}
   (a10 : PySem.W.nsIn K mainGlobals "show_paper" = some (some (.ref f10))) (l10 : K.lookup f10 = some ⟨oc10, od10, .func (PySem.W.fnOf "show_paper" "show_paper" (defArgs s_show_paper) (defBody s_show_paper) (defScope s_show_paper) .none kV10 dc10 pm10 an10 cd10 ct10), sl10⟩) (c10 : PySem.W.codeIn K cd10 "show_paper" = true) (k10 : PySem.W.keepIn K (.ref f10) = true)
   {f11 : Addr} {od11 an11 : Option Addr} {sl11 : Array (Option Value)} {oc11 kV11 dc11 pm11 cd11 ct11 : Value}
   (a11 : PySem.W.nsIn K mainGlobals "_law_cell_at" = some (some (.ref f11))) (l11 : K.lookup f11 = some ⟨oc11, od11, .func (PySem.W.fnOf "_law_cell_at" "_law_cell_at" (defArgs s__law_cell_at) (defBody s__law_cell_at) (defScope s__law_cell_at) .none kV11 dc11 pm11 an11 cd11 ct11), sl11⟩) (c11 : PySem.W.codeIn K cd11 "_law_cell_at" = true) (k11 : PySem.W.keepIn K (.ref f11) = true)
   {f12 : Addr} {od12 an12 : Option Addr} {sl12 : Array (Option Value)} {oc12 kV12 dc12 pm12 cd12 ct12 : Value}
   (a12 : PySem.W.nsIn K mainGlobals "_law_digits" = some (some (.ref f12))) (l12 : K.lookup f12 = some ⟨oc12, od12, .func (PySem.W.fnOf "_law_digits" "_law_digits" (defArgs s__law_digits) (defBody s__law_digits) (defScope s__law_digits) .none kV12 dc12 pm12 an12 cd12 ct12), sl12⟩) (c12 : PySem.W.codeIn K cd12 "_law_digits" = true) (k12 : PySem.W.keepIn K (.ref f12) = true)
   {f13 : Addr} {od13 an13 : Option Addr} {sl13 : Array (Option Value)} {oc13 kV13 dc13 pm13 cd13 ct13 : Value}
   (a13 : PySem.W.nsIn K mainGlobals "_law_alike" = some (some (.ref f13))) (l13 : K.lookup f13 = some ⟨oc13, od13, .func (PySem.W.fnOf "_law_alike" "_law_alike" (defArgs s__law_alike) (defBody s__law_alike) (defScope s__law_alike) .none kV13 dc13 pm13 an13 cd13 ct13), sl13⟩) (c13 : PySem.W.codeIn K cd13 "_law_alike" = true) (k13 : PySem.W.keepIn K (.ref f13) = true)
   {f14 : Addr} {od14 an14 : Option Addr} {sl14 : Array (Option Value)} {oc14 kV14 dc14 pm14 cd14 ct14 : Value}
   (a14 : PySem.W.nsIn K mainGlobals "_law_drawn_paper" = some (some (.ref f14))) (l14 : K.lookup f14 = some ⟨oc14, od14, .func (PySem.W.fnOf "_law_drawn_paper" "_law_drawn_paper" (defArgs s__law_drawn_paper) (defBody s__law_drawn_paper) (defScope s__law_drawn_paper) .none kV14 dc14 pm14 an14 cd14 ct14), sl14⟩) (c14 : PySem.W.codeIn K cd14 "_law_drawn_paper" = true) (k14 : PySem.W.keepIn K (.ref f14) = true)
   {f15 : Addr} {od15 an15 : Option Addr} {sl15 : Array (Option Value)} {oc15 kV15 dc15 pm15 cd15 ct15 : Value}
   (a15 : PySem.W.nsIn K mainGlobals "_law_paper" = some (some (.ref f15))) (l15 : K.lookup f15 = some ⟨oc15, od15, .func (PySem.W.fnOf "_law_paper" "_law_paper" (defArgs s__law_paper) (defBody s__law_paper) (defScope s__law_paper) .none kV15 dc15 pm15 an15 cd15 ct15), sl15⟩) (c15 : PySem.W.codeIn K cd15 "_law_paper" = true) (k15 : PySem.W.keepIn K (.ref f15) = true)
   {f16 : Addr} {od16 an16 : Option Addr} {sl16 : Array (Option Value)} {oc16 kV16 dc16 pm16 cd16 ct16 : Value}
   (a16 : PySem.W.nsIn K mainGlobals "_law_shown" = some (some (.ref f16))) (l16 : K.lookup f16 = some ⟨oc16, od16, .func (PySem.W.fnOf "_law_shown" "_law_shown" (defArgs s__law_shown) (defBody s__law_shown) (defScope s__law_shown) .none kV16 dc16 pm16 an16 cd16 ct16), sl16⟩) (c16 : PySem.W.codeIn K cd16 "_law_shown" = true) (k16 : PySem.W.keepIn K (.ref f16) = true)
   {f17 : Addr} {od17 an17 : Option Addr} {sl17 : Array (Option Value)} {oc17 kV17 dc17 pm17 cd17 ct17 : Value}
   (a17 : PySem.W.nsIn K mainGlobals "_law_copy" = some (some (.ref f17))) (l17 : K.lookup f17 = some ⟨oc17, od17, .func (PySem.W.fnOf "_law_copy" "_law_copy" (defArgs s__law_copy) (defBody s__law_copy) (defScope s__law_copy) .none kV17 dc17 pm17 an17 cd17 ct17), sl17⟩) (c17 : PySem.W.codeIn K cd17 "_law_copy" = true) (k17 : PySem.W.keepIn K (.ref f17) = true)
   {f18 : Addr} {od18 an18 : Option Addr} {sl18 : Array (Option Value)} {oc18 kV18 dc18 pm18 cd18 ct18 : Value}
   (a18 : PySem.W.nsIn K mainGlobals "law" = some (some (.ref f18))) (l18 : K.lookup f18 = some ⟨oc18, od18, .func (PySem.W.fnOf "law" "law" (defArgs s_law) (defBody s_law) (defScope s_law) .none kV18 dc18 pm18 an18 cd18 ct18), sl18⟩) (c18 : PySem.W.codeIn K cd18 "law" = true) (k18 : PySem.W.keepIn K (.ref f18) = true)
   {c_NoText : Addr} (n_NoText : PySem.W.nsIn K mainGlobals "NoText" = some (some (.ref c_NoText)))
   (q_NoText : PySem.W.excIn K c_NoText veB "ValueError.__new__" = true)
   {t_FIGURES : Tok} (n_FIGURES : PySem.W.nsIn K mainGlobals "FIGURES" = some (some (.str "0123456789" t_FIGURES)))
   (y_len : PySem.W.nsIn K mainGlobals "len" = some none)
   (y_range : PySem.W.nsIn K mainGlobals "range" = some none)
   (y_isinstance : PySem.W.nsIn K mainGlobals "isinstance" = some none)
   (y_bool : PySem.W.nsIn K mainGlobals "bool" = some none)
   (y_int : PySem.W.nsIn K mainGlobals "int" = some none)
   (y_list : PySem.W.nsIn K mainGlobals "list" = some none)
   (y_tuple : PySem.W.nsIn K mainGlobals "tuple" = some none)
   (y_str : PySem.W.nsIn K mainGlobals "str" = some none)
   (y_max : PySem.W.nsIn K mainGlobals "max" = some none)
   (y_min : PySem.W.nsIn K mainGlobals "min" = some none) :
   ∃ fd : FuncData, (∀ (s : Shared) (v : Value), BindsTo s fd ⟨[v], []⟩ [("script", v)]) ∧ ∀ base : Heap, K.In base → base.Ns mainGlobals mg → FnOk l.prog w K mg base CX0 200 fa fd ["script"] (sp_law K) := by
 have e := hfa.symm.trans (PySem.W.mg_of X G a18)
 cases e
 have z_len := PySem.W.mg_none_of X G y_len
 have z_range := PySem.W.mg_none_of X G y_range
 have z_isinstance := PySem.W.mg_none_of X G y_isinstance
 have z_bool := PySem.W.mg_none_of X G y_bool
 have z_int := PySem.W.mg_none_of X G y_int
 have z_list := PySem.W.mg_none_of X G y_list
 have z_tuple := PySem.W.mg_none_of X G y_tuple
 have z_str := PySem.W.mg_none_of X G y_str
 have z_max := PySem.W.mg_none_of X G y_max
 have z_min := PySem.W.mg_none_of X G y_min
 have m_NoText := PySem.W.mg_of X G n_NoText
 have m_Reader := PySem.W.mg_of X G n_Reader
 have cl_Reader : Cls K c_Reader := ⟨pg_Reader, hd_Reader, po_Reader, sa_Reader⟩
 have w_FIGURES := PySem.W.mg_of X G n_FIGURES
 have F1 := fun_mk (st := s_number_of) l1 c1 k1
 have F2 := fun_mk (st := s_Reader_init) l2 c2 k2
 have F3 := fun_mk (st := s_Reader_at_end) l3 c3 k3
 have F4 := fun_mk (st := s_Reader_takes) l4 c4 k4
 have F5 := fun_mk (st := s_Reader_needs) l5 c5 k5
 have F6 := fun_mk (st := s_Reader_number) l6 c6 k6
 have F7 := fun_mk (st := s_begin_paper) l7 c7 k7
 have F8 := fun_mk (st := s_end_part) l8 c8 k8
 have F9 := fun_mk (st := s_read_paper) l9 c9 k9
 have F10 := fun_mk (st := s_show_paper) l10 c10 k10
 have F11 := fun_mk (st := s__law_cell_at) l11 c11 k11
 have F12 := fun_mk (st := s__law_digits) l12 c12 k12
 have F13 := fun_mk (st := s__law_alike) l13 c13 k13
 have F14 := fun_mk (st := s__law_drawn_paper) l14 c14 k14
 have F15 := fun_mk (st := s__law_paper) l15 c15 k15
 have F16 := fun_mk (st := s__law_shown) l16 c16 k16
 have F17 := fun_mk (st := s__law_copy) l17 c17 k17
 have F18 := fun_mk (st := s_law) l18 c18 k18
 refine ⟨PySem.W.fnOf "law" "law" (defArgs s_law) (defBody s_law) (defScope s_law) .none kV18 dc18 pm18 an18 cd18 ct18, fun s v => .of_eq rfl, fun base KB GB => ?_⟩
 have o_NoText := own_cls KB GB n_NoText q_NoText
 have g_number_of : Got l.prog w K mg base "number_of" ["figures"] 1 (sp_number_of K) := ⟨_, _, ok_number_of F1 w_FIGURES, F1.binds (ps := ["figures"]) (fun _ _ _ _ _ _ us hl => by obtain ⟨a0, rfl⟩ := lenE1 hl; rfl), k1, PySem.W.mg_of X G a1⟩
 have g_Reader_init : GotMk CX0 l.prog w K mg base c_Reader "Reader" ["self", "text"] 1 (sp_Reader_init K c_Reader) := ⟨_, _, ok_Reader_init F2 cl_Reader nf_Reader_text nf_Reader_at, F2.binds (ps := ["self", "text"]) (fun _ _ _ _ _ _ us hl => by obtain ⟨a0, a1, rfl⟩ := lenE2 hl; rfl), ⟨mk_Reader, a2, i2, kc_Reader⟩, m_Reader⟩
 have g_Reader_at_end : GotM CX0 l.prog w K mg base c_Reader "at_end" ["self"] 1 (sp_Reader_at_end K c_Reader) := ⟨_, _, ok_Reader_at_end F3 cl_Reader nf_Reader_text nf_Reader_at z_len, F3.binds (ps := ["self"]) (fun _ _ _ _ _ _ us hl => by obtain ⟨a0, rfl⟩ := lenE1 hl; rfl), ⟨a3, i3, k3⟩⟩
 have g_Reader_takes : GotM CX0 l.prog w K mg base c_Reader "takes" ["self", "signs"] 1 (sp_Reader_takes K c_Reader) := ⟨_, _, ok_Reader_takes F4 cl_Reader nf_Reader_text nf_Reader_at z_len, F4.binds (ps := ["self", "signs"]) (fun _ _ _ _ _ _ us hl => by obtain ⟨a0, a1, rfl⟩ := lenE2 hl; rfl), ⟨a4, i4, k4⟩⟩
 have gX_Reader_needs : GotM (CXE l.prog w) l.prog w K mg base c_Reader "needs" ["self", "signs"] 2 (spX_Reader_needs K c_Reader c_NoText) := ⟨_, _, okX_Reader_needs (C0 := c_NoText) F5 o_NoText cl_Reader nf_Reader_text nf_Reader_at g_Reader_takes, F5.binds (ps := ["self", "signs"]) (fun _ _ _ _ _ _ us hl => by obtain ⟨a0, a1, rfl⟩ := lenE2 hl; rfl), ⟨a5, i5, k5⟩⟩
 have gX_Reader_number : GotM (CXE l.prog w) l.prog w K mg base c_Reader "number" ["self"] 2 (spX_Reader_number K c_Reader c_NoText) := ⟨_, _, okX_Reader_number (C0 := c_NoText) F6 o_NoText w_FIGURES cl_Reader nf_Reader_text nf_Reader_at g_number_of g_Reader_at_end, F6.binds (ps := ["self"]) (fun _ _ _ _ _ _ us hl => by obtain ⟨a0, rfl⟩ := lenE1 hl; rfl), ⟨a6, i6, k6⟩⟩
 have gX_begin_paper : GotX l.prog w K mg base "begin_paper" ["reader", "begun"] 3 (spX_begin_paper K c_Reader c_NoText) := ⟨_, _, okX_begin_paper (C0 := c_NoText) F7 o_NoText cl_Reader nf_Reader_text nf_Reader_at g_Reader_takes gX_Reader_needs gX_Reader_number, F7.binds (ps := ["reader", "begun"]) (fun _ _ _ _ _ _ us hl => by obtain ⟨a0, a1, rfl⟩ := lenE2 hl; rfl), k7, PySem.W.mg_of X G a7⟩
 have gX_end_part : GotX l.prog w K mg base "end_part" ["reader", "begun", "paper"] 3 (spX_end_part K c_Reader c_NoText) := ⟨_, _, okX_end_part (C0 := c_NoText) F8 cl_Reader nf_Reader_text nf_Reader_at g_Reader_takes gX_Reader_needs gX_Reader_number, F8.binds (ps := ["reader", "begun", "paper"]) (fun _ _ _ _ _ _ us hl => by obtain ⟨a0, a1, a2, rfl⟩ := lenE3 hl; rfl), k8, PySem.W.mg_of X G a8⟩
 have gX_read_paper : GotX l.prog w K mg base "read_paper" ["text"] 4 (spX_read_paper K c_NoText) := ⟨_, _, okX_read_paper (C0 := c_NoText) F9 o_NoText cl_Reader nf_Reader_text nf_Reader_at g_Reader_at_end g_Reader_init gX_begin_paper gX_end_part z_len, F9.binds (ps := ["text"]) (fun _ _ _ _ _ _ us hl => by obtain ⟨a0, rfl⟩ := lenE1 hl; rfl), k9, PySem.W.mg_of X G a9⟩
 have g_show_paper := all_show_paper (P := l.prog) (w := w) (base := base) F10 (F10.binds (ps := ["paper"]) (fun _ _ _ _ _ _ us hl => by obtain ⟨a0, rfl⟩ := lenE1 hl; rfl)) k10 (PySem.W.mg_of X G a10) 41
 have g__law_cell_at : Got l.prog w K mg base "_law_cell_at" ["script", "k"] 1 (sp__law_cell_at K) := ⟨_, _, ok__law_cell_at F11 z_len, F11.binds (ps := ["script", "k"]) (fun _ _ _ _ _ _ us hl => by obtain ⟨a0, a1, rfl⟩ := lenE2 hl; rfl), k11, PySem.W.mg_of X G a11⟩
 have g__law_digits : Got l.prog w K mg base "_law_digits" ["cell", "many", "top"] 1 (sp__law_digits K) := ⟨_, _, ok__law_digits F12 z_range, F12.binds (ps := ["cell", "many", "top"]) (fun _ _ _ _ _ _ us hl => by obtain ⟨a0, a1, a2, rfl⟩ := lenE3 hl; rfl), k12, PySem.W.mg_of X G a12⟩
 have g__law_alike := all__law_alike (P := l.prog) (w := w) (base := base) F13 z_isinstance z_bool z_int z_list z_tuple z_range z_len z_str (F13.binds (ps := ["found", "due"]) (fun _ _ _ _ _ _ us hl => by obtain ⟨a0, a1, rfl⟩ := lenE2 hl; rfl)) k13 (PySem.W.mg_of X G a13) 124
 have g__law_drawn_paper := all__law_drawn_paper (P := l.prog) (w := w) (base := base) F14 z_range z_len (F14.binds (ps := ["xs", "at", "deep"]) (fun _ _ _ _ _ _ us hl => by obtain ⟨a0, a1, a2, rfl⟩ := lenE3 hl; rfl)) k14 (PySem.W.mg_of X G a14) 5
 have g__law_paper : Got l.prog w K mg base "_law_paper" ["cell"] 60 (sp__law_paper K) := ⟨_, _, ok__law_paper F15 g__law_drawn_paper g__law_digits z_range, F15.binds (ps := ["cell"]) (fun _ _ _ _ _ _ us hl => by obtain ⟨a0, rfl⟩ := lenE1 hl; rfl), k15, PySem.W.mg_of X G a15⟩
 have g__law_shown := all__law_shown (P := l.prog) (w := w) (base := base) F16 z_range z_len z_int z_str (F16.binds (ps := ["paper"]) (fun _ _ _ _ _ _ us hl => by obtain ⟨a0, rfl⟩ := lenE1 hl; rfl)) k16 (PySem.W.mg_of X G a16) 41
 have g__law_copy := all__law_copy (P := l.prog) (w := w) (base := base) F17 (F17.binds (ps := ["paper"]) (fun _ _ _ _ _ _ us hl => by obtain ⟨a0, rfl⟩ := lenE1 hl; rfl)) k17 (PySem.W.mg_of X G a17) 41
 exact ok_law (C0 := c_NoText) F18 g__law_alike g_show_paper g__law_copy g__law_shown g__law_paper g__law_cell_at gX_read_paper z_range z_max z_min z_len z_isinstance z_str
theorem walk {l : PySem.W.OpenLaw} {q : Program} {loose : List Str} {XP : (Str → Option Value) → Heap → Prop} {YP : World → Heap → Prop} {d : DefRec} {K : Params → PySem.W.Frag} (hn : l.most = some 63) (hdf : d.params.defaults = [])
   (hY : ∀ (w : World) (h : Heap), YP w h → (K w.params).In h)
   (F : ∀ (w : World) (mg : Str → Option Value) (fa : Addr) (h : Heap), (K w.params).In h → h.Ns mainGlobals mg → mg d.name = some (.ref fa) →
     ∃ fd : FuncData, (∀ (s : Shared) (u : Value), BindsTo s fd ⟨[u], []⟩ [("script", u)]) ∧ ∀ base : Heap, (K w.params).In base → base.Ns mainGlobals mg → FnOk l.prog w (K w.params) mg base CX0 200 fa fd ["script"] (sp_law (K w.params))) :
   PySem.W.WalkO q loose XP YP l.row.toRowW d [] (fun f vs => PySem.call f vs) :=
 L2.walk_of (n := 63) (k := 200) (x := "script") (CX := fun _ => CX0) (sp := fun w => sp_law (K w.params)) hn (by decide) hdf ⟨rfl, by decide, by decide⟩ hY F (fun _ _ a ns hl _ hS => ⟨a, ns, rfl, hS, hl, fun _ => rfl⟩) fun _ _ _ _ _ z => z
end My
open PySem PySem.W PyProof.Rows
set_option maxRecDepth 100000 in
set_option maxHeartbeats 0 in
theorem PySem.Challenge.cw_rootpapers_k60_papers_written_holds : PySem.Challenge.rw_rootpapers_k60_papers_written.Holds := by
 w_on; o_law; k_head; (case hw => w_witness2)
 k_fill
 refine My.walk (l := PySem.Challenge.rw_rootpapers_k60_papers_written) rfl rfl (fun w h Y => PySem.W.kIn_of Y) ?F
 case F =>
   intro w mg fa h KX G hmg
   refine' My.all_mk KX G hmg ?n_Reader ?pg_Reader ?hd_Reader ?po_Reader ?sa_Reader ?mk_Reader ?kc_Reader ?nf_Reader_text ?nf_Reader_at ?a1 ?l1 ?c1 ?k1 ?a2 ?i2 ?l2 ?c2 ?k2 ?a3 ?i3 ?l3 ?c3 ?k3 ?a4 ?i4 ?l4 ?c4 ?k4 ?a5 ?i5 ?l5 ?c5 ?k5 ?a6 ?i6 ?l6 ?c6 ?k6 ?a7 ?l7 ?c7 ?k7 ?a8 ?l8 ?c8 ?k8 ?a9 ?l9 ?c9 ?k9 ?a10 ?l10 ?c10 ?k10 ?a11 ?l11 ?c11 ?k11 ?a12 ?l12 ?c12 ?k12 ?a13 ?l13 ?c13 ?k13 ?a14 ?l14 ?c14 ?k14 ?a15 ?l15 ?c15 ?k15 ?a16 ?l16 ?c16 ?k16 ?a17 ?l17 ?c17 ?k17 ?a18 ?l18 ?c18 ?k18 ?n_NoText ?q_NoText ?n_FIGURES ?y_len ?y_range ?y_isinstance ?y_bool ?y_int ?y_list ?y_tuple ?y_str ?y_max ?y_min
   (case n_Reader => k_is)
   (case pg_Reader => k_is)
   (case hd_Reader => k_is)
   (case po_Reader => k_is)
   (case sa_Reader => k_is)
   (case mk_Reader => k_is)
   (case kc_Reader => k_is)
   (case nf_Reader_text => k_is)
   (case nf_Reader_at => k_is)
   (case a1 => k_is)
   (case l1 => k_is)
   (case c1 => k_is)
   (case k1 => k_is)
   (case a2 => k_is)
   (case i2 => k_is)
   (case l2 => k_is)
   (case c2 => k_is)
   (case k2 => k_is)
   (case a3 => k_is)
   (case i3 => k_is)
   (case l3 => k_is)
   (case c3 => k_is)
   (case k3 => k_is)
   (case a4 => k_is)
   (case i4 => k_is)
   (case l4 => k_is)
   (case c4 => k_is)
   (case k4 => k_is)
   (case a5 => k_is)
   (case i5 => k_is)
   (case l5 => k_is)
   (case c5 => k_is)
   (case k5 => k_is)
   (case a6 => k_is)
   (case i6 => k_is)
   (case l6 => k_is)
   (case c6 => k_is)
   (case k6 => k_is)
   (case a7 => k_is)
   (case l7 => k_is)
   (case c7 => k_is)
   (case k7 => k_is)
   (case a8 => k_is)
   (case l8 => k_is)
   (case c8 => k_is)
   (case k8 => k_is)
   (case a9 => k_is)
   (case l9 => k_is)
   (case c9 => k_is)
   (case k9 => k_is)
   (case a10 => k_is)
   (case l10 => k_is)
   (case c10 => k_is)
   (case k10 => k_is)
   (case a11 => k_is)
   (case l11 => k_is)
   (case c11 => k_is)
   (case k11 => k_is)
   (case a12 => k_is)
   (case l12 => k_is)
   (case c12 => k_is)
   (case k12 => k_is)
   (case a13 => k_is)
   (case l13 => k_is)
   (case c13 => k_is)
   (case k13 => k_is)
   (case a14 => k_is)
   (case l14 => k_is)
   (case c14 => k_is)
   (case k14 => k_is)
   (case a15 => k_is)
   (case l15 => k_is)
   (case c15 => k_is)
   (case k15 => k_is)
   (case a16 => k_is)
   (case l16 => k_is)
   (case c16 => k_is)
   (case k16 => k_is)
   (case a17 => k_is)
   (case l17 => k_is)
   (case c17 => k_is)
   (case k17 => k_is)
   (case a18 => k_is)
   (case l18 => k_is)
   (case c18 => k_is)
   (case k18 => k_is)
   (case n_NoText => k_is)
   (case q_NoText => k_exc)
   (case n_FIGURES => k_is)
   (case y_len => k_is)
   (case y_range => k_is)
   (case y_isinstance => k_is)
   (case y_bool => k_is)
   (case y_int => k_is)
   (case y_list => k_is)
   (case y_tuple => k_is)
   (case y_str => k_is)
   (case y_max => k_is)
   (case y_min => k_is)
