import PyProof.Rows.All
import Wide.All
import OpenK.AllK
import Wide.FinOn
import HandS.ForMost
import HandS.Walk
import HandS.Wide
import HandS.Gcd
import HandS.Zip
import HandS.IsInst
import HandS.ExcInit
import PyProof.ReprRoads
import PyProof.Rows.NestShow
import HandS.TupMul
import HandS.TupAny
import KE.GoesEnum
import KE.GoesZip
import PyProof.CallFns
import HandS.NoneIn
import HandS.Conv
import HandS.ExcOwn
import HandS.ExcField
import HandS.ExcValue
import KE.KExcIs
import PyProof.ReprDict
import HandS.Style
import PySem.Challenge.RW_everygust_k00_errors
import KE.KExcInit
import PyProof.InstStoreFacts
import KE.RegKIsAll
section
set_option Elab.async false
set_option linter.all false
set_option maxRecDepth 100000
/-! A layer of one's own: the readings of the hand layer, told over data alone. A frame tells which addresses may change (W) and what is kept of them (J); values are read as data (Dq) that never hangs on those addresses. -/
namespace Dl
open PySem L2

/-! ### frames -/
structure Fr where
  W : Addr → Prop
  J : Hp → Prop
  loc : ∀ H H', (∀ a, W a → H' a = H a) → J H → J H'
  dom : ∀ H a, J H → W a → H a ≠ none
abbrev Lk := Addr → Option HO
def Fr.lock (B : Fr) (O : Lk) : Fr where
  W := fun a => B.W a ∨ O a ≠ none
  J := fun H => B.J H ∧ ∀ a o, O a = some o → ¬ B.W a ∧ H a = some o
  loc := fun H H' e j => ⟨B.loc H H' (fun a w => e a (.inl w)) j.1, fun a o h => ⟨(j.2 a o h).1, by
    rw [e a (.inr (by rw [h]; exact nofun))]
    exact (j.2 a o h).2⟩⟩
  dom := fun H a j w => by
    rcases w with w | w
    · exact B.dom H a j.1 w
    · cases e : O a with
      | none => exact absurd e w
      | some o =>
        rw [(j.2 a o e).2]
        exact nofun
def Gro (F : Fr) (H H' : Hp) : Prop := (∀ a o, ¬ F.W a → H a = some o → H' a = some o) ∧ F.J H'
theorem Gro.refl {F : Fr} {H : Hp} (j : F.J H) : Gro F H H := ⟨fun _ _ _ e => e, j⟩
theorem Gro.trans {F : Fr} {H H1 H2 : Hp} (a : Gro F H H1) (b : Gro F H1 H2) : Gro F H H2 := ⟨fun x o w e => b.1 x o w (a.1 x o w e), b.2⟩
theorem Fr.fresh {F : Fr} {H : Hp} {p : Addr} (j : F.J H) (hp : H p = none) : ¬ F.W p := fun w => F.dom H p j w hp
theorem Gro.new {F : Fr} {H : Hp} {p : Addr} {o : HO} (j : F.J H) (hp : H p = none) : Gro F H (upd H p o) :=
  ⟨fun a u _ e => by rw [upd_ne (ne_of_none e hp)]; exact e, F.loc H _ (fun a w => upd_ne (fun z => Fr.fresh j hp (z ▸ w))) j⟩

/-! ### data -/
mutual
inductive Dq (W : Addr → Prop) (H : Hp) : V → PyData → Prop
  | non : Dq W H .non .none
  | bl (b : Bool) : Dq W H (.bl b) (.bool b)
  | int (i : Int) : Dq W H (.int i) (.int i)
  | str (x : Str) : Dq W H (.str x) (.str x)
  | lst {a : Addr} {xs : List V} {ds : List PyData} : ¬ W a → H a = some (.lst xs) → DqA W H xs ds → Dq W H (.ref a) (.list ds)
  | tup {a : Addr} {xs : List V} {ds : List PyData} : ¬ W a → H a = some (.tup xs) → DqA W H xs ds → Dq W H (.ref a) (.tuple ds)
  /-- a dict of one text -/
  | dct {a : Addr} {k : Str} {i : Int} : ¬ W a → H a = some (.dK [(.inr k, .int i)]) → Dq W H (.ref a) (.dict [(.str k, .int i)])
  /-- an exception of the class at C without a field of its own, with one -/
  | exc0 {a C : Addr} : ¬ W a → H a = some (exo a C none) → Dq W H (.ref a) (.dict [(.int (C : Int), .none)])
  | exc1 {a C e : Addr} {f : Str} {v : V} {d : PyData} : ¬ W a → ¬ W e → H a = some (exo a C (some e)) → H e = some (exd e [(f, v)]) → Dq W H v d → Dq W H (.ref a) (.dict [(.int (C : Int), .str f), (.none, d)])
inductive DqA (W : Addr → Prop) (H : Hp) : List V → List PyData → Prop
  | nil : DqA W H [] []
  | cons {v : V} {vs : List V} {d : PyData} {ds : List PyData} : Dq W H v d → DqA W H vs ds → DqA W H (v :: vs) (d :: ds)
end
section
variable {W W' : Addr → Prop} {H H' : Hp}
mutual
theorem Dq.to (k : ∀ a o, ¬ W a → H a = some o → ¬ W' a ∧ H' a = some o) : ∀ (d : PyData) (v : V), Dq W H v d → Dq W' H' v d
  | .none, _, h => by cases h; exact .non
  | .bool b, _, h => by cases h; exact .bl b
  | .int i, _, h => by cases h; exact .int i
  | .str x, _, h => by cases h; exact .str x
  | .list ds, _, h => by
    cases h with
    | lst w e r => exact .lst (k _ _ w e).1 (k _ _ w e).2 (DqA.to k ds _ r)
  | .tuple ds, _, h => by
    cases h with
    | tup w e r => exact .tup (k _ _ w e).1 (k _ _ w e).2 (DqA.to k ds _ r)
  | .dict kvs, _, h => by
    cases h with
    | exc0 w e => exact .exc0 (k _ _ w e).1 (k _ _ w e).2
    | dct w e => exact .dct (k _ _ w e).1 (k _ _ w e).2
    | exc1 w1 w2 e1 e2 q => exact .exc1 (k _ _ w1 e1).1 (k _ _ w2 e2).1 (k _ _ w1 e1).2 (k _ _ w2 e2).2 (Dq.to k _ _ q)
termination_by d _ _ => sizeOf d
theorem DqA.to (k : ∀ a o, ¬ W a → H a = some o → ¬ W' a ∧ H' a = some o) : ∀ (ds : List PyData) (vs : List V), DqA W H vs ds → DqA W' H' vs ds
  | [], _, h => by cases h; exact .nil
  | d :: ds, _, h => by
    cases h with
    | cons h1 h2 => exact .cons (Dq.to k d _ h1) (DqA.to k ds _ h2)
termination_by ds _ _ => sizeOf ds
end
mutual
/-- no exception in it -/
def NoX : PyData → Bool
  | .none => true
  | .bool _ => true
  | .int _ => true
  | .str _ => true
  | .list ds => NoXA ds
  | .tuple ds => NoXA ds
  | .dict _ => false
def NoXA : List PyData → Bool
  | [] => true
  | d :: ds => NoX d && NoXA ds
end
mutual
theorem Dq.dp (K : PySem.W.Frag) : ∀ (d : PyData) (v : V), NoX d = true → Dq W H v d → Dp K H v d
  | .none, _, _, h => by cases h; exact .non
  | .bool b, _, _, h => by cases h; exact .bl b
  | .int i, _, _, h => by cases h; exact .int i
  | .str x, _, _, h => by cases h; exact .str x
  | .list ds, _, n, h => by
    cases h with
    | lst w e r => exact .lst (SqL.of e) (DqA.dp K ds _ (by rw [NoX] at n; exact n) r)
  | .tuple ds, _, n, h => by
    cases h with
    | tup w e r => exact .tup (SqT.of e) (DqA.dp K ds _ (by rw [NoX] at n; exact n) r)
  | .dict _, _, n, _ => by rw [NoX] at n; cases n
theorem DqA.dp (K : PySem.W.Frag) : ∀ (ds : List PyData) (vs : List V), NoXA ds = true → DqA W H vs ds → DpAll K H vs ds
  | [], _, _, h => by cases h; exact .nil
  | d :: ds, _, n, h => by
    rw [NoXA] at n
    have n2 := Bool.and_eq_true_iff.mp n
    cases h with
    | cons h1 h2 => exact .cons (Dq.dp K d _ n2.1 h1) (DqA.dp K ds _ n2.2 h2)
end
mutual
theorem noX_lay : ∀ d : PyData, PyData.canLay0 d = true → NoX d = true
  | .none, _ => by rw [NoX]
  | .bool _, _ => by rw [NoX]
  | .int _, _ => by rw [NoX]
  | .str _, _ => by rw [NoX]
  | .list ds, h => by rw [PyData.canLay0] at h; rw [NoX]; exact noXA_lay ds h
  | .tuple ds, h => by rw [PyData.canLay0] at h; rw [NoX]; exact noXA_lay ds h
  | .dict _, h => by rw [PyData.canLay0] at h; cases h
theorem noXA_lay : ∀ ds : List PyData, PyData.canLayAll0 ds = true → NoXA ds = true
  | [], _ => by rw [NoXA]
  | d :: ds, h => by
    rw [PyData.canLayAll0] at h
    have h2 := Bool.and_eq_true_iff.mp h
    rw [NoXA, noX_lay d h2.1, noXA_lay ds h2.2]
    rfl
end
theorem noX_shaped {d : PyData} (h : SeqAt.shaped d = true) : NoX d = true := by
  unfold SeqAt.shaped at h
  exact noX_lay d (Bool.and_eq_true_iff.mp h).1
theorem Dq.gro {F : Fr} {v : V} {d : PyData} (h : Dq F.W H v d) (g : Gro F H H') : Dq F.W H' v d := Dq.to (fun a o w e => ⟨w, g.1 a o w e⟩) d v h
theorem DqA.gro {F : Fr} {vs : List V} {ds : List PyData} (h : DqA F.W H vs ds) (g : Gro F H H') : DqA F.W H' vs ds := DqA.to (fun a o w e => ⟨w, g.1 a o w e⟩) ds vs h
theorem DqA.len {vs : List V} {ds : List PyData} (h : DqA W H vs ds) : vs.length = ds.length := by
  induction ds generalizing vs with
  | nil => cases h; rfl
  | cons d ds ih =>
    cases h with
    | cons _ h2 => rw [List.length_cons, List.length_cons, ih h2]
theorem DqA.get {vs : List V} {ds : List PyData} (h : DqA W H vs ds) {i : Nat} {d : PyData} (e : ds[i]? = some d) : ∃ v, vs[i]? = some v ∧ Dq W H v d := by
  induction ds generalizing vs i with
  | nil => simp at e
  | cons c cs ih =>
    cases h with
    | cons h1 h2 =>
      cases i with
      | zero => simp at e; subst e; exact ⟨_, rfl, h1⟩
      | succ i =>
        obtain ⟨v, e1, e2⟩ := ih h2 (by simpa using e)
        exact ⟨v, by simpa using e1, e2⟩
theorem DqA.getV {vs : List V} {ds : List PyData} (h : DqA W H vs ds) {i : Nat} {v : V} (e : vs[i]? = some v) : ∃ d, ds[i]? = some d ∧ Dq W H v d := by
  have hl := h.len
  have hi : i < vs.length := (List.getElem?_eq_some_iff.mp e).1
  have e2 : ds[i]? = some ds[i] := List.getElem?_eq_getElem (by omega)
  obtain ⟨v', e3, q⟩ := h.get e2
  rw [e] at e3
  cases e3
  exact ⟨_, e2, q⟩
theorem DqA.append {vs us : List V} {ds es : List PyData} (h : DqA W H vs ds) (g : DqA W H us es) : DqA W H (vs ++ us) (ds ++ es) := by
  induction ds generalizing vs with
  | nil => cases h; exact g
  | cons c cs ih =>
    cases h with
    | cons h1 h2 => exact .cons h1 (ih h2)
theorem DqA.take {vs : List V} {ds : List PyData} (n : Nat) (h : DqA W H vs ds) : DqA W H (vs.take n) (ds.take n) := by
  induction ds generalizing vs n with
  | nil => cases h; simp; exact .nil
  | cons c cs ih =>
    cases h with
    | cons h1 h2 =>
      cases n with
      | zero => exact .nil
      | succ n => exact .cons h1 (ih n h2)
theorem DqA.drop {vs : List V} {ds : List PyData} (n : Nat) (h : DqA W H vs ds) : DqA W H (vs.drop n) (ds.drop n) := by
  induction ds generalizing vs n with
  | nil => cases h; simp; exact .nil
  | cons c cs ih =>
    cases h with
    | cons h1 h2 =>
      cases n with
      | zero => exact .cons h1 h2
      | succ n => exact ih n h2
theorem DqA.eraseIdx {vs : List V} {ds : List PyData} (n : Nat) (h : DqA W H vs ds) : DqA W H (vs.eraseIdx n) (ds.eraseIdx n) := by
  induction ds generalizing vs n with
  | nil => cases h; simp; exact .nil
  | cons c cs ih =>
    cases h with
    | cons h1 h2 =>
      cases n with
      | zero => exact h2
      | succ n => exact .cons h1 (ih n h2)
theorem DqA.ints {ns : List Int} : ∀ {vs : List V}, DqA W H vs (ns.map PyData.int) → vs = ns.map V.int := by
  induction ns with
  | nil => intro vs h; cases h; rfl
  | cons n ns ih =>
    intro vs h
    cases h with
    | cons h1 h2 => cases h1; rw [ih h2]; rfl
theorem DqA.bools {ns : List Bool} : ∀ {vs : List V}, DqA W H vs (ns.map PyData.bool) → vs = ns.map V.bl := by
  induction ns with
  | nil => intro vs h; cases h; rfl
  | cons n ns ih =>
    intro vs h
    cases h with
    | cons h1 h2 => cases h1; rw [ih h2]; rfl
theorem DqA.ofInts : ∀ (ns : List Int), DqA W H (ns.map V.int) (ns.map PyData.int)
  | [] => .nil
  | n :: ns => .cons (.int n) (DqA.ofInts ns)
end

/-! ### a def's names as data -/
/-- what may be said of a value and stays, as long as nothing but what is locked is changed -/
structure Stb where
  P : (Addr → Prop) → Hp → V → Prop
  to : ∀ {W W' : Addr → Prop} {H H' : Hp} {v : V}, (∀ a o, ¬ W a → H a = some o → ¬ W' a ∧ H' a = some o) → P W H v → P W' H' v
inductive Ent where
  | non
  | dat (d : PyData)
  | raw (v : V)
  | stb (p : Stb)
  | own (a : Addr) (ds : List PyData)
def owned : List Ent → List Addr
  | [] => []
  | .own a _ :: r => a :: owned r
  | .non :: r => owned r
  | .dat _ :: r => owned r
  | .raw _ :: r => owned r
  | .stb _ :: r => owned r
def SlotOk (W : Addr → Prop) (O : Lk) (H : Hp) (s : Option V) : Ent → Prop
  | .non => True
  | .dat d => ∃ v, s = some v ∧ Dq W H v d
  | .raw v => s = some v
  | .stb p => ∃ v, s = some v ∧ p.P W H v
  | .own a ds => s = some (.ref a) ∧ ∃ vs, O a = some (.lst vs) ∧ DqA W H vs ds
def Slots (W : Addr → Prop) (O : Lk) (H : Hp) : L2.St → List Ent → Prop
  | [], [] => True
  | s :: σ, e :: env => SlotOk W O H s e ∧ Slots W O H σ env
  | _, _ => False
section
variable {W W' : Addr → Prop} {O O' : Lk} {H H' : Hp}
theorem SlotOk.to (k : ∀ a o, ¬ W a → H a = some o → ¬ W' a ∧ H' a = some o) {s : Option V} {e : Ent} (hO : ∀ a ds, e = .own a ds → O' a = O a) (h : SlotOk W O H s e) : SlotOk W' O' H' s e := by
  cases e with
  | non => trivial
  | dat d => obtain ⟨v, e1, q⟩ := h; exact ⟨v, e1, q.to k⟩
  | raw v => exact h
  | stb p => obtain ⟨v, e1, q⟩ := h; exact ⟨v, e1, p.to k q⟩
  | own a ds => obtain ⟨e1, vs, e2, q⟩ := h; exact ⟨e1, vs, (hO a ds rfl).trans e2, q.to k⟩
theorem Slots.to (k : ∀ a o, ¬ W a → H a = some o → ¬ W' a ∧ H' a = some o) : ∀ {σ : L2.St} {env : List Ent}, (∀ a, a ∈ owned env → O' a = O a) → Slots W O H σ env → Slots W' O' H' σ env
  | [], [], _, _ => trivial
  | s :: σ, e :: env, hO, h => ⟨h.1.to k (fun a ds z => hO a (by subst z; exact List.mem_cons_self)), Slots.to k (fun a z => hO a (by cases e <;> first | exact z | exact List.mem_cons_of_mem _ z)) h.2⟩
  | [], _ :: _, _, h => h.elim
  | _ :: _, [], _, h => h.elim
theorem Slots.get : ∀ {σ : L2.St} {env : List Ent} {i : Nat} {e : Ent}, Slots W O H σ env → env[i]? = some e → ∃ s, σ[i]? = some s ∧ SlotOk W O H s e
  | [], [], _, _, _, z => by simp at z
  | s :: σ, c :: env, 0, e, h, z => by simp at z; subst z; exact ⟨s, rfl, h.1⟩
  | s :: σ, c :: env, i + 1, e, h, z => by
    obtain ⟨s', e1, q⟩ := Slots.get (i := i) (e := e) h.2 (by simpa using z)
    exact ⟨s', by simpa using e1, q⟩
  | [], _ :: _, _, _, h, _ => h.elim
  | _ :: _, [], _, _, h, _ => h.elim
theorem Slots.set : ∀ {σ : L2.St} {env : List Ent} (i : Nat) {s : Option V} {e : Ent}, Slots W O H σ env → SlotOk W O H s e → Slots W O H (σ.set i s) (env.set i e)
  | [], [], _, _, _, h, _ => h
  | c :: σ, b :: env, 0, s, e, h, z => ⟨z, h.2⟩
  | c :: σ, b :: env, i + 1, s, e, h, z => ⟨h.1, Slots.set i h.2 z⟩
  | [], _ :: _, _, _, _, h, _ => h.elim
  | _ :: _, [], _, _, _, h, _ => h.elim
end
theorem owned_get : ∀ {env : List Ent} {i : Nat} {a : Addr} {ds : List PyData}, env[i]? = some (.own a ds) → a ∈ owned env
  | c :: env, 0, a, ds, e => by simp at e; subst e; exact List.mem_cons_self
  | c :: env, i + 1, a, ds, e => by
    have q := owned_get (env := env) (i := i) (a := a) (ds := ds) (by simpa using e)
    cases c <;> first | exact q | exact List.mem_cons_of_mem _ q
  | [], _, _, _, e => by simp at e
/-- a slot that holds no list of one's own is stored -/
theorem owned_set_sub : ∀ {env : List Ent} (i : Nat) {e : Ent}, (∀ a ds, e ≠ .own a ds) → ∀ a, a ∈ owned (env.set i e) → a ∈ owned env
  | [], _, _, _, a, h => h
  | c :: env, 0, e, he, a, h => by
    have h' : a ∈ owned env := by
      cases e with
      | own b ds => exact absurd rfl (he b ds)
      | non => exact h
      | dat d => exact h
      | raw v => exact h
      | stb p => exact h
    cases c <;> first | exact h' | exact List.mem_cons_of_mem _ h'
  | c :: env, i + 1, e, he, a, h => by
    cases c with
    | own b ds =>
      rcases List.mem_cons.mp (show a ∈ b :: owned (env.set i e) from h) with z | z
      · exact z ▸ List.mem_cons_self
      · exact List.mem_cons_of_mem _ (owned_set_sub i he a z)
    | non => exact owned_set_sub (env := env) i he a h
    | dat d => exact owned_set_sub (env := env) i he a h
    | raw v => exact owned_set_sub (env := env) i he a h
    | stb p => exact owned_set_sub (env := env) i he a h
theorem owned_set_nd : ∀ {env : List Ent} (i : Nat) {e : Ent}, (∀ a ds, e ≠ .own a ds) → (owned env).Nodup → (owned (env.set i e)).Nodup
  | [], _, _, _, h => h
  | c :: env, 0, e, he, h => by
    have h' : (owned env).Nodup := by cases c <;> first | exact h | exact (List.nodup_cons.mp h).2
    cases e with
    | own b ds => exact absurd rfl (he b ds)
    | non => exact h'
    | dat d => exact h'
    | raw v => exact h'
    | stb p => exact h'
  | c :: env, i + 1, e, he, h => by
    cases c with
    | own b ds =>
      have q := List.nodup_cons.mp (show (b :: owned env).Nodup from h)
      exact List.nodup_cons.mpr ⟨fun z => q.1 (owned_set_sub i he b z), owned_set_nd i he q.2⟩
    | non => exact owned_set_nd (env := env) i he h
    | dat d => exact owned_set_nd (env := env) i he h
    | raw v => exact owned_set_nd (env := env) i he h
    | stb p => exact owned_set_nd (env := env) i he h
/-- .. a list of one's own, new or in the place of itself -/
theorem owned_set_own : ∀ {env : List Ent} (i : Nat) {b : Addr} {ds : List PyData} (a : Addr), a ∈ owned (env.set i (.own b ds)) → a = b ∨ a ∈ owned env
  | [], _, _, _, a, h => .inr h
  | c :: env, 0, b, ds, a, h => by
    rcases List.mem_cons.mp (show a ∈ b :: owned env from h) with z | z
    · exact .inl z
    · right
      cases c <;> first | exact z | exact List.mem_cons_of_mem _ z
  | c :: env, i + 1, b, ds, a, h => by
    cases c with
    | own b' ds' =>
      rcases List.mem_cons.mp (show a ∈ b' :: owned (env.set i (.own b ds)) from h) with z | z
      · exact .inr (z ▸ List.mem_cons_self)
      · rcases owned_set_own i a z with q | q
        · exact .inl q
        · exact .inr (List.mem_cons_of_mem _ q)
    | non => exact owned_set_own (env := env) i a h
    | dat d => exact owned_set_own (env := env) i a h
    | raw v => exact owned_set_own (env := env) i a h
    | stb p => exact owned_set_own (env := env) i a h
theorem owned_set_own_nd : ∀ {env : List Ent} (i : Nat) {b : Addr} {ds : List PyData}, (b ∉ owned env ∨ ∃ es, env[i]? = some (.own b es)) → (owned env).Nodup → (owned (env.set i (.own b ds))).Nodup
  | [], _, _, _, _, h => h
  | c :: env, 0, b, ds, hb, h => by
    have h' : (owned env).Nodup := by cases c <;> first | exact h | exact (List.nodup_cons.mp h).2
    refine List.nodup_cons.mpr ⟨?_, h'⟩
    rcases hb with hb | ⟨es, hb⟩
    · intro z
      apply hb
      cases c <;> first | exact z | exact List.mem_cons_of_mem _ z
    · have e : c = .own b es := by simpa using hb
      subst e
      exact (List.nodup_cons.mp h).1
  | c :: env, i + 1, b, ds, hb, h => by
    have hb' : (b ∉ owned env ∨ ∃ es, env[i]? = some (.own b es)) := by
      rcases hb with hb | ⟨es, hb⟩
      · left; intro z; apply hb; cases c <;> first | exact z | exact List.mem_cons_of_mem _ z
      · exact .inr ⟨es, by simpa using hb⟩
    cases c with
    | own b' ds' =>
      have q := List.nodup_cons.mp (show (b' :: owned env).Nodup from h)
      refine List.nodup_cons.mpr ⟨fun z => ?_, owned_set_own_nd i hb' q.2⟩
      rcases owned_set_own i b' z with r | r
      · subst r
        rcases hb with hb | ⟨es, hb⟩
        · exact hb List.mem_cons_self
        · exact q.1 (owned_get (i := i) (by simpa using hb))
      · exact q.1 r
    | non => exact owned_set_own_nd (env := env) i hb' h
    | dat d => exact owned_set_own_nd (env := env) i hb' h
    | raw v => exact owned_set_own_nd (env := env) i hb' h
    | stb p => exact owned_set_own_nd (env := env) i hb' h
theorem Slots.own_in {W : Addr → Prop} {O : Lk} {H : Hp} : ∀ {σ : L2.St} {env : List Ent} {a : Addr}, Slots W O H σ env → a ∈ owned env → O a ≠ none
  | [], [], _, _, z => by simp [owned] at z
  | s :: σ, c :: env, a, h, z => by
    cases c with
    | own b ds =>
      rcases List.mem_cons.mp (show a ∈ b :: owned env from z) with q | q
      · subst q
        obtain ⟨_, vs, e, _⟩ := h.1
        rw [e]; exact nofun
      · exact Slots.own_in h.2 q
    | non => exact Slots.own_in (env := env) h.2 z
    | dat d => exact Slots.own_in (env := env) h.2 z
    | raw v => exact Slots.own_in (env := env) h.2 z
    | stb p => exact Slots.own_in (env := env) h.2 z
  | [], _ :: _, _, h, _ => h.elim
  | _ :: _, [], _, h, _ => h.elim

/-! ### expressions -/
def EW (B : Fr) (env : List Ent) (te : TE) (Q : PyData → Prop) : Prop := ∀ (O : Lk) (σ : L2.St) (H : Hp), (B.lock O).J H → Slots (B.lock O).W O H σ env → ∀ R : VK,
  (∀ d v H2, Q d → Gro (B.lock O) H H2 → Dq (B.lock O).W H2 v d → R v H2) → te σ H R
def TW (B : Fr) (env : List Ent) (tt : TT) (Q : Bool → Prop) : Prop := ∀ (O : Lk) (σ : L2.St) (H : Hp), (B.lock O).J H → Slots (B.lock O).W O H σ env → ∀ R : Bool → Hp → Prop,
  (∀ b H2, Q b → Gro (B.lock O) H H2 → R b H2) → tt σ H R
def EA (B : Fr) (env : List Ent) (ta : TA) (Q : List Ent → Prop) : Prop := ∀ (O : Lk) (σ : L2.St) (H : Hp), (B.lock O).J H → Slots (B.lock O).W O H σ env → ∀ R : List V → Hp → Prop,
  (∀ es vs H2, Q es → Gro (B.lock O) H H2 → Slots (B.lock O).W O H2 (vs.map some) es → R vs H2) → ta σ H R
section
variable {B : Fr} {env : List Ent} {te ta tb : TE} {tt tu : TT} {Q : PyData → Prop}
theorem Slots.gro {B : Fr} {O : Lk} {H H' : Hp} {σ : L2.St} {env : List Ent} (h : Slots (B.lock O).W O H σ env) (g : Gro (B.lock O) H H') : Slots (B.lock O).W O H' σ env :=
  h.to (fun a o w e => ⟨w, g.1 a o w e⟩) (fun _ _ => rfl)
theorem EW.mono {Q' : PyData → Prop} (h : EW B env te Q) (q : ∀ d, Q d → Q' d) : EW B env te Q' := fun O σ H j s R r => h O σ H j s R fun d v H2 a => r d v H2 (q d a)
theorem TW.mono {P P' : Bool → Prop} (h : TW B env tt P) (q : ∀ d, P d → P' d) : TW B env tt P' := fun O σ H j s R r => h O σ H j s R fun d H2 a => r d H2 (q d a)
theorem ew_var {i : Nat} {d : PyData} (h : env[i]? = some (.dat d)) (q : Q d) : EW B env (tVar i) Q := fun O σ H j s R r => by
  obtain ⟨s', e, v, e2, k⟩ := s.get h
  subst e2
  exact ⟨v, e, r d v H q (.refl j) k⟩
theorem ew_int {i : Int} (q : Q (.int i)) : EW B env (tC (.int i)) Q := fun O σ H j s R r => r _ _ H q (.refl j) (.int i)
theorem ew_bl {b : Bool} (q : Q (.bool b)) : EW B env (tC (.bl b)) Q := fun O σ H j s R r => r _ _ H q (.refl j) (.bl b)
theorem ew_str {x : Str} (q : Q (.str x)) : EW B env (tC (.str x)) Q := fun O σ H j s R r => r _ _ H q (.refl j) (.str x)
theorem ew_non (q : Q .none) : EW B env (tC .non) Q := fun O σ H j s R r => r _ _ H q (.refl j) .non
theorem ea_nil {Q : List Ent → Prop} (q : Q []) : EA B env tNil Q := fun O σ H j s R r => r [] [] H q (.refl j) trivial
theorem ea_cons {tr : TA} {Q : List Ent → Prop} (h : EW B env te fun d => EA B env tr fun es => Q (.dat d :: es)) : EA B env (tCons te tr) Q := fun O σ H j s R r =>
  h O σ H j s _ fun d v H2 q g k => q O σ H2 g.2 (s.gro g) _ fun es vs H3 q3 g3 k3 => r _ _ H3 q3 (g.trans g3) ⟨⟨v, rfl, k.gro g3⟩, k3⟩
/-- an argument that is handed on as it is: the source -/
theorem ea_raw {i : Nat} {v : V} {tr : TA} {Q : List Ent → Prop} (e : env[i]? = some (.raw v)) (h : EA B env tr fun es => Q (.raw v :: es)) : EA B env (tCons (tVar i) tr) Q := fun O σ H j s R r => by
  obtain ⟨s', e1, k⟩ := s.get e
  cases (show s' = some v from k)
  exact ⟨v, e1, h O σ H j s _ fun es vs H3 q3 g3 k3 => r _ _ H3 q3 g3 ⟨rfl, k3⟩⟩
def dats (ds : List PyData) : List Ent := ds.map .dat
theorem slots_dats {W : Addr → Prop} {O : Lk} {H : Hp} : ∀ {vs : List V} {ds : List PyData}, Slots W O H (vs.map some) (dats ds) → DqA W H vs ds
  | [], [], _ => .nil
  | v :: vs, d :: ds, h => by
    obtain ⟨⟨v', e, k⟩, h2⟩ := h
    cases e
    exact .cons k (slots_dats h2)
  | [], _ :: _, h => h.elim
  | _ :: _, [], h => h.elim
/-- the arguments are data -/
def AllD (Q : List PyData → Prop) (es : List Ent) : Prop := ∃ ds, es = dats ds ∧ Q ds
theorem AllD.nil {Q : List PyData → Prop} (q : Q []) : AllD Q [] := ⟨[], rfl, q⟩
theorem AllD.cons {Q : List PyData → Prop} {d : PyData} {es : List Ent} (h : AllD (fun ds => Q (d :: ds)) es) : AllD Q (.dat d :: es) := by
  obtain ⟨ds, e, q⟩ := h
  subst e
  exact ⟨d :: ds, rfl, q⟩
theorem ew_tup {t : TA} (h : EA B env t (AllD fun ds => ds.length ≤ 100000 ∧ Q (.tuple ds))) : EW B env (tTup t) Q := fun O σ H j s R r =>
  h O σ H j s _ fun es vs H2 ⟨ds, e, hl, q⟩ g k => by
    subst e
    have kk := slots_dats k
    refine ⟨by rw [kk.len]; exact Nat.le_trans hl (by decide), fun p hp => ?_⟩
    have g2 : Gro (B.lock O) H2 (upd H2 p (.tup vs)) := .new g.2 hp
    exact r _ _ _ q (g.trans g2) (.tup (Fr.fresh g.2 hp) upd_same (kk.gro g2))
theorem ew_lst {t : TA} (h : EA B env t (AllD fun ds => ds.length ≤ 100000 ∧ Q (.list ds))) : EW B env (tLst t) Q := fun O σ H j s R r =>
  h O σ H j s _ fun es vs H2 ⟨ds, e, hl, q⟩ g k => by
    subst e
    have kk := slots_dats k
    refine ⟨by rw [kk.len]; exact Nat.le_trans hl (by decide), fun p hp => ?_⟩
    have g2 : Gro (B.lock O) H2 (upd H2 p (.lst vs)) := .new g.2 hp
    exact r _ _ _ q (g.trans g2) (.lst (Fr.fresh g.2 hp) upd_same (kk.gro g2))

/-! operations by data -/
def OD (r : R2) (x y : PyData) (Q : PyData → Prop) : Prop := ∀ (F : Fr) (H : Hp) (u v : V), F.J H → Dq F.W H u x → Dq F.W H v y → ∀ R : VK, (∀ d w H2, Q d → Gro F H H2 → Dq F.W H2 w d → R w H2) → r u v H R
def UD (r : V → Hp → VK → Prop) (x : PyData) (Q : PyData → Prop) : Prop := ∀ (F : Fr) (H : Hp) (u : V), F.J H → Dq F.W H u x → ∀ R : VK, (∀ d w H2, Q d → Gro F H H2 → Dq F.W H2 w d → R w H2) → r u H R
def CD (r : List V → Hp → VK → Prop) (ds : List PyData) (Q : PyData → Prop) : Prop := ∀ (F : Fr) (H : Hp) (vs : List V), F.J H → DqA F.W H vs ds → ∀ R : VK, (∀ d w H2, Q d → Gro F H H2 → Dq F.W H2 w d → R w H2) → r vs H R
theorem ew_op {r : R2} (h : EW B env ta fun x => EW B env tb fun y => OD r x y Q) : EW B env (tOp r ta tb) Q := fun O σ H j s R k =>
  h O σ H j s _ fun x u H2 q g kx => q O σ H2 g.2 (s.gro g) _ fun y v H3 q3 g3 ky => q3 (B.lock O) H3 u v g3.2 (kx.gro g3) ky R fun d w H4 qd g4 kd => k d w H4 qd ((g.trans g3).trans g4) kd
theorem ew_un {r : V → Hp → VK → Prop} (h : EW B env ta fun x => UD r x Q) : EW B env (tUn r ta) Q := fun O σ H j s R k =>
  h O σ H j s _ fun x u H2 q g kx => q (B.lock O) H2 u g.2 kx R fun d w H4 qd g4 kd => k d w H4 qd (g.trans g4) kd
theorem ew_cb {r : List V → Hp → VK → Prop} {t : TA} (h : EA B env t (AllD fun ds => CD r ds Q)) : EW B env (tCB r t) Q := fun O σ H j s R k =>
  h O σ H j s _ fun es vs H2 ⟨ds, e, q⟩ g kx => by
    subst e
    exact q (B.lock O) H2 vs g.2 (slots_dats kx) R fun d w H4 qd g4 kd => k d w H4 qd (g.trans g4) kd
theorem od_I0 {f : Int → Int → Int} {x y : PyData} (h : ∃ i j, x = .int i ∧ y = .int j ∧ Q (.int (f i j))) : OD (rI0 fun i j => V.int (f i j)) x y Q := fun F H u v j kx ky R r => by
  obtain ⟨i, k, rfl, rfl, q⟩ := h
  cases kx
  cases ky
  exact ⟨i, k, rfl, rfl, r _ _ H q (.refl j) (.int _)⟩
theorem od_I {f : Int → Int → Int} {C : Int → Int → Prop} {x y : PyData} (h : ∃ i j, x = .int i ∧ y = .int j ∧ C i j ∧ Q (.int (f i j))) : OD (rI C fun i j => V.int (f i j)) x y Q := fun F H u v j kx ky R r => by
  obtain ⟨i, k, rfl, rfl, c, q⟩ := h
  cases kx
  cases ky
  exact ⟨i, k, rfl, rfl, c, r _ _ H q (.refl j) (.int _)⟩
theorem od_B0 {f : Int → Int → Bool} {x y : PyData} (h : ∃ i j, x = .int i ∧ y = .int j ∧ Q (.bool (f i j))) : OD (rI0 fun i j => V.bl (f i j)) x y Q := fun F H u v j kx ky R r => by
  obtain ⟨i, k, rfl, rfl, q⟩ := h
  cases kx
  cases ky
  exact ⟨i, k, rfl, rfl, r _ _ H q (.refl j) (.bl _)⟩
theorem ud_I {f : Int → Int} {x : PyData} (h : ∃ i, x = .int i ∧ Q (.int (f i))) : UD (rU fun i => V.int (f i)) x Q := fun F H u j kx R r => by
  obtain ⟨i, rfl, q⟩ := h
  cases kx
  exact ⟨i, rfl, r _ _ H q (.refl j) (.int _)⟩
theorem od_eqI {x y : PyData} (h : ∃ i j, x = .int i ∧ y = .int j ∧ Q (.bool (decide (i = j)))) : OD rEq x y Q := fun F H u v j kx ky R r => by
  obtain ⟨i, k, rfl, rfl, q⟩ := h
  cases kx
  cases ky
  refine ⟨rfl, ?_⟩
  have e : decide (V.int i = V.int k) = decide (i = k) := by rw [decide_eq_decide]; constructor <;> intro z <;> first | (cases z; rfl) | rw [z]
  rw [e]
  exact r _ _ H q (.refl j) (.bl _)
theorem od_neI {x y : PyData} (h : ∃ i j, x = .int i ∧ y = .int j ∧ Q (.bool (!decide (i = j)))) : OD rNe x y Q := fun F H u v j kx ky R r => by
  obtain ⟨i, k, rfl, rfl, q⟩ := h
  cases kx
  cases ky
  refine ⟨rfl, ?_⟩
  have e : decide (V.int i = V.int k) = decide (i = k) := by rw [decide_eq_decide]; constructor <;> intro z <;> first | (cases z; rfl) | rw [z]
  rw [e]
  exact r _ _ H q (.refl j) (.bl _)
theorem od_eqS {x y : PyData} (h : ∃ i j, x = .str i ∧ y = .str j ∧ Q (.bool (decide (i = j)))) : OD rEq x y Q := fun F H u v j kx ky R r => by
  obtain ⟨i, k, rfl, rfl, q⟩ := h
  cases kx
  cases ky
  refine ⟨rfl, ?_⟩
  have e : decide (V.str i = V.str k) = decide (i = k) := by rw [decide_eq_decide]; constructor <;> intro z <;> first | (cases z; rfl) | rw [z]
  rw [e]
  exact r _ _ H q (.refl j) (.bl _)
theorem od_neS {x y : PyData} (h : ∃ i j, x = .str i ∧ y = .str j ∧ Q (.bool (!decide (i = j)))) : OD rNe x y Q := fun F H u v j kx ky R r => by
  obtain ⟨i, k, rfl, rfl, q⟩ := h
  cases kx
  cases ky
  refine ⟨rfl, ?_⟩
  have e : decide (V.str i = V.str k) = decide (i = k) := by rw [decide_eq_decide]; constructor <;> intro z <;> first | (cases z; rfl) | rw [z]
  rw [e]
  exact r _ _ H q (.refl j) (.bl _)
theorem at_map {xs : List V} {ds : List PyData} {W : Addr → Prop} {H : Hp} (k : DqA W H xs ds) {i : Int} {d : PyData} (e : atI ds i = some d) : ∃ v, atI xs i = some v ∧ Dq W H v d := by
  unfold atI at e ⊢
  rw [k.len]
  cases hq : ixN ds.length i with
  | none => rw [hq] at e; cases e
  | some n =>
    rw [hq] at e
    exact k.get e
/-- t[i], a tuple or a list -/
theorem od_ixT {K : PySem.W.Frag} {x y : PyData} (h : ∃ ds i d, x = .tuple ds ∧ y = .int i ∧ atI ds i = some d ∧ Q d) : OD (rIxT K) x y Q := fun F H u v j kx ky R r => by
  obtain ⟨ds, i, d, rfl, rfl, e, q⟩ := h
  cases ky
  cases kx with
  | tup w hs ha =>
    obtain ⟨z, e2, kz⟩ := at_map ha e
    exact ⟨_, _, i, z, rfl, rfl, SqT.of hs, e2, r d z H q (.refl j) kz⟩
theorem od_ixL {K : PySem.W.Frag} {x y : PyData} (h : ∃ ds i d, x = .list ds ∧ y = .int i ∧ atI ds i = some d ∧ Q d) : OD (rIxL K) x y Q := fun F H u v j kx ky R r => by
  obtain ⟨ds, i, d, rfl, rfl, e, q⟩ := h
  cases ky
  cases kx with
  | lst w hs ha =>
    obtain ⟨z, e2, kz⟩ := at_map ha e
    exact ⟨_, _, i, z, rfl, rfl, SqL.of hs, e2, r d z H q (.refl j) kz⟩
def itemsOf : PyData → Option (List PyData)
  | .list ds => some ds
  | .tuple ds => some ds
  | _ => none
theorem od_ix {K : PySem.W.Frag} {x y : PyData} (h : ∃ ds i d, itemsOf x = some ds ∧ y = .int i ∧ atI ds i = some d ∧ Q d) : OD (rIx K) x y Q := fun F H u v j kx ky R r => by
  obtain ⟨ds, i, d, hx, rfl, e, q⟩ := h
  cases x with
  | list xs => cases hx; exact .inl (od_ixL ⟨ds, i, d, rfl, rfl, e, q⟩ F H u v j kx ky R r)
  | tuple xs => cases hx; exact .inr (.inl (od_ixT ⟨ds, i, d, rfl, rfl, e, q⟩ F H u v j kx ky R r))
  | none => cases hx
  | bool _ => cases hx
  | int _ => cases hx
  | str _ => cases hx
  | dict _ => cases hx
end

/-! ### tests -/
section
variable {B : Fr} {env : List Ent} {te ta tb : TE} {tt tu : TT} {Q : Bool → Prop}
theorem tw_test (h : EW B env te fun d => ∃ b, d = .bool b ∧ Q b) : TW B env (tTest te) Q := fun O σ H j s R r =>
  h O σ H j s _ fun d v H2 ⟨b, e, q⟩ g k => by
    subst e
    cases k
    exact ⟨b, rfl, r b H2 q g⟩
theorem tw_B (h : EW B env te fun d => ∃ b, d = .bool b ∧ Q b) : TW B env (tB te) Q := tw_test h
theorem tw_and (h : TW B env tt fun b => if b = true then TW B env tu Q else Q false) : TW B env (tAnd tt tu) Q := fun O σ H j s R r =>
  h O σ H j s _ fun b H2 q g => by
    cases b with
    | true => exact q O σ H2 g.2 (s.gro g) R fun b H3 q3 g3 => r b H3 q3 (g.trans g3)
    | false => exact r false H2 q g
theorem tw_or (h : TW B env tt fun b => if b = true then Q true else TW B env tu Q) : TW B env (tOr tt tu) Q := fun O σ H j s R r =>
  h O σ H j s _ fun b H2 q g => by
    cases b with
    | false => exact q O σ H2 g.2 (s.gro g) R fun b H3 q3 g3 => r b H3 q3 (g.trans g3)
    | true => exact r true H2 q g
theorem tw_not (h : TW B env tt fun b => Q (!b)) : TW B env (tNot tt) Q := fun O σ H j s R r => h O σ H j s _ fun b H2 q g => r _ H2 q g
theorem tw_yes (h : Q true) : TW B env tYes Q := fun O σ H j s R r => r true H h (.refl j)
variable {P : PyData → Prop}
theorem ew_if (h : TW B env tt fun b => if b = true then EW B env ta P else EW B env tb P) : EW B env (tIf tt ta tb) P := fun O σ H j s R r =>
  h O σ H j s _ fun b H2 q g => by
    cases b with
    | true => exact q O σ H2 g.2 (s.gro g) R fun d v H3 q3 g3 k => r d v H3 q3 (g.trans g3) k
    | false => exact q O σ H2 g.2 (s.gro g) R fun d v H3 q3 g3 k => r d v H3 q3 (g.trans g3) k
theorem ew_isN (h : EW B env ta fun x => P (.bool (match x with | .none => true | _ => false))) : EW B env (tIsN ta) P := fun O σ H j s R r =>
  h O σ H j s _ fun d v H2 q g k => by
    cases k <;> exact r _ _ H2 q g (.bl _)
theorem ew_andV (h : EW B env ta fun x => ∃ b, x = .bool b ∧ if b = true then EW B env tb P else P (.bool false)) : EW B env (tAndV ta tb) P := fun O σ H j s R r =>
  h O σ H j s _ fun d v H2 ⟨b, e, q⟩ g k => by
    subst e
    cases k
    refine ⟨b, rfl, ?_⟩
    cases b with
    | true => exact q O σ H2 g.2 (s.gro g) R fun d v H3 q3 g3 k => r d v H3 q3 (g.trans g3) k
    | false => exact r _ _ H2 q g (.bl _)
theorem ew_orV (h : EW B env ta fun x => ∃ b, x = .bool b ∧ if b = true then P (.bool true) else EW B env tb P) : EW B env (tOrV ta tb) P := fun O σ H j s R r =>
  h O σ H j s _ fun d v H2 ⟨b, e, q⟩ g k => by
    subst e
    cases k
    refine ⟨b, rfl, ?_⟩
    cases b with
    | false => exact q O σ H2 g.2 (s.gro g) R fun d v H3 q3 g3 k => r d v H3 q3 (g.trans g3) k
    | true => exact r _ _ H2 q g (.bl _)
theorem ew_notV (h : EW B env ta fun x => ∃ b, x = .bool b ∧ P (.bool (!b))) : EW B env (tNotV ta) P := fun O σ H j s R r =>
  h O σ H j s _ fun d v H2 ⟨b, e, q⟩ g k => by
    subst e
    cases k
    exact ⟨b, rfl, r _ _ H2 q g (.bl _)⟩
end

/-! ### built-ins by data -/
section
variable {K : PySem.W.Frag} {Q : PyData → Prop} {ds : List PyData}
theorem cd_len (h : ∃ x xs, ds = [x] ∧ itemsOf x = some xs ∧ Q (.int xs.length)) : CD (fun vs H R => ∃ p ys, vs = [V.ref p] ∧ (SqL K H p ys ∨ SqT K H p ys) ∧ R (V.int ys.length) H) ds Q := fun F H vs j k R r => by
  obtain ⟨x, xs, rfl, hx, q⟩ := h
  cases k with
  | cons k1 k2 =>
    cases k2
    cases k1 with
    | lst w e ha =>
      cases hx
      refine ⟨_, _, rfl, .inl (SqL.of e), ?_⟩
      rw [ha.len]
      exact r _ _ H q (.refl j) (.int _)
    | tup w e ha =>
      cases hx
      refine ⟨_, _, rfl, .inr (SqT.of e), ?_⟩
      rw [ha.len]
      exact r _ _ H q (.refl j) (.int _)
    | non => cases hx
    | bl _ => cases hx
    | int _ => cases hx
    | str _ => cases hx
    | exc0 _ _ => cases hx
    | dct _ _ => cases hx
    | exc1 _ _ _ _ _ => cases hx
theorem cd_tuple (h : ∃ x xs, ds = [x] ∧ itemsOf x = some xs ∧ Q (.tuple xs)) : CD (fun vs H R => ∃ p ys, vs = [V.ref p] ∧ ((SqL K H p ys ∧ ∀ l : Addr, H l = none → R (V.ref l) (upd H l (HO.tup ys))) ∨ SqT K H p ys ∧ R (V.ref p) H)) ds Q := fun F H vs j k R r => by
  obtain ⟨x, xs, rfl, hx, q⟩ := h
  cases k with
  | cons k1 k2 =>
    cases k2
    cases k1 with
    | @lst _ vl _ w e ha =>
      cases hx
      refine ⟨_, _, rfl, .inl ⟨SqL.of e, fun l hl => ?_⟩⟩
      have g : Gro F H (upd H l (.tup vl)) := .new j hl
      exact r _ _ _ q g (.tup (Fr.fresh j hl) upd_same (ha.gro g))
    | tup w e ha =>
      cases hx
      exact ⟨_, _, rfl, .inr ⟨SqT.of e, r _ _ H q (.refl j) (.tup w e ha)⟩⟩
    | non => cases hx
    | bl _ => cases hx
    | int _ => cases hx
    | str _ => cases hx
    | exc0 _ _ => cases hx
    | dct _ _ => cases hx
    | exc1 _ _ _ _ _ => cases hx
theorem cd_list (h : ∃ x xs, ds = [x] ∧ itemsOf x = some xs ∧ Q (.list xs)) : CD (fun vs H R => ∃ p ys, vs = [V.ref p] ∧ (SqL K H p ys ∨ SqT K H p ys) ∧ ∀ l : Addr, H l = none → R (V.ref l) (upd H l (HO.lst ys))) ds Q := fun F H vs j k R r => by
  obtain ⟨x, xs, rfl, hx, q⟩ := h
  cases k with
  | cons k1 k2 =>
    cases k2
    cases k1 with
    | @lst _ vl _ w e ha =>
      cases hx
      refine ⟨_, _, rfl, .inl (SqL.of e), fun l hl => ?_⟩
      have g : Gro F H (upd H l (.lst vl)) := .new j hl
      exact r _ _ _ q g (.lst (Fr.fresh j hl) upd_same (ha.gro g))
    | @tup _ vl _ w e ha =>
      cases hx
      refine ⟨_, _, rfl, .inr (SqT.of e), fun l hl => ?_⟩
      have g : Gro F H (upd H l (.lst vl)) := .new j hl
      exact r _ _ _ q g (.lst (Fr.fresh j hl) upd_same (ha.gro g))
    | non => cases hx
    | bl _ => cases hx
    | int _ => cases hx
    | str _ => cases hx
    | exc0 _ _ => cases hx
    | dct _ _ => cases hx
    | exc1 _ _ _ _ _ => cases hx
theorem cd_abs (h : ∃ i, ds = [.int i] ∧ Q (.int (if i < 0 then -i else i))) : CD (fun vs H R => ∃ i, vs = [V.int i] ∧ R (V.int (if i < 0 then -i else i)) H) ds Q := fun F H vs j k R r => by
  obtain ⟨i, rfl, q⟩ := h
  cases k with
  | cons k1 k2 =>
    cases k2
    cases k1
    exact ⟨i, rfl, r _ _ H q (.refl j) (.int _)⟩
theorem cd_int1 (h : ∃ i, ds = [.int i] ∧ Q (.int i)) : CD (fun vs H R => (∃ i, vs = [V.int i] ∧ R (V.int i) H) ∨ ∃ k, vs = [V.bl k] ∧ R (V.int (if k = true then 1 else 0)) H) ds Q := fun F H vs j k R r => by
  obtain ⟨i, rfl, q⟩ := h
  cases k with
  | cons k1 k2 =>
    cases k2
    cases k1
    exact .inl ⟨i, rfl, r _ _ H q (.refl j) (.int _)⟩
theorem cd_max2 (h : ∃ i k, ds = [.int i, .int k] ∧ Q (.int (if k > i then k else i))) : CD (fun vs H R => ∃ i j, vs = [V.int i, V.int j] ∧ R (V.int (if j > i then j else i)) H) ds Q := fun F H vs j k R r => by
  obtain ⟨a, b, rfl, q⟩ := h
  cases k with
  | cons k1 k2 =>
    cases k2 with
    | cons k2 k3 =>
      cases k3
      cases k1
      cases k2
      exact ⟨a, b, rfl, r _ _ H q (.refl j) (.int _)⟩
theorem cd_gcd (h : ∃ a b : Int, ds = [.int a, .int b] ∧ Q (.int ((Nat.gcd a.natAbs b.natAbs : Nat) : Int))) : CD rGcd ds Q := fun F H vs j k R r => by
  obtain ⟨a, b, rfl, q⟩ := h
  cases k with
  | cons k1 k2 =>
    cases k2 with
    | cons k2 k3 =>
      cases k3
      cases k1
      cases k2
      exact ⟨a, b, rfl, r _ _ H q (.refl j) (.int _)⟩
theorem cd_sum (h : ∃ ns : List Int, ds = [.list (ns.map PyData.int)] ∧ Q (.int ns.sum)) : CD (rSum K) ds Q := fun F H vs j k R r => by
  obtain ⟨ns, rfl, q⟩ := h
  cases k with
  | cons k1 k2 =>
    cases k2
    cases k1 with
    | lst w e ha =>
      have z := ha.ints
      subst z
      exact ⟨_, ns, rfl, SqL.of e, r _ _ H q (.refl j) (.int _)⟩
theorem cd_all (h : ∃ ns : List Bool, ds = [.list (ns.map PyData.bool)] ∧ Q (.bool (ns.all id))) : CD (rAll K) ds Q := fun F H vs j k R r => by
  obtain ⟨ns, rfl, q⟩ := h
  cases k with
  | cons k1 k2 =>
    cases k2
    cases k1 with
    | lst w e ha =>
      have z := ha.bools
      subst z
      exact ⟨_, ns, rfl, SqL.of e, r _ _ H q (.refl j) (.bl _)⟩
theorem od_cat {x y : PyData} (h : ∃ xs ys, x = .list xs ∧ y = .list ys ∧ xs.length + ys.length ≤ 100000 ∧ Q (.list (xs ++ ys))) : OD rCat x y Q := fun F H u v j kx ky R r => by
  obtain ⟨xs, ys, rfl, rfl, hl, q⟩ := h
  cases kx with
  | @lst _ vl _ w e ha =>
    cases ky with
    | @lst _ ul _ w2 e2 hb =>
      refine ⟨_, _, _, _, rfl, rfl, e, e2, ?_, fun p hp => ?_⟩
      · rw [ha.len, hb.len]; exact Nat.le_trans hl (by decide)
      · have g : Gro F H (upd H p (.lst (vl ++ ul))) := .new j hp
        exact r _ _ _ q g (.lst (Fr.fresh j hp) upd_same ((ha.append hb).gro g))
theorem od_catT {x y : PyData} (h : ∃ xs ys, x = .tuple xs ∧ y = .tuple ys ∧ xs ≠ [] ∧ xs.length + ys.length ≤ 100000 ∧ Q (.tuple (xs ++ ys))) : OD (rCatT K) x y Q := fun F H u v j kx ky R r => by
  obtain ⟨xs, ys, rfl, rfl, h0, hl, q⟩ := h
  cases kx with
  | @tup _ vl _ w e ha =>
    cases ky with
    | @tup _ ul _ w2 e2 hb =>
      have l1 := ha.len
      have l2 := hb.len
      refine ⟨_, _, _, _, rfl, rfl, SqT.of e, SqT.of e2, ?_, ?_, fun z => ?_, fun z p hp => ?_⟩
      · intro z; subst z; exact h0 (List.length_eq_zero_iff.mp (by simpa using l1.symm))
      · rw [l1, l2]; exact Nat.le_trans hl (by decide)
      · subst z
        have z2 : ys = [] := List.length_eq_zero_iff.mp (by simpa using l2.symm)
        subst z2
        rw [List.append_nil] at q
        exact r _ _ _ q (.refl j) (.tup w e ha)
      · have g : Gro F H (upd H p (.tup (vl ++ ul))) := .new j hp
        exact r _ _ _ q g (.tup (Fr.fresh j hp) upd_same ((ha.append hb).gro g))
end

/-! ### calls -/
def spG (m : Fr → List Ent → (PyData → Prop) → Prop) : Sp := fun vs H Q _ => ∃ (B : Fr) (O : Lk) (es : List Ent) (R : PyData → Prop), m B es R ∧ owned es = [] ∧ (B.lock O).J H ∧ Slots (B.lock O).W O H (vs.map some) es ∧
  ∀ d v H2, R d → Gro (B.lock O) H H2 → Dq (B.lock O).W H2 v d → Q v H2
def Plain : List Ent → Prop := fun es => owned es = []
def PlainE : Ent → Prop
  | .own _ _ => False
  | _ => True
theorem owned_dat {d : PyData} {es : List Ent} (h : owned es = []) : owned (.dat d :: es) = [] := h
theorem ew_call {B : Fr} {env : List Ent} {t : TA} {m : Fr → List Ent → (PyData → Prop) → Prop} {E : XK} {Q : PyData → Prop} (h : EA B env t fun es => owned es = [] ∧ m B es Q) : EW B env (tCall (spG m) [] E t) Q := fun O σ H j s R r =>
  h O σ H j s _ fun es vs H2 ⟨no, hm⟩ g k => by
    show spG m (vs ++ []) H2 R E
    rw [List.append_nil]
    exact ⟨B, O, es, Q, hm, no, g.2, k, fun d v H3 q3 g3 k3 => r d v H3 q3 (g.trans g3) k3⟩

theorem datNo {d : PyData} : ∀ a ds, Ent.dat d ≠ .own a ds := fun _ _ h => nomatch h
theorem rawNo {v : V} : ∀ a ds, Ent.raw v ≠ .own a ds := fun _ _ h => nomatch h
/-! ### statements -/
structure St (B : Fr) (Z : Lk) (H0 : Hp) (U : Addr → Prop) (env : List Ent) (O : Lk) (σ : L2.St) (H : Hp) : Prop where
  j : (B.lock O).J H
  sl : Slots (B.lock O).W O H σ env
  nd : (owned env).Nodup
  z : ∀ a o, Z a = some o → O a = some o ∧ a ∉ owned env
  keep : ∀ a o, ¬ B.W a → Z a = none → ¬ U a → H0 a = some o → H a = some o
  dom : ∀ a, O a ≠ none → Z a ≠ none ∨ U a ∨ H0 a = none
def Rt (B : Fr) (Z : Lk) (H0 : Hp) (U : Addr → Prop) (H : Hp) : Prop := (B.lock Z).J H ∧ ∀ a o, ¬ B.W a → Z a = none → ¬ U a → H0 a = some o → H a = some o
structure Post where
  N : List Ent → Prop
  R : PyData → Prop
  B : List Ent → Prop := fun _ => False
  C : List Ent → Prop := fun _ => False
structure EndOk (B : Fr) (Z : Lk) (H0 : Hp) (U : Addr → Prop) (P : Post) (D : Ends) : Prop where
  nx : ∀ env O σ H, P.N env → St B Z H0 U env O σ H → D.nx σ H
  rt : ∀ d v H, P.R d → Rt B Z H0 U H → Dq (B.lock Z).W H v d → D.rt v H
  bk : ∀ env O σ H, P.B env → St B Z H0 U env O σ H → D.bk σ H
  ct : ∀ env O σ H, P.C env → St B Z H0 U env O σ H → D.ct σ H
def SW (B : Fr) (env : List Ent) (ts : TS) (P : Post) : Prop := ∀ (Z : Lk) (H0 : Hp) (U : Addr → Prop) (O : Lk) (σ : L2.St) (H : Hp) (D : Ends), St B Z H0 U env O σ H → EndOk B Z H0 U P D → ts D σ H
section
variable {B : Fr} {Z : Lk} {H0 H H2 : Hp} {U : Addr → Prop} {env : List Ent} {O : Lk} {σ : L2.St} {P : Post} {D : Ends}
theorem St.gro (s : St B Z H0 U env O σ H) (g : Gro (B.lock O) H H2) : St B Z H0 U env O σ H2 :=
  ⟨g.2, s.sl.gro g, s.nd, s.z, fun a o hb hz hu h0 => by
    have e := s.keep a o hb hz hu h0
    cases q : O a with
    | none => exact g.1 a o (fun w => w.elim hb (fun x => x q)) e
    | some o' =>
      have e1 := (s.j.2 a o' q).2
      rw [e] at e1
      cases e1
      exact (g.2.2 a o q).2, s.dom⟩
theorem St.rt (s : St B Z H0 U env O σ H) : Rt B Z H0 U H := ⟨⟨s.j.1, fun a o e => s.j.2 a o (s.z a o e).1⟩, s.keep⟩
theorem St.wz (s : St B Z H0 U env O σ H) {a : Addr} (h : ¬ (B.lock O).W a) : ¬ (B.lock Z).W a := fun w => h (by
  rcases w with w | w
  · exact .inl w
  · right
    cases q : Z a with
    | none => exact absurd q w
    | some o => rw [(s.z a o q).1]; exact nofun)
theorem St.out (s : St B Z H0 U env O σ H) {v : V} {d : PyData} (k : Dq (B.lock O).W H v d) : Dq (B.lock Z).W H v d := Dq.to (fun a o w e => ⟨s.wz w, e⟩) d v k
/-- a slot is stored: data -/
theorem St.set (s : St B Z H0 U env O σ H) (i : Nat) {v : V} {d : PyData} (k : Dq (B.lock O).W H v d) : St B Z H0 U (env.set i (.dat d)) O (σ.set i (some v)) H :=
  ⟨s.j, s.sl.set i ⟨v, rfl, k⟩, owned_set_nd i datNo s.nd, fun a o e => ⟨(s.z a o e).1, fun m => (s.z a o e).2 (owned_set_sub i datNo a m)⟩, s.keep, s.dom⟩
theorem St.sraw (s : St B Z H0 U env O σ H) (i : Nat) (v : V) : St B Z H0 U (env.set i (.raw v)) O (σ.set i (some v)) H :=
  ⟨s.j, s.sl.set i rfl, owned_set_nd i rawNo s.nd, fun a o e => ⟨(s.z a o e).1, fun m => (s.z a o e).2 (owned_set_sub i rawNo a m)⟩, s.keep, s.dom⟩
theorem sw_seq {t u : TS} (h : SW B env t ⟨fun e => SW B e u P, P.R, P.B, P.C⟩) : SW B env (tSeq t u) P := fun Z H0 U O σ H D s e =>
  h Z H0 U O σ H _ s ⟨fun env2 O2 σ2 H2 hn s2 => hn Z H0 U O2 σ2 H2 D s2 e, e.rt, e.bk, e.ct⟩
theorem sw_set {i : Nat} {te : TE} (h : EW B env te fun d => P.N (env.set i (.dat d))) : SW B env (tAsg te (gName i)) P := fun Z H0 U O σ H D s e =>
  h O σ H s.j s.sl _ fun d v H2 q g k => e.nx _ O _ H2 q ((s.gro g).set i k)
theorem sw_ret {te : TE} (h : EW B env te P.R) : SW B env (tRet te) P := fun Z H0 U O σ H D s e =>
  h O σ H s.j s.sl _ fun d v H2 q g k => e.rt d v H2 q (s.gro g).rt ((s.gro g).out k)
theorem sw_retN (h : P.R .none) : SW B env tRetN P := fun Z H0 U O σ H D s e => e.rt .none .non H h s.rt .non
theorem sw_expr {te : TE} (h : EW B env te fun _ => P.N env) : SW B env (tDrop te) P := fun Z H0 U O σ H D s e =>
  h O σ H s.j s.sl _ fun d v H2 q g k => e.nx env O σ H2 q (s.gro g)
theorem sw_nx (h : P.N env) : SW B env tNext P := fun Z H0 U O σ H D s e => e.nx env O σ H h s
theorem sw_bk (h : P.B env) : SW B env tBreak P := fun Z H0 U O σ H D s e => e.bk env O σ H h s
theorem sw_ct (h : P.C env) : SW B env tCont P := fun Z H0 U O σ H D s e => e.ct env O σ H h s
theorem sw_if {tt : TT} {t u : TS} (h : TW B env tt fun b => if b = true then SW B env t P else SW B env u P) : SW B env (tIfS tt t u) P := fun Z H0 U O σ H D s e =>
  h O σ H s.j s.sl _ fun b H2 q g => by
    cases b with
    | true => exact q Z H0 U O σ H2 D (s.gro g) e
    | false => exact q Z H0 U O σ H2 D (s.gro g) e
theorem SW.mono {P' : Post} {ts : TS} (h : SW B env ts P) (n : ∀ e, P.N e → P'.N e) (r : ∀ d, P.R d → P'.R d) (b : ∀ e, P.B e → P'.B e) (c : ∀ e, P.C e → P'.C e) : SW B env ts P' := fun Z H0 U O σ H D s e =>
  h Z H0 U O σ H D s ⟨fun v O σ H q => e.nx v O σ H (n v q), fun d v H q => e.rt d v H (r d q), fun v O σ H q => e.bk v O σ H (b v q), fun v O σ H q => e.ct v O σ H (c v q)⟩
/-- a list of one's own is from now on data -/
theorem sw_freeze {i : Nat} {a : Addr} {ds : List PyData} {ts : TS} (hi : env[i]? = some (.own a ds)) (h : SW B (env.set i (.dat (.list ds))) ts P) : SW B env ts P := fun Z H0 U O σ H D s e => by
  obtain ⟨c, e1, e2, vs, e3, k⟩ := s.sl.get hi
  subst e2
  have hin : a ∈ owned env := owned_get hi
  have hz : Z a = none := by
    cases q : Z a with
    | none => rfl
    | some o => exact absurd hin (s.z a o q).2
  let O2 : Lk := fun b => if b = a then none else O b
  have o2 : ∀ b, b ≠ a → O2 b = O b := fun b hb => if_neg hb
  have o2a : O2 a = none := if_pos rfl
  have sub : ∀ b o, O2 b = some o → b ≠ a ∧ O b = some o := fun b o q => by
    by_cases hb : b = a
    · subst hb; rw [o2a] at q; cases q
    · exact ⟨hb, (o2 b hb).symm.trans q⟩
  have wk : ∀ b, ¬ (B.lock O).W b → ¬ (B.lock O2).W b := fun b w w2 => w (w2.elim .inl fun x => .inr (by
    cases q : O2 b with
    | none => exact absurd q x
    | some o => rw [(sub b o q).2]; exact nofun))
  have j2 : (B.lock O2).J H := ⟨s.j.1, fun b o q => s.j.2 b o (sub b o q).2⟩
  have wa : ¬ (B.lock O2).W a := fun w => w.elim (s.j.2 a _ e3).1 fun x => x o2a
  have kk : Dq (B.lock O2).W H (.ref a) (.list ds) := .lst wa (s.j.2 a _ e3).2 (DqA.to (fun b o w q => ⟨wk b w, q⟩) ds vs k)
  have own2 : ∀ b, b ∈ owned (env.set i (.dat (.list ds))) → b ≠ a := by
    have : ∀ (env : List Ent) (i : Nat), env[i]? = some (.own a ds) → (owned env).Nodup → a ∉ owned (env.set i (.dat (.list ds))) := by
      intro env
      induction env with
      | nil => intro i hi; simp at hi
      | cons c r ih =>
        intro i hi nd
        cases i with
        | zero =>
          simp at hi
          subst hi
          exact (List.nodup_cons.mp nd).1
        | succ i =>
          have hi' : r[i]? = some (.own a ds) := by simpa using hi
          cases c with
          | own b es =>
            intro z
            rcases List.mem_cons.mp (show a ∈ b :: owned (r.set i _) from z) with q | q
            · subst q; exact (List.nodup_cons.mp nd).1 (owned_get hi')
            · exact ih i hi' (List.nodup_cons.mp nd).2 q
          | non => exact ih i hi' nd
          | dat d => exact ih i hi' nd
          | raw v => exact ih i hi' nd
          | stb p => exact ih i hi' nd
    intro b hb q
    subst q
    exact this env i hi s.nd hb
  refine h Z H0 U O2 σ H D ⟨j2, ?_, owned_set_nd i datNo s.nd, fun b o q => ?_, s.keep, fun b q => ?_⟩ e
  · have q1 : Slots (B.lock O2).W O H σ (env.set i (.dat (.list ds))) := by
      have q0 : Slots (B.lock O2).W O H σ env := s.sl.to (fun b o w q => ⟨wk b w, q⟩) fun _ _ => rfl
      have q1 := q0.set i (s := some (.ref a)) (e := .dat (.list ds)) ⟨_, rfl, kk⟩
      have es : σ.set i (some (.ref a)) = σ := by
        obtain ⟨hl, he⟩ := List.getElem?_eq_some_iff.mp e1
        conv => rhs; rw [← List.set_getElem_self hl]
        rw [he]
      rw [es] at q1
      exact q1
    exact q1.to (fun b o w q => ⟨w, q⟩) fun b hb => o2 b (own2 b hb)
  · have n : b ≠ a := fun z => by subst z; rw [hz] at q; cases q
    exact ⟨(o2 b n).trans (s.z b o q).1, fun m => (s.z b o q).2 (owned_set_sub i datNo b m)⟩
  · cases q2 : O2 b with
    | none => exact absurd q2 q
    | some o => exact s.dom b (by rw [(sub b o q2).2]; exact nofun)
/-- x = a list that is new: one's own -/
theorem sw_new {i : Nat} {t : TA} (h : EA B env t (AllD fun ds => ds.length ≤ 100000 ∧ ∀ a, P.N (env.set i (.own a ds)))) : SW B env (tAsg (tLst t) (gName i)) P := fun Z H0 U O σ H D s e => by
  refine h O σ H s.j s.sl _ fun es vs H2 ⟨ds, e1, hl, q⟩ g k => ?_
  subst e1
  have kk := slots_dats k
  refine ⟨by rw [kk.len]; exact Nat.le_trans hl (by decide), fun p hp => ?_⟩
  have s2 := s.gro g
  have np : ¬ (B.lock O).W p := Fr.fresh g.2 hp
  have g2 : Gro (B.lock O) H2 (upd H2 p (.lst vs)) := .new g.2 hp
  have s3 := s2.gro g2
  let O2 : Lk := fun b => if b = p then some (.lst vs) else O b
  have o2 : ∀ b, b ≠ p → O2 b = O b := fun b hb => if_neg hb
  have o2p : O2 p = some (.lst vs) := if_pos rfl
  have opn : O p = none := by
    cases q : O p with
    | none => rfl
    | some o => exact absurd (Or.inr (by rw [q]; exact nofun)) np
  have npo : p ∉ owned env := fun m => (s.sl.own_in m) opn
  have jj : (B.lock O2).J (upd H2 p (.lst vs)) := ⟨s3.j.1, fun b o q => by
    by_cases hb : b = p
    · subst hb
      rw [o2p] at q
      cases q
      exact ⟨fun w => np (.inl w), upd_same⟩
    · rw [o2 b hb] at q
      exact s3.j.2 b o q⟩
  have wk : ∀ b, b ≠ p → ¬ (B.lock O).W b → ¬ (B.lock O2).W b := fun b hb w w2 => w (w2.elim .inl fun x => .inr (by rw [← o2 b hb]; exact x))
  have k3 : DqA (B.lock O2).W (upd H2 p (.lst vs)) vs ds := DqA.to (fun b o w q => ⟨wk b (ne_of_none q hp) w, by rw [upd_ne (ne_of_none q hp)]; exact q⟩) ds vs kk
  refine e.nx _ O2 _ _ (q p) ⟨jj, ?_, owned_set_own_nd i (.inl npo) s.nd, fun b o z => ?_, s3.keep, fun b z => ?_⟩
  · refine Slots.set i ?_ ⟨rfl, vs, o2p, k3⟩
    exact s2.sl.to (fun b o w q => ⟨wk b (ne_of_none q hp) w, by rw [upd_ne (ne_of_none q hp)]; exact q⟩) fun b hb => o2 b (fun z => npo (z ▸ hb))
  · have nb : b ≠ p := fun z2 => by
      subst z2
      rw [(s.z b o z).1] at opn
      cases opn
    refine ⟨(o2 b nb).trans (s.z b o z).1, fun m => ?_⟩
    rcases owned_set_own i b m with r | r
    · exact nb r
    · exact (s.z b o z).2 r
  · by_cases hb : b = p
    · subst hb
      cases q1 : H0 b with
      | none => exact .inr (.inr rfl)
      | some o =>
        by_cases hu : U b
        · exact .inr (.inl hu)
        · have zb : Z b = none := by
            cases q2 : Z b with
            | none => rfl
            | some o' => rw [(s.z b o' q2).1] at opn; cases opn
          have q3 := s2.keep b o (fun w => np (.inl w)) zb hu q1
          rw [hp] at q3
          cases q3
    · exact s.dom b (by rw [← o2 b hb]; exact z)
/-- x.append(e), x a list of one's own -/
theorem sw_append {i : Nat} {a : Addr} {ds : List PyData} {K : PySem.W.Frag} {te : TE} (hi : env[i]? = some (.own a ds)) (hl : ds.length < 100000) (h : EW B env te fun d => P.N (env.set i (.own a (ds ++ [d])))) :
    SW B env (tDrop (tBM K "list" rAppend (tVar i) (tCons te tNil))) P := fun Z H0 U O σ H D s e => by
  obtain ⟨c, e1, e2, vs, e3, k⟩ := s.sl.get hi
  subst e2
  refine ⟨_, e1, .inl ⟨rfl, _, SqL.of (s.j.2 a _ e3).2⟩, h O σ H s.j s.sl _ fun d v H2 q g kd => ?_⟩
  have s2 := s.gro g
  have hL := (g.2.2 a _ e3).2
  refine ⟨a, vs, v, rfl, rfl, hL, by rw [k.len]; exact Nat.lt_of_lt_of_le hl (by decide), ?_⟩
  have hin : a ∈ owned env := owned_get hi
  let O2 : Lk := fun b => if b = a then some (.lst (vs ++ [v])) else O b
  have o2 : ∀ b, b ≠ a → O2 b = O b := fun b hb => if_neg hb
  have o2a : O2 a = some (.lst (vs ++ [v])) := if_pos rfl
  have wiff : ∀ b, ¬ (B.lock O).W b → b ≠ a ∧ ¬ (B.lock O2).W b := fun b w => by
    have hb : b ≠ a := fun z => w (.inr (by rw [z, e3]; exact nofun))
    exact ⟨hb, fun w2 => w (w2.elim .inl fun x => .inr (by rw [← o2 b hb]; exact x))⟩
  have mv : ∀ b o, ¬ (B.lock O).W b → H2 b = some o → ¬ (B.lock O2).W b ∧ (upd H2 a (.lst (vs ++ [v]))) b = some o := fun b o w q => ⟨(wiff b w).2, by rw [upd_ne (wiff b w).1]; exact q⟩
  have nBa : ¬ B.W a := (s.j.2 a _ e3).1
  have jj : (B.lock O2).J (upd H2 a (.lst (vs ++ [v]))) := ⟨B.loc H2 _ (fun b w => upd_ne (fun z => nBa (z ▸ w))) s2.j.1, fun b o q => by
    by_cases hb : b = a
    · subst hb
      rw [o2a] at q
      cases q
      exact ⟨nBa, upd_same⟩
    · rw [o2 b hb] at q
      exact ⟨(s2.j.2 b o q).1, by rw [upd_ne hb]; exact (s2.j.2 b o q).2⟩⟩
  have k2 := k.gro g
  have k3 : DqA (B.lock O2).W (upd H2 a (.lst (vs ++ [v]))) (vs ++ [v]) (ds ++ [d]) := (DqA.to mv ds vs k2).append (.cons (Dq.to mv d v kd) .nil)
  have hz : Z a = none := by
    cases q : Z a with
    | none => rfl
    | some o => exact absurd hin (s.z a o q).2
  have es : σ.set i (some (.ref a)) = σ := by
    obtain ⟨hl, he⟩ := List.getElem?_eq_some_iff.mp e1
    conv => rhs; rw [← List.set_getElem_self hl]
    rw [he]
  refine e.nx _ O2 σ _ q ⟨jj, ?_, owned_set_own_nd i (.inr ⟨ds, hi⟩) s.nd, fun b o z => ?_, fun b o w zb u h0 => ?_, fun b z => ?_⟩
  · -- the slots
    have own1 : ∀ b, b ∈ owned (env.set i (.raw (.ref a))) → b ≠ a := by
      have : ∀ (env : List Ent) (i : Nat), env[i]? = some (.own a ds) → (owned env).Nodup → a ∉ owned (env.set i (.raw (.ref a))) := by
        intro env
        induction env with
        | nil => intro i hi; simp at hi
        | cons c r ih =>
          intro i hi nd
          cases i with
          | zero =>
            simp at hi
            subst hi
            exact (List.nodup_cons.mp nd).1
          | succ i =>
            have hi' : r[i]? = some (.own a ds) := by simpa using hi
            cases c with
            | own b es =>
              intro z
              rcases List.mem_cons.mp (show a ∈ b :: owned (r.set i _) from z) with q | q
              · subst q; exact (List.nodup_cons.mp nd).1 (owned_get hi')
              · exact ih i hi' (List.nodup_cons.mp nd).2 q
            | non => exact ih i hi' nd
            | dat d => exact ih i hi' nd
            | raw v => exact ih i hi' nd
            | stb p => exact ih i hi' nd
      intro b hb q
      subst q
      exact this env i hi s.nd hb
    have q0 : Slots (B.lock O).W O H2 (σ.set i (some (.ref a))) (env.set i (.raw (.ref a))) := s2.sl.set i rfl
    have q1 : Slots (B.lock O2).W O2 (upd H2 a (.lst (vs ++ [v]))) (σ.set i (some (.ref a))) (env.set i (.raw (.ref a))) := q0.to mv fun b hb => o2 b (own1 b hb)
    have q2 := q1.set i (s := some (.ref a)) (e := .own a (ds ++ [d])) ⟨rfl, vs ++ [v], o2a, k3⟩
    rw [List.set_set, List.set_set, es] at q2
    exact q2
  · have nb : b ≠ a := fun z2 => by subst z2; rw [hz] at z; cases z
    refine ⟨(o2 b nb).trans (s.z b o z).1, fun m => ?_⟩
    rcases owned_set_own i b m with r | r
    · exact nb r
    · exact (s.z b o z).2 r
  · have q := s2.keep b o w zb u h0
    by_cases hb : b = a
    · subst hb
      rcases s.dom b (by rw [e3]; exact nofun) with r | r | r
      · exact absurd zb r
      · exact absurd r u
      · rw [h0] at r; cases r
    · rw [upd_ne hb]; exact q
  · by_cases hb : b = a
    · subst hb; exact s.dom b (by rw [e3]; exact nofun)
    · exact s.dom b (by rw [← o2 b hb]; exact z)
/-- return x, x a list of one's own -/
theorem sw_retOwn {i : Nat} {a : Addr} {ds : List PyData} (hi : env[i]? = some (.own a ds)) (h : P.R (.list ds)) : SW B env (tRet (tVar i)) P := by
  refine sw_freeze hi (sw_ret (ew_var (d := .list ds) ?_ h))
  have hl : i < env.length := (List.getElem?_eq_some_iff.mp hi).1
  rw [List.getElem?_set_self hl]
end
end Dl
end
section
set_option Elab.async false
set_option linter.all false
set_option maxRecDepth 100000
namespace Dl
open PySem L2 PySem.Spec PyProof.Rows RZ

/-! ### what is walked -/
def Good (W : Addr → Prop) (H2 H : Hp) : Prop := ∀ a o, ¬ W a → H2 a = some o → H a = some o
def Yl (W : Addr → Prop) (H2 : Hp) (ds : List PyData) (i : Nat) (H : Hp) (x : V) (H' : Hp) : Prop :=
  (∃ d, ds[i]? = some d ∧ H' = H ∧ Dq W H2 x d) ∨ (∃ T x1 x2 d1 d2, x = .ref T ∧ H T = none ∧ H' = upd H T (.tup [x1, x2]) ∧ ds[i]? = some (.tuple [d1, d2]) ∧ Dq W H2 x1 d1 ∧ Dq W H2 x2 d2)
abbrev Its (W : Addr → Prop) (H2 : Hp) (ds : List PyData) (J : It) : Prop := Walk J ds.length (Good W H2) (Yl W H2 ds)
def IT (B : Fr) (env : List Ent) (wi : TI) (Q : List PyData → Prop) : Prop := ∀ (O : Lk) (σ : L2.St) (H : Hp), (B.lock O).J H → Slots (B.lock O).W O H σ env → ∀ R : It → Hp → Prop,
  (∀ ds J H2, Q ds → Gro (B.lock O) H H2 → Its (B.lock O).W H2 ds J → R J H2) → wi σ H R
section
variable {B : Fr} {env : List Ent} {te : TE} {ta : TA} {Q : List PyData → Prop} {K : PySem.W.Frag}
theorem its_list {W : Addr → Prop} {H2 : Hp} {a : Addr} {xs : List V} {ds : List PyData} (w : ¬ W a) (e : H2 a = some (.lst xs)) (k : DqA W H2 xs ds) : Its W H2 ds (Itl K a) := by
  unfold Its
  rw [← k.len]
  refine (walk_list (K := K) (a := a) (xs := xs)).mono (fun H g => SqL.of (g a _ w e)) fun i H x H' hi g y => ?_
  obtain ⟨d, e1, q⟩ := k.getV y.2
  exact .inl ⟨d, e1, y.1, q⟩
theorem its_tup {W : Addr → Prop} {H2 : Hp} {a : Addr} {xs : List V} {ds : List PyData} (w : ¬ W a) (e : H2 a = some (.tup xs)) (k : DqA W H2 xs ds) : Its W H2 ds (Itt K a) := by
  unfold Its
  rw [← k.len]
  refine (walk_tup (K := K) (a := a) (xs := xs)).mono (fun H g => SqT.of (g a _ w e)) fun i H x H' hi g y => ?_
  obtain ⟨d, e1, q⟩ := k.getV y.2
  exact .inl ⟨d, e1, y.1, q⟩
theorem it_list (h : EW B env te fun d => ∃ ds, d = .list ds ∧ Q ds) : IT B env (iList K te) Q := fun O σ H j s R r =>
  h O σ H j s _ fun d v H2 ⟨ds, e, q⟩ g k => by
    subst e
    cases k with
    | lst w e ha => exact ⟨_, rfl, ⟨_, SqL.of e⟩, r ds _ H2 q g (its_list w e ha)⟩
theorem it_tup (h : EW B env te fun d => ∃ ds, d = .tuple ds ∧ Q ds) : IT B env (iTup K te) Q := fun O σ H j s R r =>
  h O σ H j s _ fun d v H2 ⟨ds, e, q⟩ g k => by
    subst e
    cases k with
    | tup w e ha => exact ⟨_, rfl, ⟨_, SqT.of e⟩, r ds _ H2 q g (its_tup w e ha)⟩
def rangeD (lo : Int) (n : Nat) : List PyData := (List.range n).map fun (i : Nat) => PyData.int (lo + (i : Int))
theorem its_range {W : Addr → Prop} {H2 : Hp} {lo : Int} {n : Nat} : Its W H2 (rangeD lo n) (Itr lo n) := by
  have hl : (rangeD lo n).length = n := by simp [rangeD]
  unfold Its
  rw [hl]
  refine (walk_range (lo := lo) (n := n)).mono (fun _ _ => trivial) fun i H x H' hi g y => ?_
  refine .inl ⟨.int (lo + i), ?_, y.1, ?_⟩
  · simp [rangeD, hi]
  · rw [y.2]; exact .int _
theorem it_range1 (h : EA B env ta (AllD fun es => ∃ n : Int, es = [.int n] ∧ -(2 ^ 62) ≤ n ∧ n < 2 ^ 62 ∧ Q (rangeD 0 n.toNat))) : IT B env (iRng1 ta) Q := fun O σ H j s R r =>
  h O σ H j s _ fun es vs H2 ⟨ds, e, n, e2, h1, h2, q⟩ g k => by
    subst e
    subst e2
    have kk := slots_dats k
    cases kk with
    | cons k1 k2 =>
      cases k2
      cases k1
      exact ⟨n, rfl, h1, h2, r _ _ H2 q g its_range⟩
def zipD (xs ys : List PyData) : List PyData := List.zipWith (fun a b => .tuple [a, b]) xs ys
theorem zipD_get {xs ys : List PyData} {i : Nat} {a b : PyData} (h1 : xs[i]? = some a) (h2 : ys[i]? = some b) : (zipD xs ys)[i]? = some (.tuple [a, b]) := by
  simp [zipD, List.getElem?_zipWith, h1, h2]
theorem it_enum (h : EA B env ta (AllD fun es => ∃ ds, es = [.list ds] ∧ Q (zipD (rangeD 0 ds.length) ds))) : IT B env (iEnum K ta) Q := fun O σ H j s R r =>
  h O σ H j s _ fun es vs H2 ⟨ds, e, ds2, e2, q⟩ g k => by
    subst e
    subst e2
    have kk := slots_dats k
    cases kk with
    | cons k1 k2 =>
      cases k2
      cases k1 with
      | @lst a xs _ w e ha =>
        refine ⟨a, xs, rfl, SqL.of e, r _ _ H2 q g ?_⟩
        have hl : (zipD (rangeD 0 ds2.length) ds2).length = xs.length := by simp [zipD, rangeD, ha.len]
        unfold Its
        rw [hl]
        refine (walk_enum (K := K) (a := a) (xs := xs)).mono (fun H g => SqL.of (g a _ w e)) fun i H x H' hi g y => ?_
        obtain ⟨T, x1, x2, e1, e2, e3, e4, e5⟩ := y
        cases e4
        obtain ⟨d, e6, q6⟩ := ha.getV e5
        refine .inr ⟨T, _, x2, .int (0 + (i : Nat)), d, e1, e2, e3, zipD_get ?_ e6, ?_, q6⟩
        · have : i < ds2.length := by rw [← ha.len]; exact hi
          simp [rangeD, this]
        · rw [Int.zero_add]; exact .int _
theorem it_zip (h : EA B env ta (AllD fun es => ∃ xs ys, (es = [.list xs, .list ys] ∨ es = [.tuple xs, .tuple ys]) ∧ Q (zipD xs ys))) : IT B env (iZipA K ta) Q := fun O σ H j s R r =>
  h O σ H j s _ fun es vs H2 ⟨ds, e, xs, ys, e2, q⟩ g k => by
    subst e
    have kk := slots_dats k
    rcases e2 with e2 | e2
    · subst e2
      cases kk with
      | cons k1 k2 =>
        cases k2 with
        | cons k2 k3 =>
          cases k3
          cases k1 with
          | @lst a us _ w e ha =>
            cases k2 with
            | @lst b vs _ w2 e2 hb =>
              refine ⟨a, b, us, vs, rfl, .inl ⟨SqL.of e, SqL.of e2, r _ _ H2 q g ?_⟩⟩
              have hl : (zipD xs ys).length = min us.length vs.length := by simp [zipD, ha.len, hb.len]
              unfold Its
              rw [hl]
              refine (walk_zip (K := K) (a := a) (b := b) (xs := us) (ys := vs) rfl).mono (fun H g => ⟨SqL.of (g a _ w e), SqL.of (g b _ w2 e2)⟩) fun i H x H' hi g y => ?_
              obtain ⟨T, x1, x2, e1, e2, e3, e4, e5⟩ := y
              obtain ⟨d, e6, q6⟩ := ha.getV e4
              obtain ⟨d2, e7, q7⟩ := hb.getV e5
              exact .inr ⟨T, x1, x2, d, d2, e1, e2, e3, zipD_get e6 e7, q6, q7⟩
    · subst e2
      cases kk with
      | cons k1 k2 =>
        cases k2 with
        | cons k2 k3 =>
          cases k3
          cases k1 with
          | @tup a us _ w e ha =>
            cases k2 with
            | @tup b vs _ w2 e2 hb =>
              refine ⟨a, b, us, vs, rfl, .inr ⟨SqT.of e, SqT.of e2, r _ _ H2 q g ?_⟩⟩
              have hl : (zipD xs ys).length = min us.length vs.length := by simp [zipD, ha.len, hb.len]
              unfold Its
              rw [hl]
              have wz : Walk (ItzT K a b) (min us.length vs.length) (fun H => SqT K H a us ∧ SqT K H b vs) (YPair (fun i => us[i]?) (fun i => vs[i]?)) := by
                refine ⟨fun i _ hi q => ?_, fun _ q => ⟨us, vs, q.1, q.2, by omega⟩, fun i H v H' _ q y => ?_⟩
                · have h1 : i < us.length := by omega
                  have h2 : i < vs.length := by omega
                  exact ⟨us, vs, us[i], vs[i], q.1, q.2, by simp [h1], by simp [h2]⟩
                · obtain ⟨T, x, z, h1, h2, h3, h4, h5⟩ := y
                  exact ⟨T, x, z, h1, h2, h3, h4 us q.1, h5 vs q.2⟩
              refine wz.mono (fun H g => ⟨SqT.of (g a _ w e), SqT.of (g b _ w2 e2)⟩) fun i H x H' hi g y => ?_
              obtain ⟨T, x1, x2, e1, e2, e3, e4, e5⟩ := y
              obtain ⟨d, e6, q6⟩ := ha.getV e4
              obtain ⟨d2, e7, q7⟩ := hb.getV e5
              exact .inr ⟨T, x1, x2, d, d2, e1, e2, e3, zipD_get e6 e7, q6, q7⟩
end

/-! ### targets -/
def GW (B : Fr) (env : List Ent) (g : TG) (d : PyData) (Q : List Ent → Prop) : Prop := ∀ (Z : Lk) (H0 : Hp) (U : Addr → Prop) (O : Lk) (σ : L2.St) (H : Hp) (v : V), St B Z H0 U env O σ H → Dq (B.lock O).W H v d → ∀ R : L2.St → Hp → Prop,
  (∀ e2 σ2, Q e2 → St B Z H0 U e2 O σ2 H → R σ2 H) → g v σ H R
def GWs (B : Fr) (env : List Ent) (g : TGs) (ds : List PyData) (Q : List Ent → Prop) : Prop := ∀ (Z : Lk) (H0 : Hp) (U : Addr → Prop) (O : Lk) (σ : L2.St) (H : Hp) (vs : List V), St B Z H0 U env O σ H → DqA (B.lock O).W H vs ds → ∀ R : L2.St → Hp → Prop,
  (∀ e2 σ2, Q e2 → St B Z H0 U e2 O σ2 H → R σ2 H) → g vs σ H R
section
variable {B : Fr} {env : List Ent} {Q : List Ent → Prop} {d : PyData} {K : PySem.W.Frag}
theorem gw_name {i : Nat} (q : Q (env.set i (.dat d))) : GW B env (gName i) d Q := fun Z H0 U O σ H v s k R r => r _ _ q (s.set i k)
theorem gws_nil (q : Q env) : GWs B env gNil [] Q := fun Z H0 U O σ H vs s k R r => by
  cases k
  exact ⟨rfl, r env σ q s⟩
theorem gws_cons {g : TG} {gs : TGs} {ds : List PyData} (h : GW B env g d fun e => GWs B e gs ds Q) : GWs B env (gCons g gs) (d :: ds) Q := fun Z H0 U O σ H vs s k R r => by
  cases k with
  | @cons v vs _ _ k1 k2 => exact ⟨v, vs, rfl, h Z H0 U O σ H v s k1 _ fun e2 σ2 q s2 => q Z H0 U O σ2 H vs s2 k2 R r⟩
theorem gw_tup {gs : TGs} {n : Nat} (h : ∃ ds, d = .tuple ds ∧ ds.length = n ∧ GWs B env gs ds Q) : GW B env (gTup K n gs) d Q := fun Z H0 U O σ H v s k R r => by
  obtain ⟨ds, rfl, hl, q⟩ := h
  cases k with
  | tup w e ha => exact ⟨_, _, rfl, SqT.of e, by rw [ha.len]; exact hl, q Z H0 U O σ H _ s ha R r⟩
theorem sw_asg {te : TE} {g : TG} {P : Post} (h : EW B env te fun d => GW B env g d P.N) : SW B env (tAsg te g) P := fun Z H0 U O σ H D s e =>
  h O σ H s.j s.sl _ fun d v H2 q gr k => q Z H0 U O σ H2 v (s.gro gr) k _ fun e2 σ2 n s2 => e.nx e2 O σ2 H2 n s2
theorem sw_par {i j : Nat} {ta : TA} {P : Post} (h : EA B env ta (AllD fun ds => ∃ a b, ds = [a, b] ∧ P.N ((env.set i (.dat a)).set j (.dat b)))) : SW B env (tPar i j ta) P := fun Z H0 U O σ H D s e =>
  h O σ H s.j s.sl _ fun es vs H2 ⟨ds, e1, a, b, e2, n⟩ gr k => by
    subst e1
    subst e2
    have kk := slots_dats k
    cases kk with
    | cons k1 k2 =>
      cases k2 with
      | cons k2 k3 =>
        cases k3
        exact ⟨_, _, rfl, e.nx _ O _ H2 n (((s.gro gr).set i k1).set j k2)⟩
end

/-! ### for -/
section
variable {B : Fr} {Z : Lk} {H0 H2 H3 : Hp} {U : Addr → Prop} {env e3 : List Ent} {O O3 : Lk} {σ σ3 : L2.St}
theorem St.old (s : St B Z H0 U env O σ H2) {a : Addr} (h : H2 a = none) : Z a ≠ none ∨ U a ∨ H0 a = none := by
  cases q : H0 a with
  | none => exact .inr (.inr rfl)
  | some o =>
    by_cases hu : U a
    · exact .inr (.inl hu)
    · cases qz : Z a with
      | some o' => exact .inl nofun
      | none =>
        by_cases hb : B.W a
        · exact absurd h (B.dom H2 a s.j.1 hb)
        · have := s.keep a o hb qz hu q
          rw [h] at this
          cases this
theorem St.back (s : St B Z H0 U env O σ H2) (t : St B Z H2 (fun a => O a ≠ none) e3 O3 σ3 H3) : St B Z H0 U e3 O3 σ3 H3 :=
  ⟨t.j, t.sl, t.nd, t.z, fun a o hb hz hu h0 => t.keep a o hb hz (fun ho => (s.dom a ho).elim (fun x => x hz) fun x => x.elim hu fun y => by rw [h0] at y; cases y) (s.keep a o hb hz hu h0),
    fun a ho => by
      rcases t.dom a ho with x | x | x
      · exact .inl x
      · exact s.dom a x
      · exact s.old x⟩
theorem St.backR (s : St B Z H0 U env O σ H2) (t : Rt B Z H2 (fun a => O a ≠ none) H3) : Rt B Z H0 U H3 :=
  ⟨t.1, fun a o hb hz hu h0 => t.2 a o hb hz (fun ho => (s.dom a ho).elim (fun x => x hz) fun x => x.elim hu fun y => by rw [h0] at y; cases y) (s.keep a o hb hz hu h0)⟩
theorem St.inner (s : St B Z H0 U env O σ H2) : St B Z H2 (fun a => O a ≠ none) env O σ H2 := ⟨s.j, s.sl, s.nd, s.z, fun _ _ _ _ _ e => e, fun _ x => .inr (.inl x)⟩
/-- what the walked thing leans on stays -/
theorem St.good (s : St B Z H0 U env O σ H2) (t : St B Z H2 (fun a => O a ≠ none) e3 O3 σ3 H3) {a : Addr} {o : HO} (w : ¬ (B.lock O).W a) (e : H2 a = some o) : ¬ (B.lock O3).W a ∧ H3 a = some o := by
  have hz : Z a = none := by
    cases q : Z a with
    | none => rfl
    | some o' => exact absurd (Or.inr (by rw [(s.z a o' q).1]; exact nofun)) w
  have ho : ¬ O a ≠ none := fun x => w (.inr x)
  refine ⟨fun w3 => ?_, t.keep a o (fun x => w (.inl x)) hz ho e⟩
  rcases w3 with x | x
  · exact w (.inl x)
  · rcases t.dom a x with y | y | y
    · exact y hz
    · exact ho y
    · rw [e] at y; cases y
theorem sw_for {wi : TI} {g : TG} {tb : TS} {P : Post} (h : IT B env wi fun ds => ∃ Iv : Nat → List Ent → Prop, Iv 0 env ∧
    (∀ i d e, ds[i]? = some d → Iv i e → GW B e g d fun e2 => SW B e2 tb ⟨Iv (i + 1), P.R, P.N, Iv (i + 1)⟩) ∧ ∀ e, Iv ds.length e → P.N e) : SW B env (tFor wi g tb) P := fun Z H0 U O σ H D s e => by
  refine h O σ H s.j s.sl _ fun ds J H2 ⟨Iv, h0, hs, hd⟩ gr w => ?_
  have s2 := s.gro gr
  refine for_it w (fun i σ H => ∃ e O3, Iv i e ∧ St B Z H2 (fun a => O a ≠ none) e O3 σ H) ⟨env, O, h0, s2.inner⟩ (fun i σ H _ ⟨e3, O3, _, t⟩ a o w q => (s2.good t w q).2) (fun i x σ3 H3 H4 hi ⟨e3, O3, inv, t⟩ y => ?_) (fun σ3 H3 ⟨e3, O3, inv, t⟩ => e.nx _ O3 _ _ (hd e3 inv) (s2.back t))
  have mv : ∀ a o, ¬ (B.lock O).W a → H2 a = some o → ¬ (B.lock O3).W a ∧ H3 a = some o := fun a o w q => s2.good t w q
  have ends : EndOk B Z H2 (fun a => O a ≠ none) ⟨Iv (i + 1), P.R, P.N, Iv (i + 1)⟩ { D with nx := fun σ H => ∃ e O3, Iv (i + 1) e ∧ St B Z H2 (fun a => O a ≠ none) e O3 σ H, ct := fun σ H => ∃ e O3, Iv (i + 1) e ∧ St B Z H2 (fun a => O a ≠ none) e O3 σ H, bk := D.nx } :=
    ⟨fun v O5 σ5 H5 n t5 => ⟨v, O5, n, t5⟩, fun d v H5 r t5 k => e.rt d v H5 r (s2.backR t5) k, fun v O5 σ5 H5 n t5 => e.nx v O5 σ5 H5 n (s2.back t5), fun v O5 σ5 H5 n t5 => ⟨v, O5, n, t5⟩⟩
  rcases y with ⟨d, e1, e2, k⟩ | ⟨T, x1, x2, d1, d2, e1, e2, e3', e4, k1, k2⟩
  · subst e2
    exact hs i d e3 e1 inv Z H2 _ O3 σ3 _ x t (Dq.to mv d x k) _ fun e5 σ5 q5 t5 => q5 Z H2 _ O3 σ5 _ _ t5 ends
  · subst e1
    subst e3'
    have g4 : Gro (B.lock O3) H3 (upd H3 T (.tup [x1, x2])) := .new t.j e2
    have nT := Fr.fresh t.j e2
    have k5 : Dq (B.lock O3).W (upd H3 T (.tup [x1, x2])) (.ref T) (.tuple [d1, d2]) := .tup nT upd_same (.cons ((Dq.to mv d1 x1 k1).gro g4) (.cons ((Dq.to mv d2 x2 k2).gro g4) .nil))
    exact hs i _ e3 e4 inv Z H2 _ O3 σ3 _ _ (t.gro g4) k5 _ fun e5 σ5 q5 t5 => q5 Z H2 _ O3 σ5 _ _ t5 ends
theorem sw_while {c : TT} {tb : TS} {P : Post} (h : ∃ Iv : Nat → List Ent → Prop, (∃ m, Iv m env) ∧ ∀ m e, Iv m e → TW B e c fun b =>
    if b = true then SW B e tb ⟨fun e' => ∃ m', m' < m ∧ Iv m' e', P.R, P.N, fun e' => ∃ m', m' < m ∧ Iv m' e'⟩ else P.N e) : SW B env (tWhile c tb) P := fun Z H0 U O σ H D s e => by
  obtain ⟨Iv, ⟨m0, h0⟩, hs⟩ := h
  refine ⟨fun m σ H => ∃ e O3, Iv m e ∧ St B Z H0 U e O3 σ H, ⟨m0, env, O, h0, s⟩, fun m σ3 H3 ⟨e3, O3, inv, t⟩ => ?_⟩
  refine hs m e3 inv O3 σ3 H3 t.j t.sl _ fun b H4 q g => ?_
  cases b with
  | true =>
    rw [if_pos rfl]
    rw [if_pos rfl] at q
    refine ⟨fun σ' H' => ∃ m', m' < m ∧ ∃ e O3, Iv m' e ∧ St B Z H0 U e O3 σ' H', fun σ' H' z => z, q Z H0 U O3 σ3 H4 _ (t.gro g) ⟨fun v O5 σ5 H5 ⟨m', hm, n⟩ t5 => ⟨m', hm, v, O5, n, t5⟩, e.rt, e.nx, fun v O5 σ5 H5 ⟨m', hm, n⟩ t5 => ⟨m', hm, v, O5, n, t5⟩⟩⟩
  | false =>
    rw [if_neg Bool.false_ne_true]
    rw [if_neg Bool.false_ne_true] at q
    exact e.nx e3 O3 σ3 H4 q (t.gro g)
end

/-! ### comprehensions -/
def wipeE (env : List Ent) : List Nat → List Ent
  | [] => env
  | v :: vs => (wipeE env vs).set v .non
theorem wipe_set {σ : L2.St} {i : Nat} {x : Option V} : ∀ {vs : List Nat}, i ∈ vs → wipe (σ.set i x) vs = wipe σ vs := by
  have gen : ∀ vs : List Nat, wipe (σ.set i x) vs = if i ∈ vs then wipe σ vs else (wipe σ vs).set i x := by
    intro vs
    induction vs with
    | nil => simp [wipe]
    | cons v vs ih =>
      show (wipe (σ.set i x) vs).set v none = _
      rw [ih]
      by_cases h : i ∈ vs
      · rw [if_pos h, if_pos (List.mem_cons_of_mem _ h)]; rfl
      · rw [if_neg h]
        by_cases e : i = v
        · subst e
          rw [if_pos List.mem_cons_self, List.set_set]; rfl
        · rw [if_neg (by intro z; rcases List.mem_cons.mp z with q | q; exact e q; exact h q), List.set_comm _ _ (by exact e)]; rfl
  intro vs h
  rw [gen, if_pos h]
theorem wipe_wipe {σ : L2.St} {vs : List Nat} : wipe (wipe σ vs) vs = wipe σ vs := by
  have gen : ∀ us : List Nat, (∀ i ∈ us, i ∈ vs) → wipe (wipe σ us) vs = wipe σ vs := by
    intro us
    induction us with
    | nil => intro _; rfl
    | cons v us ih =>
      intro h
      show wipe ((wipe σ us).set v none) vs = _
      rw [wipe_set (h v List.mem_cons_self), ih fun i hi => h i (List.mem_cons_of_mem _ hi)]
  exact gen vs fun _ h => h
theorem Slots.wipe {W : Addr → Prop} {O : Lk} {H : Hp} {σ : L2.St} {env : List Ent} (h : Slots W O H σ env) : ∀ vs : List Nat, Slots W O H (L2.wipe σ vs) (wipeE env vs)
  | [] => h
  | v :: vs => (Slots.wipe h vs).set v trivial
def GC (B : Fr) (vs : List Nat) (env : List Ent) (g : TG) (d : PyData) (Q : List Ent → Prop) : Prop := ∀ (O : Lk) (σ : L2.St) (H : Hp) (v : V), (B.lock O).J H → Slots (B.lock O).W O H σ env → Dq (B.lock O).W H v d → ∀ R : L2.St → Hp → Prop,
  (∀ e2 σ2, Q e2 → Slots (B.lock O).W O H σ2 e2 → wipe σ2 vs = wipe σ vs → R σ2 H) → g v σ H R
def GCs (B : Fr) (vs : List Nat) (env : List Ent) (g : TGs) (ds : List PyData) (Q : List Ent → Prop) : Prop := ∀ (O : Lk) (σ : L2.St) (H : Hp) (xs : List V), (B.lock O).J H → Slots (B.lock O).W O H σ env → DqA (B.lock O).W H xs ds → ∀ R : L2.St → Hp → Prop,
  (∀ e2 σ2, Q e2 → Slots (B.lock O).W O H σ2 e2 → wipe σ2 vs = wipe σ vs → R σ2 H) → g xs σ H R
section
variable {B : Fr} {vs : List Nat} {env : List Ent} {Q : List Ent → Prop} {d : PyData} {K : PySem.W.Frag}
theorem gc_name {i : Nat} (hi : i ∈ vs) (q : Q (env.set i (.dat d))) : GC B vs env (gName i) d Q := fun O σ H v j s k R r => r _ _ q (s.set i ⟨v, rfl, k⟩) (wipe_set hi)
theorem gcs_nil (q : Q env) : GCs B vs env gNil [] Q := fun O σ H xs j s k R r => by
  cases k
  exact ⟨rfl, r env σ q s rfl⟩
theorem gcs_cons {g : TG} {gs : TGs} {ds : List PyData} (h : GC B vs env g d fun e => GCs B vs e gs ds Q) : GCs B vs env (gCons g gs) (d :: ds) Q := fun O σ H xs j s k R r => by
  cases k with
  | @cons v us _ _ k1 k2 => exact ⟨v, us, rfl, h O σ H v j s k1 _ fun e2 σ2 q s2 w => q O σ2 H us j s2 k2 R fun e3 σ3 q3 s3 w3 => r e3 σ3 q3 s3 (w3.trans w)⟩
theorem gc_tup {gs : TGs} {n : Nat} (h : ∃ ds, d = .tuple ds ∧ ds.length = n ∧ GCs B vs env gs ds Q) : GC B vs env (gTup K n gs) d Q := fun O σ H v j s k R r => by
  obtain ⟨ds, rfl, hl, q⟩ := h
  cases k with
  | tup w e ha => exact ⟨_, _, rfl, SqT.of e, by rw [ha.len]; exact hl, q O σ H _ j s ha R r⟩
theorem ew_lc {wi : TI} {g : TG} {tt : TT} {te : TE} {P : PyData → Prop} (h : IT B env wi fun ds => ds.length ≤ 100000 ∧ ∃ Iv : Nat → List PyData → Prop, Iv 0 [] ∧
    (∀ i d acc, ds[i]? = some d → Iv i acc → GC B vs (wipeE env vs) g d fun e2 => TW B e2 tt fun b => if b = true then EW B e2 te fun y => Iv (i + 1) (acc ++ [y]) else Iv (i + 1) acc) ∧
    ∀ acc, Iv ds.length acc → P (.list acc)) : EW B env (tLc wi g tt te vs) P := fun O σ H j s R r => by
  refine h O σ H j s _ fun ds J H1 ⟨hlen, Iv, h0, hs, hd⟩ gr w D hD => ?_
  have s1 := s.gro gr
  have nD : ¬ (B.lock O).W D := Fr.fresh gr.2 hD
  have oD : O D = none := by
    cases q : O D with
    | none => rfl
    | some o => exact absurd (Or.inr (by rw [q]; exact nofun)) nD
  refine lc_it w (fun i H => ∃ acc ad, H D = some (.lst acc) ∧ DqA (fun a => (B.lock O).W a ∨ a = D) H acc ad ∧ Iv i ad ∧ acc.length ≤ i ∧ (∀ a o, ¬ (B.lock O).W a → H1 a = some o → H a = some o) ∧ (B.lock O).J H)
    ⟨[], [], upd_same, .nil, h0, Nat.le_refl _, fun a o w q => by rw [upd_ne (ne_of_none q hD)]; exact q, (Gro.new gr.2 hD).2⟩ (fun i H hi ⟨_, _, _, _, _, _, k, _⟩ a o w q => k a o w q) (fun i x H3 H4 hi ⟨acc, ad, e1, ka, inv, hl, kp, jj⟩ y => ?_) (fun H3 ⟨acc, ad, e1, ka, inv, hl, kp, jj⟩ => ?_)
  · -- one turn: the new list is locked meanwhile
    let O2 : Lk := fun a => if a = D then some (.lst acc) else O a
    have o2 : ∀ a, a ≠ D → O2 a = O a := fun a ha => if_neg ha
    have o2D : O2 D = some (.lst acc) := if_pos rfl
    have w2 : ∀ a, ¬ (B.lock O).W a → a ≠ D → ¬ (B.lock O2).W a := fun a w ha x => w (x.elim .inl fun z => .inr (by rw [← o2 a ha]; exact z))
    have w2' : ∀ a, ¬ (B.lock O2).W a → ¬ (B.lock O).W a ∧ a ≠ D := fun a w => by
      have ha : a ≠ D := fun z => w (.inr (by rw [z, o2D]; exact nofun))
      exact ⟨fun x => w (x.elim .inl fun z => .inr (by rw [o2 a ha]; exact z)), ha⟩
    have jO2 : ∀ H5 : Hp, (B.lock O).J H5 → H5 D = some (.lst acc) → (B.lock O2).J H5 := fun H5 j5 e5 => ⟨j5.1, fun a o q => by
      by_cases ha : a = D
      · subst ha
        rw [o2D] at q
        cases q
        exact ⟨fun z => nD (.inl z), e5⟩
      · rw [o2 a ha] at q
        exact j5.2 a o q⟩
    have mv : ∀ a o, ¬ (B.lock O).W a → H1 a = some o → ¬ (B.lock O2).W a ∧ H3 a = some o := fun a o w q => ⟨w2 a w (ne_of_none q hD), kp a o w q⟩
    have fin : ∀ (H5 : Hp) (x : V) (d : PyData), (B.lock O2).J H5 → (∀ a o, ¬ (B.lock O2).W a → H3 a = some o → H5 a = some o) → ds[i]? = some d → Dq (B.lock O2).W H5 x d →
        g x (wipe σ vs) H5 fun σ2 H2 => wipe σ2 vs = wipe σ vs ∧ tt σ2 H2 fun b H3 => if b = true then te σ2 H3 fun y H4 => ∃ acc, H4 D = some (.lst acc) ∧ acc.length < sizeLine ∧ (∃ acc2 ad, (upd H4 D (.lst (acc ++ [y]))) D = some (.lst acc2) ∧ DqA (fun a => (B.lock O).W a ∨ a = D) (upd H4 D (.lst (acc ++ [y]))) acc2 ad ∧ Iv (i + 1) ad ∧ acc2.length ≤ i + 1 ∧ (∀ a o, ¬ (B.lock O).W a → H1 a = some o → (upd H4 D (.lst (acc ++ [y]))) a = some o) ∧ (B.lock O).J (upd H4 D (.lst (acc ++ [y]))))
          else ∃ acc2 ad, H3 D = some (.lst acc2) ∧ DqA (fun a => (B.lock O).W a ∨ a = D) H3 acc2 ad ∧ Iv (i + 1) ad ∧ acc2.length ≤ i + 1 ∧ (∀ a o, ¬ (B.lock O).W a → H1 a = some o → H3 a = some o) ∧ (B.lock O).J H3 := by
      intro H5 x d j5 k5 ed kx
      have sl5 : Slots (B.lock O2).W O2 H5 (wipe σ vs) (wipeE env vs) := by
        refine Slots.wipe ?_ vs
        exact s1.to (fun a o w q => ⟨(mv a o w q).1, k5 a o (mv a o w q).1 (mv a o w q).2⟩) fun a ha => o2 a (fun z => (s1.own_in ha) (z ▸ oD))
      have ka5 : DqA (B.lock O2).W H5 acc ad := DqA.to (fun a o w q => by
        have n1 : ¬ (B.lock O).W a := fun z => w (.inl z)
        have n2 : a ≠ D := fun z => w (.inr z)
        exact ⟨w2 a n1 n2, k5 a o (w2 a n1 n2) q⟩) ad acc ka
      have back : ∀ H6 : Hp, Gro (B.lock O2) H5 H6 → H6 D = some (.lst acc) ∧ (∀ a o, ¬ (B.lock O).W a → H1 a = some o → H6 a = some o) ∧ (B.lock O).J H6 ∧ DqA (B.lock O2).W H6 acc ad := fun H6 g6 => by
        refine ⟨(g6.2.2 D _ o2D).2, fun a o w q => g6.1 a o (mv a o w q).1 (k5 a o (mv a o w q).1 (mv a o w q).2), ⟨g6.2.1, fun a o q => ?_⟩, ka5.gro g6⟩
        have ha : a ≠ D := fun z => by subst z; rw [oD] at q; cases q
        exact g6.2.2 a o ((o2 a ha).trans q)
      refine hs i d ad ed inv O2 (wipe σ vs) H5 x j5 sl5 kx _ fun e2 σ2 q2 sl2 wp => ⟨wp.trans wipe_wipe, q2 O2 σ2 H5 j5 sl2 _ fun b H6 q6 g6 => ?_⟩
      cases b with
      | false =>
        rw [if_neg Bool.false_ne_true]
        rw [if_neg Bool.false_ne_true] at q6
        obtain ⟨b1, b2, b3, b4⟩ := back H6 g6
        exact ⟨acc, ad, b1, DqA.to (fun a o w q => ⟨fun z => z.elim (w2' a w).1 (w2' a w).2, q⟩) ad acc b4, q6, Nat.le_succ_of_le hl, b2, b3⟩
      | true =>
        rw [if_pos rfl]
        rw [if_pos rfl] at q6
        refine q6 O2 σ2 H6 g6.2 (sl2.gro g6) _ fun y v7 H7 q7 g7 k7 => ?_
        obtain ⟨b1, b2, b3, b4⟩ := back H7 (g6.trans g7)
        have mvu : ∀ a o, ¬ (B.lock O2).W a → H7 a = some o → ¬ ((B.lock O).W a ∨ a = D) ∧ (upd H7 D (.lst (acc ++ [v7]))) a = some o := fun a o w q => ⟨fun z => z.elim (w2' a w).1 (w2' a w).2, by rw [upd_ne (w2' a w).2]; exact q⟩
        refine ⟨acc, b1, Nat.lt_of_le_of_lt hl (Nat.lt_of_lt_of_le (Nat.lt_of_lt_of_le hi hlen) (by decide)), acc ++ [v7], ad ++ [y], upd_same, (DqA.to mvu ad acc b4).append (.cons (Dq.to mvu y v7 k7) .nil), q7, ?_, fun a o w q => by rw [upd_ne (ne_of_none q hD)]; exact b2 a o w q, (B.lock O).loc H7 _ (fun a w => upd_ne (fun z => nD (z ▸ w))) b3⟩
        rw [List.length_append, List.length_singleton]
        omega
    rcases y with ⟨d, e2, e3, k⟩ | ⟨T, x1, x2, d1, d2, e2, e3, e4, e5, k1, k2⟩
    · subst e3
      exact fin _ x d (jO2 _ jj e1) (fun _ _ _ q => q) e2 (Dq.to mv d x k)
    · subst e2
      subst e4
      have jz := jO2 _ jj e1
      have g4 : Gro (B.lock O2) H3 (upd H3 T (.tup [x1, x2])) := .new jz e3
      have nT := Fr.fresh jz e3
      exact fin _ _ _ g4.2 g4.1 e5 (.tup nT upd_same (.cons ((Dq.to mv d1 x1 k1).gro g4) (.cons ((Dq.to mv d2 x2 k2).gro g4) .nil)))
  · refine r _ _ H3 (hd ad inv) ⟨fun a o w q => kp a o w (gr.1 a o w q), jj⟩ (.lst nD e1 (DqA.to (fun a o w q => ⟨fun z => w (.inl z), q⟩) ad acc ka))
/-- each item made by itself: f -/
theorem ew_lcMap {wi : TI} {g : TG} {te : TE} {P : PyData → Prop} (f : PyData → PyData) (h : IT B env wi fun ds => ds.length ≤ 100000 ∧
    (∀ d, d ∈ ds → GC B vs (wipeE env vs) g d fun e2 => EW B e2 te fun y => y = f d) ∧ P (.list (ds.map f))) : EW B env (tLc wi g tYes te vs) P := by
  refine ew_lc fun O σ H j s R r => h O σ H j s R fun ds J H2 ⟨hl, hs, hp⟩ gr w => r ds J H2 ⟨hl, fun i acc => acc = (ds.take i).map f, rfl, fun i d acc e inv => ?_, fun acc inv => ?_⟩ gr w
  · intro O σ H v j s k R r
    refine hs d (List.mem_of_getElem? e) O σ H v j s k R fun e2 σ2 q s2 w2 => r e2 σ2 (tw_yes ?_) s2 w2
    rw [if_pos rfl]
    refine q.mono fun y hy => ?_
    subst inv
    rw [hy, List.take_add_one, e, List.map_append]
    rfl
  · subst inv
    rw [List.take_length]
    exact hp
/-- .. or drawn: each is G -/
theorem ew_lcAll {wi : TI} {g : TG} {te : TE} {P : PyData → Prop} (G : PyData → Prop) (h : IT B env wi fun ds => ds.length ≤ 100000 ∧
    (∀ d, d ∈ ds → GC B vs (wipeE env vs) g d fun e2 => EW B e2 te G) ∧ ∀ acc : List PyData, acc.length = ds.length → (∀ y, y ∈ acc → G y) → P (.list acc)) : EW B env (tLc wi g tYes te vs) P := by
  refine ew_lc fun O σ H j s R r => h O σ H j s R fun ds J H2 ⟨hl, hs, hp⟩ gr w => r ds J H2 ⟨hl, fun i acc => acc.length = i ∧ ∀ y, y ∈ acc → G y, ⟨rfl, fun _ h => by cases h⟩, fun i d acc e inv => ?_, fun acc inv => ?_⟩ gr w
  · intro O σ H v j s k R r
    refine hs d (List.mem_of_getElem? e) O σ H v j s k R fun e2 σ2 q s2 w2 => r e2 σ2 (tw_yes ?_) s2 w2
    rw [if_pos rfl]
    refine q.mono fun y hy => ⟨by rw [List.length_append, List.length_singleton, inv.1], fun z hz => ?_⟩
    rcases List.mem_append.mp hz with m | m
    · exact inv.2 z m
    · have : z = y := by simpa using m
      subst this
      exact hy
  · exact hp acc inv.1 inv.2
end

/-! ### a def -/
theorem slots_len {W : Addr → Prop} {O : Lk} {H : Hp} {vs : List V} {es : List Ent} (h : Slots W O H (vs.map some) es) : vs.length = es.length := by
  induction es generalizing vs with
  | nil => cases vs with
    | nil => rfl
    | cons _ _ => exact h.elim
  | cons e es ih => cases vs with
    | nil => exact h.elim
    | cons v vs => rw [List.length_cons, List.length_cons, ih h.2]
theorem slots_app {W : Addr → Prop} {O : Lk} {H : Hp} {vs : List V} {es : List Ent} (n : Nat) (h : Slots W O H (vs.map some) es) : Slots W O H (vs.map some ++ List.replicate n none) (es ++ List.replicate n .non) := by
  induction es generalizing vs with
  | nil => cases vs with
    | nil =>
      show Slots _ _ _ (List.replicate n none) (List.replicate n .non)
      clear h
      induction n with
      | zero => trivial
      | succ n ih => exact ⟨trivial, ih⟩
    | cons _ _ => exact h.elim
  | cons e es ih => cases vs with
    | nil => exact h.elim
    | cons v vs => exact ⟨h.1, ih h.2⟩
theorem owned_app (es : List Ent) (n : Nat) : owned (es ++ List.replicate n .non) = owned es := by
  induction es with
  | nil => induction n with
    | zero => rfl
    | succ n ih => exact ih
  | cons e es ih => cases e <;> first | exact ih | (show _ :: owned (es ++ List.replicate n .non) = _; rw [ih]; rfl)
/-- from a body's reading over data to its reading over the heap -/
theorem sp_run {B : Fr} {O : Lk} {es : List Ent} {R : PyData → Prop} {H : Hp} {vs : List V} {Q : VK} {N ps : List Str} {t : TS} (hl : es.length = ps.length) (no : owned es = []) (j : (B.lock O).J H) (sl : Slots (B.lock O).W O H (vs.map some) es)
    (q : ∀ d v H2, R d → Gro (B.lock O) H H2 → Dq (B.lock O).W H2 v d → Q v H2) (hw : SW B (es ++ List.replicate (N.length - ps.length) .non) t ⟨fun _ => R .none, R, fun _ => False, fun _ => False⟩) :
    t { nx := fun _ H' => Q .non H', rt := Q } (L2.start N vs) H := by
  have back : ∀ H2, Rt B O H (fun _ => False) H2 → Gro (B.lock O) H H2 := fun H2 r2 => ⟨fun a o w e => r2.2 a o (fun z => w (.inl z)) (by
      cases z : O a with
      | none => rfl
      | some o' => exact absurd (Or.inr (by rw [z]; exact nofun)) w) (fun z => z) e, r2.1⟩
  refine hw O H (fun _ => False) O (L2.start N vs) H _ ⟨j, ?_, ?_, fun a o e => ⟨e, ?_⟩, fun _ _ _ _ _ e => e, fun a e => .inl e⟩ ⟨fun e2 O2 σ2 H2 n s2 => q .none .non H2 n (back H2 s2.rt) .non, fun d v H2 n r2 k2 => q d v H2 n (back H2 r2) k2, fun _ _ _ _ z => z.elim, fun _ _ _ _ z => z.elim⟩
  · have l1 : vs.length = ps.length := (slots_len sl).trans hl
    unfold L2.start
    rw [l1]
    exact slots_app _ sl
  · rw [owned_app, no]
    exact List.nodup_nil
  · rw [owned_app, no]
    exact nofun
theorem fn_dl {P : Program} {w : World} {K : PySem.W.Frag} {mg : Str → Option Value} {base : Heap} {x qual : Str} {st : Stmt} {f : Addr} {fd : FuncData} {N ps : List Str} {k : Nat} {m : Fr → List Ent → (PyData → Prop) → Prop}
    (F : Fun K x qual st f fd) (S : FnScope N ps (defScope st)) (len : ∀ B es R, m B es R → es.length = ps.length)
    (body : ∀ (cdv : Value) (A : Around) (outer : List Env) (s : Shared) (H : Hp) (E : XK), Room k (A.deeper (envOfC qual (defScope st) s.heap.objs.size f cdv)) → ∀ (B : Fr) (es : List Ent) (R : PyData → Prop), m B es R →
      ∃ t, PSs (cxOf CX0 P w K mg base N qual (defScope st) f cdv A outer s H E).nox (defBody st) t ∧ SW B (es ++ List.replicate (N.length - ps.length) .non) t ⟨fun _ => R .none, R, fun _ => False, fun _ => False⟩) :
    FnOk P w K mg base CX0 (k + 1) f fd ps (spG m) := by
  refine F.ok S (fun vs H Q E ⟨B, O, es, R, hm, _, _, sl, _⟩ => (slots_len sl).trans (len B es R hm)) fun cdv A outer s H vs Q E hr ⟨B, O, es, R, hm, no, j, sl, q⟩ => ?_
  obtain ⟨t, ht, hw⟩ := body cdv A outer s H E hr B es R hm
  exact ⟨t, ht, sp_run (len B es R hm) no j sl q hw⟩

/-! ### what a def of the module is, for its callers -/
def Has (P : Program) (w : World) (K : PySem.W.Frag) (mg : Str → Option Value) (base : Heap) (x : Str) (k : Nat) (ps : List Str) (sp : Sp) : Prop :=
  ∃ f fd, FnOk P w K mg base CX0 k f fd ps sp ∧ mg x = some (.ref f) ∧ PySem.W.keepIn K (.ref f) = true ∧ Binds K fd ps []
theorem Has.call {X : Cx} {x : Str} {k j : Nat} {ps : List Str} {sp : Sp} {p pos : Pos} {e : Expr} {es : List Expr} {t : TA} (h : Has X.prog X.w X.K X.mg X.base x k ps sp) (hr : Room j X.A) (ha : PA X (e :: es) t) (hk : k ≤ j := by decide) (hg : Gl X x := by rfl)
    (hdb : (x == ("__debug__" : Str)) = false := by decide) (he : starEach (e :: es) X.env = (false, eval e X.env) :: starEach es X.env := by rfl) (hpl : (backTo pos (starEach es X.env)).any (·.1) = false := by rfl) :
    PE X (.Call (.Name x p) (e :: es) [] pos) (tCall sp [] E0 t) := by
  obtain ⟨f, fd, F, m, kp, b⟩ := h
  exact pe_call F (hr.mono hk) hg m kp b .nil pass0 ha hdb he hpl
end Dl
end
section
set_option Elab.async false
set_option linter.all false
set_option maxRecDepth 100000
/-! repr of data at any depth, ints of up to 4,200 figures: the limit of figures is known from the top's statics -/
namespace Dl
open PySem L2 PySem.Spec PyProof.Rows

def NoDig (h : Heap) : Prop := ∃ mc, h.Ns cStatics mc ∧ mc "sys.int_max_str_digits" = none
theorem NoDig.keeps {h h' : Heap} (n : NoDig h) (k : ∀ b o, h.get? b = some o → h'.get? b = some o) : NoDig h' := by
  obtain ⟨mc, a, b⟩ := n
  exact ⟨mc, a.keeps k, b⟩
section
variable {prog : Program} {w : World} {A : Around} {E : Value → Shared → Prop} {s : Shared}
theorem digits_none {a : Int} {Q : Option Nat → Shared → Prop} (n : NoDig s.heap) (ha : a.natAbs.log2 < 12900) (h : Q none s) : wpAny (model prog w) A (Builtin.overDigitLimit? a) Q E s := by
  obtain ⟨mc, hn, hm⟩ := n
  unfold Builtin.overDigitLimit?
  by_cases h0 : a.natAbs.log2 < 1920
  · rw [if_pos h0]
    exact wpAny_pure h
  · rw [if_neg h0]
    refine wpAny_bind (m := Builtin.intMaxStrDigits) ?_
    unfold Builtin.intMaxStrDigits
    refine wpAny_bind (wpAny_nsGet hn ?_)
    rw [hm]
    refine wpAny_pure ?_
    have h1 : ¬ (a.natAbs.log2 / 30 + 1 > 1000) := by omega
    have h2 : a.natAbs.log2 < 3 * 4300 := by omega
    simp only [h1, if_false, h2, decide_true, Bool.or_true, if_true]
    exact wpAny_pure h
theorem int_repr_big {a : Int} {t : Tok} {Q : Fin → Shared → Prop} (n : NoDig s.heap) (ha : a.natAbs.log2 < 12900) (h : Q (.done (.ret (.str (toString a) s.toks))) { s with toks := s.toks + 1 }) :
    wpAny (model prog w) A (Builtin.«int.__repr__» ⟨[.int a t], []⟩) Q E s := by
  have hsz : (Str.ofString (toString a)).length ≤ sizeLine := by
    have e := int_text_length_le (k := 12900) (by decide) ha
    rw [PySem.ofString_length, sizeLine_eq]
    omega
  unfold Builtin.«int.__repr__»
  show wpAny _ A (do let r ← Builtin.overDigitLimit? a; _) Q E s
  refine wpAny_bind (digits_none n ha ?_)
  show wpAny _ A (do let v ← mkStr (Str.ofString (toString a)); _) Q E s
  exact wpAny_bind (wpAny_mkStr (wpAny_pure h) hsz)
theorem reprObj_big {a : Int} {t : Tok} {Q : Value → Shared → Prop} (n : NoDig s.heap) (hu : A.units < cLine) (ha : a.natAbs.log2 < 12900) (h : ∀ tk u, Q (.str (toString a) u) { s with toks := tk }) : wpAny (model prog w) A (pyReprObj (.int a t)) Q E s := by
  refine wpAny_pyReprObj_slot hu (typeIs_int s a t) F.slot_int_repr.toG (wpAny_call (codeAny_call_builtin F.slot_int_repr.plain F.entry_int_repr (F.slot_int_repr.check _ _ _ _ _ _ _ _ (typeIs_int s a t) (F.args_int_repr_1 _) (int_repr_big n ha ?_))))
  exact ⟨_, _, rfl, h _ _⟩
end
theorem reprK_int {prog : Program} {w : World} {as : List Addr} {h₀ : Heap} {d : Nat} {a : Int} {t : Tok} (n : NoDig h₀) (ha : a.natAbs.log2 < 12900) : ReprK prog w as h₀ d (.int a t) (toString a) := by
  intro base hb A g E s Q _ _ hu hk hQ
  rw [pyReprUnder_leaf (v := .int a t) (by omega) (fun _ e => nomatch e)]
  unfold pyRepr
  exact wpAny_bind (reprObj_big (n.keeps hk) (by omega) ha fun tk u => wpAny_pure (hQ s.heap tk fun _ _ e => e))

/-- data that may be shown -/
def Shw : PyData → Prop
  | .int i => i.natAbs.log2 < 12900
  | .list xs => ∀ x ∈ xs, Shw x
  | .tuple xs => ∀ x ∈ xs, Shw x
  | .dict _ => False
  | _ => True
mutual
theorem noX_shw : ∀ d : PyData, Shw d → NoX d = true
  | .none, _ => by rw [NoX]
  | .bool _, _ => by rw [NoX]
  | .int _, _ => by rw [NoX]
  | .str _, _ => by rw [NoX]
  | .list ds, h => by unfold Shw at h; rw [NoX]; exact noXA_shw ds h
  | .tuple ds, h => by unfold Shw at h; rw [NoX]; exact noXA_shw ds h
  | .dict _, h => by unfold Shw at h; exact h.elim
theorem noXA_shw : ∀ ds : List PyData, (∀ d ∈ ds, Shw d) → NoXA ds = true
  | [], _ => by rw [NoXA]
  | d :: ds, h => by
    rw [NoXA, noX_shw d (h d List.mem_cons_self), noXA_shw ds fun x hx => h x (List.mem_cons_of_mem _ hx)]
    rfl
end
mutual
theorem reprK_of {prog : Program} {w : World} {h₀ : Heap} (n : NoDig h₀) : ∀ {v : Value} {d : PyData} {as : List Addr}, Reads h₀ v d as → Shw d → d.shown.length ≤ sizeLine → ∃ bs, ReadAtMost h₀ d.depth bs ∧ ReprK prog w bs h₀ d.depth v d.shown
  | _, _, _, .none, _, _ => ⟨[], nofun, ReprK.of_is ReprIs.none _ _ _⟩
  | _, _, _, .bool b, _, _ => ⟨[], nofun, by rw [PyData.shown]; exact ReprK.of_is (ReprIs.bool b) _ _ _⟩
  | _, _, _, .int i t, hs, _ => ⟨[], nofun, by rw [PyData.shown]; exact reprK_int n (by unfold Shw at hs; exact hs)⟩
  | _, _, _, .str x t, _, hz => ⟨[], nofun, by rw [PyData.shown] at hz ⊢; exact ReprK.of_is (ReprIs.str x t hz) _ _ _⟩
  | _, _, _, .list (a := a) (vs := vs) (xs := xs) h1 h2 h3 h4, hs, hz => by
    unfold Shw at hs
    rw [PyData.shown] at hz
    obtain ⟨bs, hb, hk⟩ := reprKs_of n h4 hs (fun t ht => Nat.le_trans (listText_mem_le ht) hz)
    have r : Reads h₀ (.ref a) (.list xs) _ := .list h1 h2 h3 h4
    have hna : a ∉ bs := not_mem_of_deeper r (by rw [PyData.depth]; omega) hb
    refine ⟨a :: bs, ReadAtMost.cons r (by rw [PyData.depth]; omega) hb, ?_⟩
    rw [PyData.depth, PyData.shown]
    obtain ⟨l⟩ := vs
    cases l with
    | nil =>
      have z : ReadsAll h₀ [] xs _ := h4
      cases z
      rw [PyData.shownAll, listText_nil]
      exact .listEmpty h1 h2 h3
    | cons x l => exact .list h1 h2 h3 hna (by simpa using hk.length_eq) (fun i y e => hk.item i y (by simpa using e))
  | _, _, _, .tuple (a := a) (xs := xs) h1 h2 h3 h4, hs, hz => by
    unfold Shw at hs
    rw [PyData.shown] at hz
    obtain ⟨bs, hb, hk⟩ := reprKs_of n h4 hs (fun t ht => Nat.le_trans (tupleText_mem_le ht) hz)
    have r : Reads h₀ (.ref a) (.tuple xs) _ := .tuple h1 h2 h3 h4
    have hna : a ∉ bs := not_mem_of_deeper r (by rw [PyData.depth]; omega) hb
    refine ⟨a :: bs, ReadAtMost.cons r (by rw [PyData.depth]; omega) hb, ?_⟩
    rw [PyData.depth, PyData.shown]
    exact .tuple h1 h2 h3 hna hk
  | _, _, _, .dict _ _ _ _ _, hs, _ => by
    unfold Shw at hs
    exact hs.elim
theorem reprKs_of {prog : Program} {w : World} {h₀ : Heap} (n : NoDig h₀) : ∀ {vs : List Value} {ds : List PyData} {as : List Addr}, ReadsAll h₀ vs ds as → (∀ x ∈ ds, Shw x) → (∀ t ∈ PyData.shownAll ds, t.length ≤ sizeLine) →
    ∃ bs, ReadAtMost h₀ (PyData.depthAll ds) bs ∧ ReprAllK prog w bs h₀ (PyData.depthAll ds) vs (PyData.shownAll ds)
  | _, _, _, .nil, _, _ => ⟨[], nofun, by rw [PyData.shownAll]; exact .nil⟩
  | _, _, _, .cons (d := d) (ds := ds) r rs, hs, hz => by
    rw [PyData.shownAll] at hz
    obtain ⟨b1, hb1, k1⟩ := reprK_of n r (hs d List.mem_cons_self) (hz _ List.mem_cons_self)
    obtain ⟨b2, hb2, k2⟩ := reprKs_of n rs (fun x hx => hs x (List.mem_cons_of_mem _ hx)) (fun t ht => hz t (List.mem_cons_of_mem _ ht))
    refine ⟨b1 ++ b2, ?_, ?_⟩
    · rw [PyData.depthAll]
      exact (hb1.mono (Nat.le_max_left _ _)).append (hb2.mono (Nat.le_max_right _ _))
    · rw [PyData.depthAll, PyData.shownAll]
      exact .cons ((k1.more fun b hb => List.mem_append_left _ hb).level_le (Nat.le_max_left _ _)) (k2.more_le (fun b hb => List.mem_append_right _ hb) (Nat.le_max_right _ _))
end

/-- repr(d): what is written is hung on the data alone -/
def rReprB (K : PySem.W.Frag) : List V → Hp → VK → Prop := fun vs H Q => ∃ v d, vs = [v] ∧ Dp K H v d ∧ (∃ ds, d = .list ds ∨ d = .tuple ds) ∧ Shw d ∧ d.depth ≤ 50 ∧ d.shown.length ≤ sizeLine ∧ Q (.str d.shown) H
theorem call_reprB {X : Cx} (n : NoDig X.base) (hg : X.A.guards = some []) (hu : X.A.units + 64 < cLine) : CallR X (.builtin "repr") (rReprB X.K) := by
  intro pins s σ H vs us Q I r h
  obtain ⟨v, d, rfl, hd, hl, hs, hdp, hz, q⟩ := h
  cases r with
  | @cons _ u _ _ r1 rr =>
    cases rr
    obtain ⟨as, rd⟩ := Dp.reads I d v u hd r1
    have nd := n.keeps I.bk
    obtain ⟨bs, hb, hk⟩ := reprK_of (prog := X.prog) (w := X.w) nd rd hs hz
    have fin : ∀ (h' : Heap) (u : Tok) (tk : Nat), (∀ b o, s.heap.get? b = some o → h'.get? b = some o) → EP X pins σ Q (.str d.shown u) { s with heap := h', toks := tk } := fun h' u tk k => ⟨.str d.shown, H, I.kept (t' := tk) k, ⟨u, rfl⟩, q⟩
    obtain ⟨ds, hl⟩ := hl
    rcases hl with rfl | rfl
    · cases rd with
      | @list a o vs n' xs as' h1 h2 h3 h4 =>
        rw [PyData.shown] at hz fin
        unfold Shw at hs
        obtain ⟨bs, hb, hk⟩ := reprKs_of (prog := X.prog) (w := X.w) nd h4 hs (fun t ht => Nat.le_trans (listText_mem_le ht) hz)
        have r : Reads s.heap (.ref a) (.list ds) _ := .list h1 h2 h3 h4
        have hna : a ∉ bs := not_mem_of_deeper r (by rw [PyData.depth]; omega) hb
        rw [PyData.depth] at hdp
        refine call_repr_slot (T := "list") (idr := "list.__repr__") (by omega) ⟨o, h1, h2⟩ F.slot_list_repr.toG ?_
        obtain ⟨l⟩ := vs
        cases l with
        | nil =>
          have z : ReadsAll s.heap [] ds _ := h4
          cases z
          rw [PyData.shownAll, listText_nil] at fin
          exact call_list_repr_empty ⟨o, h1, h2⟩ h1 h3 ⟨_, _, rfl, fin s.heap _ _ fun _ _ e => e⟩
        | cons x l =>
          exact call_list_reprK h1 h2 h3 hna (by simpa using hk.length_eq) (fun i y e => hk.item i y (by simpa using e)) (A := X.A.in1) (g := []) hg (fun b _ => Clear.nil b) (by show X.A.units + 1 + _ < cLine; omega) (fun _ _ e => e) (fun h' u tk k => ⟨_, _, rfl, fin h' u tk k⟩) hz
    · cases rd with
      | @tuple a o vs n' xs as' h1 h2 h3 h4 =>
        rw [PyData.shown] at hz fin
        unfold Shw at hs
        obtain ⟨bs, hb, hk⟩ := reprKs_of (prog := X.prog) (w := X.w) nd h4 hs (fun t ht => Nat.le_trans (tupleText_mem_le ht) hz)
        have r : Reads s.heap (.ref a) (.tuple ds) _ := .tuple h1 h2 h3 h4
        have hna : a ∉ bs := not_mem_of_deeper r (by rw [PyData.depth]; omega) hb
        rw [PyData.depth] at hdp
        refine call_repr_slot (T := "tuple") (idr := "tuple.__repr__") (by omega) ⟨o, h1, h2⟩ F.slot_tuple_repr ?_
        exact call_tuple_reprK h1 h2 h3 hna hk (A := X.A.in1) (g := []) hg (fun b _ => Clear.nil b) (by show X.A.units + 1 + _ < cLine; omega) (fun _ _ e => e) (fun h' u tk k => ⟨_, _, rfl, fin h' u tk k⟩) hz
theorem cd_repr {K : PySem.W.Frag} {Q : PyData → Prop} {ds : List PyData} (h : ∃ d, ds = [d] ∧ (∃ xs, d = .list xs ∨ d = .tuple xs) ∧ Shw d ∧ d.depth ≤ 50 ∧ d.shown.length ≤ sizeLine ∧ Q (.str d.shown)) : CD (rReprB K) ds Q := fun F H vs j k R r => by
  obtain ⟨d, rfl, h1, h2, h3, h4, q⟩ := h
  cases k with
  | cons k1 k2 =>
    cases k2
    exact ⟨_, d, rfl, Dq.dp K _ _ (noX_shw _ h2) k1, h1, h2, h3, h4, r _ _ H q (.refl j) (.str _)⟩
end Dl
end
section
set_option Elab.async false
set_option linter.all false
set_option maxRecDepth 100000
namespace Dl
open PySem L2 PySem.Spec PyProof.Rows RZ

/-! ### operators whose kind is told by the data -/
section
variable {X : Cx}
def rAddA (K : PySem.W.Frag) : R2 := fun x y H Q => rI0 (fun i j => V.int (i + j)) x y H Q ∨ rCat x y H Q ∨ rCatA K x y H Q
theorem op_addA : OpR X (binaryOp .Add) (rAddA X.K) := fun pins s σ H x y v u Q I rx ry h => by
  rcases h with h | h | h
  · exact op_add pins s σ H x y v u Q I rx ry h
  · exact op_cat pins s σ H x y v u Q I rx ry h
  · exact op_catA pins s σ H x y v u Q I rx ry h
def CMulA (i j : Int) : Prop := CMulW i j ∨ CMul i j
def rMulA (K : PySem.W.Frag) : R2 := fun x y H Q => rI CMulA (fun i j => V.int (i * j)) x y H Q ∨ rRep x y H Q ∨ rRepT K x y H Q
theorem op_mulA : OpR X (binaryOp .Mult) (rMulA X.K) := fun pins s σ H x y v u Q I rx ry h => by
  rcases h with h | h | h
  · obtain ⟨i, j, rfl, rfl, c, q⟩ := h
    rcases c with c | c
    · obtain ⟨t, rfl⟩ := rx
      obtain ⟨t', rfl⟩ := ry
      exact mul_int ⟨.int _, H, I.tok _, ⟨_, rfl⟩, q⟩ c.ok
    · exact op_mul pins s σ H _ _ v u Q I rx ry ⟨i, j, rfl, rfl, c, q⟩
  · exact op_rep pins s σ H x y v u Q I rx ry h
  · exact op_repT pins s σ H x y v u Q I rx ry h
def CDivG (_ j : Int) : Prop := j ≠ 0 ∧ j.natAbs.log2 < 9000
theorem op_fdivG : OpR X (binaryOp .FloorDiv) (rI CDivG fun i j => .int (i.fdiv j)) := fun pins s σ H x y v u Q I rx ry h => by
  obtain ⟨i, j, rfl, rfl, c, q⟩ := h
  obtain ⟨t, rfl⟩ := rx
  obtain ⟨t', rfl⟩ := ry
  exact floordiv_int c.1 ⟨.int _, H, I.tok _, ⟨_, rfl⟩, q⟩ (.inl (PyProof.noPylong_of_log2 c.2))
def rEqA (K : PySem.W.Frag) : R2 := fun x y H Q => rEq x y H Q ∨ rEqD K x y H Q
def rNeA (K : PySem.W.Frag) : R2 := fun x y H Q => rNe x y H Q ∨ rNeD K x y H Q
theorem op_eqA (hu : X.A.units + 64 < cLine) : OpR X (compareOp .Eq) (rEqA X.K) := fun pins s σ H x y v u Q I rx ry h => by
  rcases h with h | h
  · exact op_eq pins s σ H x y v u Q I rx ry h
  · exact op_eqD hu pins s σ H x y v u Q I rx ry h
theorem op_neA (hu : X.A.units + 64 < cLine) : OpR X (compareOp .NotEq) (rNeA X.K) := fun pins s σ H x y v u Q I rx ry h => by
  rcases h with h | h
  · exact op_ne pins s σ H x y v u Q I rx ry h
  · exact op_neD hu pins s σ H x y v u Q I rx ry h
def rSlAny (K : PySem.W.Frag) : V → Option Int → Option Int → Hp → VK → Prop := fun x lo hi H Q => rSlL K x lo hi H Q ∨ rSlA K x lo hi H Q
theorem sl_any : SlR X (rSlAny X.K) := fun pins s σ H x v vl vu lo hi sl Q I rx hs pl pu h => by
  rcases h with h | h
  · exact sl_list pins s σ H x v vl vu lo hi sl Q I rx hs pl pu h
  · exact sl_tupA pins s σ H x v vl vu lo hi sl Q I rx hs pl pu h
end
section
variable {K : PySem.W.Frag} {Q : PyData → Prop} {x y : PyData}
theorem od_addI (h : ∃ i j, x = .int i ∧ y = .int j ∧ Q (.int (i + j))) : OD (rAddA K) x y Q := fun F H u v j kx ky R r => .inl (od_I0 (f := fun i j => i + j) h F H u v j kx ky R r)
theorem od_addL (h : ∃ xs ys, x = .list xs ∧ y = .list ys ∧ xs.length + ys.length ≤ 100000 ∧ Q (.list (xs ++ ys))) : OD (rAddA K) x y Q := fun F H u v j kx ky R r => .inr (.inl (od_cat h F H u v j kx ky R r))
theorem od_addT (h : ∃ xs ys, x = .tuple xs ∧ y = .tuple ys ∧ xs.length + ys.length ≤ 100000 ∧ Q (.tuple (xs ++ ys))) : OD (rAddA K) x y Q := fun F H u v j kx ky R r => .inr (.inr (by
  obtain ⟨xs, ys, rfl, rfl, hl, q⟩ := h
  cases kx with
  | @tup a vl _ w e ha =>
    cases ky with
    | @tup b ul _ w2 e2 hb =>
      have l1 := ha.len
      have l2 := hb.len
      refine ⟨a, b, vl, ul, rfl, rfl, SqT.of e, SqT.of e2, ?_, fun z => ?_, fun z1 z => ?_, fun z1 z p hp => ?_⟩
      · rw [l1, l2]; exact Nat.le_trans hl (by decide)
      · subst z
        have z2 : xs = [] := List.length_eq_zero_iff.mp (by simpa using l1.symm)
        subst z2
        exact r _ _ _ q (.refl j) (.tup w2 e2 hb)
      · subst z
        have z2 : ys = [] := List.length_eq_zero_iff.mp (by simpa using l2.symm)
        subst z2
        rw [List.append_nil] at q
        exact r _ _ _ q (.refl j) (.tup w e ha)
      · have g : Gro F H (upd H p (.tup (vl ++ ul))) := .new j hp
        exact r _ _ _ q g (.tup (Fr.fresh j hp) upd_same ((ha.append hb).gro g))))
theorem od_mulI (h : ∃ i j, x = .int i ∧ y = .int j ∧ CMulA i j ∧ Q (.int (i * j))) : OD (rMulA K) x y Q := fun F H u v j kx ky R r => .inl (od_I (f := fun i j => i * j) h F H u v j kx ky R r)
theorem od_eqS' {a b : Str} (q : Q (.bool (decide (a = b)))) : OD (rEqA K) (.str a) (.str b) Q := fun F H u v j kx ky R r => .inl (od_eqS ⟨a, b, rfl, rfl, q⟩ F H u v j kx ky R r)
theorem od_neS' {a b : Str} (q : Q (.bool (!decide (a = b)))) : OD (rNeA K) (.str a) (.str b) Q := fun F H u v j kx ky R r => .inl (od_neS ⟨a, b, rfl, rfl, q⟩ F H u v j kx ky R r)
theorem od_eqI' {a b : Int} (q : Q (.bool (decide (a = b)))) : OD (rEqA K) (.int a) (.int b) Q := fun F H u v j kx ky R r => .inl (od_eqI ⟨a, b, rfl, rfl, q⟩ F H u v j kx ky R r)
theorem od_neI' {a b : Int} (q : Q (.bool (!decide (a = b)))) : OD (rNeA K) (.int a) (.int b) Q := fun F H u v j kx ky R r => .inl (od_neI ⟨a, b, rfl, rfl, q⟩ F H u v j kx ky R r)
theorem od_eqD' (h : SeqAt.shaped x = true ∧ SeqAt.shaped y = true ∧ Q (.bool (PyData.eqv x y))) : OD (rEqA K) x y Q := fun F H u v j kx ky R r => .inr ⟨x, y, Dq.dp K x _ (noX_shaped h.1) kx, Dq.dp K y _ (noX_shaped h.2.1) ky, h.1, h.2.1, r _ _ H h.2.2 (.refl j) (.bl _)⟩
theorem od_neD' (h : SeqAt.shaped x = true ∧ SeqAt.shaped y = true ∧ Q (.bool (!PyData.eqv x y))) : OD (rNeA K) x y Q := fun F H u v j kx ky R r => .inr ⟨x, y, Dq.dp K x _ (noX_shaped h.1) kx, Dq.dp K y _ (noX_shaped h.2.1) ky, h.1, h.2.1, r _ _ H h.2.2 (.refl j) (.bl _)⟩
/-! slices -/
def cutD (xs : List PyData) (lo hi : Option Int) : List PyData := (xs.drop (HT.sIx xs.length 0 lo)).take (HT.sIx xs.length xs.length hi - HT.sIx xs.length 0 lo)
def SD (r : V → Option Int → Option Int → Hp → VK → Prop) (x : PyData) (lo hi : Option Int) (Q : PyData → Prop) : Prop := ∀ (F : Fr) (H : Hp) (u : V), F.J H → Dq F.W H u x → ∀ R : VK, (∀ d w H2, Q d → Gro F H H2 → Dq F.W H2 w d → R w H2) → r u lo hi H R
def EO (B : Fr) (env : List Ent) (to : TO) (Q : Option Int → Prop) : Prop := ∀ (O : Lk) (σ : L2.St) (H : Hp), (B.lock O).J H → Slots (B.lock O).W O H σ env → ∀ R : Option Int → Hp → Prop, (∀ o H2, Q o → Gro (B.lock O) H H2 → R o H2) → to σ H R
variable {B : Fr} {env : List Ent} {te : TE} {tl th : TO}
theorem eo_none {P : Option Int → Prop} (q : P none) : EO B env tNoPart P := fun O σ H j s R r => r none H q (.refl j)
theorem eo_some {P : Option Int → Prop} (h : EW B env te fun d => ∃ i, d = .int i ∧ P (some i)) : EO B env (tPart te) P := fun O σ H j s R r =>
  h O σ H j s _ fun d v H2 ⟨i, e, q⟩ g k => by
    subst e
    cases k
    exact ⟨i, rfl, r _ H2 q g⟩
theorem ew_sl {r : V → Option Int → Option Int → Hp → VK → Prop} (h : EW B env te fun x => EO B env tl fun lo => EO B env th fun hi => SD r x lo hi Q) : EW B env (tSl r te tl th) Q := fun O σ H j s R k =>
  h O σ H j s _ fun x u H2 q g kx => q O σ H2 g.2 (s.gro g) _ fun lo H3 q3 g3 => q3 O σ H3 g3.2 ((s.gro g).gro g3) _ fun hi H4 q4 g4 =>
    q4 (B.lock O) H4 u g4.2 ((kx.gro g3).gro g4) R fun d w H5 qd g5 kd => k d w H5 qd (((g.trans g3).trans g4).trans g5) kd
theorem cut_map {W : Addr → Prop} {H : Hp} {vl : List V} {ds : List PyData} (k : DqA W H vl ds) (lo hi : Option Int) : DqA W H (cutV vl lo hi) (cutD ds lo hi) := by
  unfold cutV cutD
  rw [k.len]
  exact (k.drop _).take _
theorem sd_list {lo hi : Option Int} (h : ∃ ds, x = .list ds ∧ Q (.list (cutD ds lo hi))) : SD (rSlAny K) x lo hi Q := fun F H u j kx R r => .inl (by
  obtain ⟨ds, rfl, q⟩ := h
  cases kx with
  | @lst a vl _ w e ha =>
    refine ⟨a, vl, rfl, SqL.of e, fun p hp => ?_⟩
    have g : Gro F H (upd H p (.lst (cutV vl lo hi))) := .new j hp
    exact r _ _ _ q g (.lst (Fr.fresh j hp) upd_same ((cut_map ha lo hi).gro g)))
theorem sd_tup {lo hi : Option Int} (h : ∃ ds, x = .tuple ds ∧ Q (.tuple (cutD ds lo hi))) : SD (rSlAny K) x lo hi Q := fun F H u j kx R r => .inr (by
  obtain ⟨ds, rfl, q⟩ := h
  cases kx with
  | @tup a vl _ w e ha =>
    refine ⟨a, vl, rfl, SqT.of e, fun z => ?_, fun z p hp => ?_⟩
    · have e2 : cutD ds lo hi = ds := by
        unfold cutD
        rw [← ha.len, z.1, z.2, ha.len, List.drop_zero, Nat.sub_zero, List.take_length]
      rw [e2] at q
      exact r _ _ _ q (.refl j) (.tup w e ha)
    · have g : Gro F H (upd H p (.tup (cutV vl lo hi))) := .new j hp
      exact r _ _ _ q g (.tup (Fr.fresh j hp) upd_same ((cut_map ha lo hi).gro g)))
/-! isinstance(x, T), T a built-in type -/
def tyName : PyData → String
  | .none => "NoneType"
  | .bool _ => "bool"
  | .int _ => "int"
  | .str _ => "str"
  | .list _ => "list"
  | .tuple _ => "tuple"
  | .dict _ => ""
theorem kitB_no {T : String} {b : Bool} (h : kitB "" T = some b) (n : T ≠ "") : False := by
  have e : fastBuiltinMro "" = none := by decide +kernel
  unfold kitB at h
  rw [e] at h
  rw [if_neg (by simpa using n)] at h
  split at h <;> cases h
theorem ew_isi {T : String} (h : EW B env te fun d => ∃ b, kitB (tyName d) T = some b ∧ Q (.bool b)) (hT : T ≠ "" := by decide) : EW B env (tCB (rIsi K) (tCons te (tCons (tC (.ty T)) tNil))) Q := fun O σ H j s R r =>
  h O σ H j s _ fun d v H2 ⟨b, e, q⟩ g k => by
    refine ⟨v, .ty T, .type (tyName d), .type T, b, rfl, .ty T, .base ?_, kit_ty e, r _ _ H2 q g (.bl _)⟩
    cases k with
    | non => exact .non
    | bl b => exact .bl b
    | int i => exact .int i
    | str x => exact .str x
    | lst w e2 ha => exact .lst e2
    | tup w e2 ha => exact .tup e2
    | exc0 _ _ => exact (kitB_no e hT).elim
    | dct _ _ => exact (kitB_no e hT).elim
    | exc1 _ _ _ _ _ => exact (kitB_no e hT).elim
theorem cd_int2 {ds : List PyData} (h : ∃ b : Bool, ds = [.bool b] ∧ Q (.int (if b = true then 1 else 0))) : CD (fun vs H R => (∃ i, vs = [V.int i] ∧ R (V.int i) H) ∨ ∃ k, vs = [V.bl k] ∧ R (V.int (if k = true then 1 else 0)) H) ds Q := fun F H vs j k R r => by
  obtain ⟨b, rfl, q⟩ := h
  cases k with
  | cons k1 k2 =>
    cases k2
    cases k1
    exact .inr ⟨b, rfl, r _ _ H q (.refl j) (.int _)⟩
end
end Dl
end
section
set_option Elab.async false
set_option linter.all false
set_option maxRecDepth 100000
/-! the same rules with the written part named: inside a comprehension's block the block's own context must not show -/
namespace Dl
open PySem L2 PySem.Spec PyProof.Rows RZ
section
variable {X : Cx} {K : PySem.W.Frag}
theorem kAdd (h : X.K = K) : OpR X (binaryOp .Add) (rAddA K) := h ▸ op_addA
theorem kMul (h : X.K = K) : OpR X (binaryOp .Mult) (rMulA K) := h ▸ op_mulA
theorem kEq (h : X.K = K) (hu : X.A.units + 64 < cLine) : OpR X (compareOp .Eq) (rEqA K) := h ▸ op_eqA hu
theorem kNe (h : X.K = K) (hu : X.A.units + 64 < cLine) : OpR X (compareOp .NotEq) (rNeA K) := h ▸ op_neA hu
theorem kIn (h : X.K = K) : OpR X (compareOp .In) (rIn K false) := h ▸ op_in_seq
theorem kIx (h : X.K = K) : IxR X (rIx K) := h ▸ ix_seq
theorem kSl (h : X.K = K) : SlR X (rSlAny K) := h ▸ sl_any
def rLen (K : PySem.W.Frag) : List V → Hp → VK → Prop := fun xs H Q => ∃ p ys, xs = [V.ref p] ∧ (SqL K H p ys ∨ SqT K H p ys) ∧ Q (V.int ys.length) H
theorem kLen (h : X.K = K) : CallR X (.builtin "len") (rLen K) := h ▸ call_len_seq
def rTup (K : PySem.W.Frag) : List V → Hp → VK → Prop := fun xs H Q => ∃ p ys, xs = [V.ref p] ∧ ((SqL K H p ys ∧ ∀ l : Addr, H l = none → Q (V.ref l) (upd H l (HO.tup ys))) ∨ SqT K H p ys ∧ Q (V.ref p) H)
theorem kTup (h : X.K = K) : CallR X (.type "tuple") (rTup K) := h ▸ call_tuple_of
def rLst (K : PySem.W.Frag) : List V → Hp → VK → Prop := fun xs H Q => ∃ p ys, xs = [V.ref p] ∧ (SqL K H p ys ∨ SqT K H p ys) ∧ ∀ l : Addr, H l = none → Q (V.ref l) (upd H l (HO.lst ys))
theorem kLst (h : X.K = K) : CallR X (.type "list") (rLst K) := h ▸ call_list_of
theorem kSum (h : X.K = K) (hc : X.calm = true) : CallR X (.builtin "sum") (rSum K) := h ▸ cr_sum hc
theorem kAll (h : X.K = K) (hc : X.calm = true) : CallR X (.builtin "all") (rAll K) := h ▸ cr_all hc
theorem kAny (h : X.K = K) (hc : X.calm = true) : CallR X (.builtin "any") (rAny K) := h ▸ cr_any hc
theorem kIsi (h : X.K = K) : CallR X (.builtin "isinstance") (rIsi K) := h ▸ call_isi
theorem kRepr (h : X.K = K) (n : NoDig X.base) (hg : X.A.guards = some []) (hu : X.A.units + 64 < cLine) : CallR X (.builtin "repr") (rReprB K) := h ▸ call_reprB n hg hu
def rAbs : List V → Hp → VK → Prop := fun xs H Q => ∃ i, xs = [V.int i] ∧ Q (V.int (if i < 0 then -i else i)) H
theorem kAbs : CallR X (.builtin "abs") rAbs := call_abs
def rInt1 : List V → Hp → VK → Prop := fun xs H Q => (∃ i, xs = [V.int i] ∧ Q (V.int i) H) ∨ ∃ k, xs = [V.bl k] ∧ Q (V.int (if k = true then 1 else 0)) H
theorem kInt : CallR X (.type "int") rInt1 := call_int1
def rMax2 : List V → Hp → VK → Prop := fun xs H Q => ∃ i j, xs = [V.int i, V.int j] ∧ Q (V.int (if j > i then j else i)) H
theorem kMax2 (hc : X.calm = true) : CallR X (.builtin "max") rMax2 := call_max2 hc
theorem kTg {es : List Expr} {k : Nat} {t : TGs} {n : Nat} {pos : Pos} (hK : X.K = K) (hc : X.calm = true) (h : PGs X es t)
   (hn : (assignEach es X.env).length = n := by rfl) (hst : (assignEach es X.env).findIdx? (·.1) = none := by rfl) : PG X (.Tuple es k pos) (gTup K n t) := hK ▸ pg_tup hc h hn hst
theorem kList {tg l : Expr} {tl : TE} (hK : X.K = K) (hl : PE X l tl) : PI X tg l (iList K tl) := hK ▸ pi_list hl
theorem kTuple {tg l : Expr} {tl : TE} (hK : X.K = K) (hl : PE X l tl) : PI X tg l (iTup K tl) := hK ▸ pi_tup hl
theorem kEnum {e : Expr} {ta : TA} {p pos tpos : Pos} {elts : List Expr} {kk : Nat} (hK : X.K = K) (hg : Gl X "enumerate") (hm : X.mg "enumerate" = none) (ha : PA X [e] ta) (hs : starEach [e] X.env = [(false, eval e X.env)] := by rfl) :
    PI X (.Tuple elts kk tpos) (.Call (.Name "enumerate" p) [e] [] pos) (iEnum K ta) := hK ▸ pi_enum hg hm ha hs
theorem kZip {e e2 : Expr} {ta : TA} {p pos tpos : Pos} {elts : List Expr} {kk : Nat} (hK : X.K = K) (hg : Gl X "zip") (hm : X.mg "zip" = none) (ha : PA X [e, e2] ta)
    (hs : starEach [e, e2] X.env = (false, eval e X.env) :: starEach [e2] X.env := by rfl) (hpl : (backTo pos (starEach [e2] X.env)).any (·.1) = false := by rfl) :
    PI X (.Tuple elts kk tpos) (.Call (.Name "zip" p) [e, e2] [] pos) (iZipA K ta) := hK ▸ pi_zipA hg hm ha hs hpl
theorem kBm {o e : Expr} {es : List Expr} {to : TE} {t : TA} {T id : String} {name : Str} {r : V → List V → Hp → VK → Prop} {apos cpos : Pos} (hK : X.K = K) (pa : PlainAttrs T) (slot : Slot T name id) (hty : typeOf (.builtin id) = pure (.type "method_descriptor")) (hm : MtM X id r) (ho : PE X o to) (ha : PA X (e :: es) t) (hbase : attributeBase o name X.env (eval o X.env) = eval o X.env := by rfl) (hfew : ((backTo cpos (starEach (e :: es) X.env)).all (fun x => !x.1) && (backToKw cpos (keywordEach [] X.env)).all (fun x => x.1.isSome) && decide ((e :: es).length + ([] : List Keyword).length + (if ([] : List Keyword).isEmpty then 0 else 1) < 30)) = true := by rfl) (hline : (apos.endLine == cpos.line) = true := by rfl) (hs : starEach (e :: es) X.env = (false, eval e X.env) :: starEach es X.env := by rfl) (hplain : (backTo cpos (starEach es X.env)).any (·.1) = false := by rfl) :
    PE X (.Call (.Attribute o name apos) (e :: es) [] cpos) (tBM K T r to t) := hK ▸ pe_bm pa slot hty hm ho ha hbase hfew hline hs hplain
end
section
variable {K : PySem.W.Frag} {Q : PyData → Prop} {ds : List PyData}
theorem qLen (h : ∃ x xs, ds = [x] ∧ itemsOf x = some xs ∧ Q (.int xs.length)) : CD (rLen K) ds Q := cd_len h
theorem qTup (h : ∃ x xs, ds = [x] ∧ itemsOf x = some xs ∧ Q (.tuple xs)) : CD (rTup K) ds Q := cd_tuple h
theorem qLst (h : ∃ x xs, ds = [x] ∧ itemsOf x = some xs ∧ Q (.list xs)) : CD (rLst K) ds Q := cd_list h
theorem qAbs (h : ∃ i, ds = [.int i] ∧ Q (.int (if i < 0 then -i else i))) : CD rAbs ds Q := cd_abs h
theorem qInt (h : ∃ i, ds = [.int i] ∧ Q (.int i)) : CD rInt1 ds Q := cd_int1 h
theorem qIntB (h : ∃ b : Bool, ds = [.bool b] ∧ Q (.int (if b = true then 1 else 0))) : CD rInt1 ds Q := cd_int2 h
theorem qMax2 (h : ∃ i k, ds = [.int i, .int k] ∧ Q (.int (if k > i then k else i))) : CD rMax2 ds Q := cd_max2 h
end
end Dl
end
section
set_option Elab.async false
set_option linter.all false
set_option maxRecDepth 100000
/-! promises that hold where no repr is under way: what a def that shows lists asks of its callers -/
namespace Dl
open PySem L2 PySem.Spec PyProof.Rows
structure FnG (P : Program) (w : World) (K : PySem.W.Frag) (mg : Str → Option Value) (base : Heap) (k : Nat) (f : Addr) (fd : FuncData) (ps : List Str) (sp : Sp) : Prop where
  len : ∀ vs H Q E, sp vs H Q E → vs.length = ps.length
  go : ∀ (A : Around) (out : List Env) (s : Shared) (H : Hp) (as : Args) (us : List Value) (vs : List V) (Q : VK) (E : XK), Room k A → A.guards = some [] → Env0 P w K mg base A out s H → BindsTo s fd as (ps.zip us) → Vals vs us →
    sp vs H Q E → codeAny (model P w) A (.call (.ref f) as) (CR CX0 out P w H s Q E) s
section
variable {P : Program} {w : World} {K : PySem.W.Frag} {mg : Str → Option Value} {base : Heap} {k : Nat} {f : Addr} {fd : FuncData} {ps : List Str} {sp : Sp}
theorem toG (F : FnOk P w K mg base CX0 k f fd ps sp) : FnG P w K mg base k f fd ps sp := ⟨F.len, fun A out s H as us vs Q E r _ e b v h => F.run A out s H as us vs Q E r e b v h⟩
theorem FnG.mono {j : Nat} (F : FnG P w K mg base j f fd ps sp) (h : j ≤ k) : FnG P w K mg base k f fd ps sp := ⟨F.len, fun A out s H as us vs Q E r => F.go A out s H as us vs Q E (r.mono h)⟩
/-- a def by its body, no repr being under way -/
theorem fnG_of {name qual : Str} {params : Arguments} {body : List Stmt} {scope : Scope} {dV kV doc pm cdv ct oc : Value} {an od : Option Addr} {osl : Array (Option Value)} {N : List Str}
    (lk : K.lookup f = some ⟨oc, od, .func (PySem.W.fnOf name qual params body scope dV kV doc pm an cdv ct), osl⟩) (hcd : PySem.W.codeIn K cdv qual = true) (S : FnScope N ps scope) (hlen : ∀ vs H Q E, sp vs H Q E → vs.length = ps.length)
    (hb : ∀ (A : Around) (out : List Env) (s : Shared) (H : Hp) (vs : List V) (Q : VK) (E : XK), Room k (A.deeper (envOfC qual scope s.heap.objs.size f cdv)) → A.guards = some [] → sp vs H Q E →
      ∃ t, PSs (cxOf CX0 P w K mg base N qual scope f cdv A out s H E) body t ∧ t { nx := fun _ H' => Q .non H', rt := Q } (L2.start N vs) H) :
    FnG P w K mg base (k + 1) f (PySem.W.fnOf name qual params body scope dV kV doc pm an cdv ct) ps sp := by
  refine ⟨hlen, ?_⟩
  intro A out s H as us vs Q E room gd e0 bnd rel hs
  have kin : K.In s.heap := e0.mod.kin.keeps (fun b o z => (e0.bs b o z).1)
  have lm : s.heap.NoLimit := e0.mod.nolimit.keeps (fun b o z => (e0.bs b o z).1)
  have kinds : ∀ y, y ∈ ps.zip us → scope.names.lookup y.1 = some .local ∨ (scope.names.lookup y.1 = some .cell ∧ ((cellsFrom (s.heap.objs.size + 1) scope.names []).lookup y.1).isSome = true) := by
    intro y hy
    rcases S.par y.1 (List.of_mem_zip (a := y.1) (b := y.2) hy).1 with z | z
    · left; exact z
    · right; exact ⟨z, PySem.W.cellsFrom_some _ _ _ (Or.inl z)⟩
  refine codeAny_call_function room.depth (kin _ _ lk) rfl S.co S.gen rfl (PySem.W.codeRec_of kin hcd) (bnd _ _ _ _ (wpAny_newFunctionEnv_cells S.kind kinds fun env ee s1 st => ?_))
  subst ee
  refine ⟨lm.keeps st.toInCall.keep, codeAny_func ?_⟩
  obtain ⟨t, ht, hq⟩ := hb A out s H vs Q E (room.deeper _) gd hs
  refine wpAny_mono (ht.run [] s1 (L2.start N vs) H _ (inv_start S room.hd e0 (hlen _ _ _ _ hs) rel st) hq) (fun fl s' z => ?_) (fun _ _ z => z)
  cases fl with
  | ret u =>
    obtain ⟨v, _, H', J, rv, q⟩ := z
    exact ⟨v, H', J.os, J.bare, J.base, J.hok, rv, q⟩
  | next =>
    obtain ⟨_, H', J, q⟩ := z
    exact ⟨V.non, H', J.os, J.bare, J.base, J.hok, rfl, q⟩
  | brk => exact z.elim fun _ z => z.elim fun _ z => z.2.elim
  | cont => exact z.elim fun _ z => z.elim fun _ z => z.2.elim
theorem funG {x qual : Str} {st : Stmt} {N : List Str} (F : Fun K x qual st f fd) (S : FnScope N ps (defScope st)) (len : ∀ vs H Q E, sp vs H Q E → vs.length = ps.length)
    (hb : ∀ (cdv : Value) (A : Around) (out : List Env) (s : Shared) (H : Hp) (vs : List V) (Q : VK) (E : XK), Room k (A.deeper (envOfC qual (defScope st) s.heap.objs.size f cdv)) → A.guards = some [] → sp vs H Q E →
      ∃ t, PSs (cxOf CX0 P w K mg base N qual (defScope st) f cdv A out s H E).nox (defBody st) t ∧ t { nx := fun _ H' => Q .non H', rt := Q } (L2.start N vs) H) : FnG P w K mg base (k + 1) f fd ps sp := by
  obtain ⟨oc, od, kV, doc, pm, an, cdv, ct, osl, rfl, lk, hcd⟩ := F.ex
  exact fnG_of lk hcd S len fun A out s H vs Q E room gd hs => (hb cdv A out s H vs Q E room gd hs).elim fun t z => ⟨t, z.1.nox, z.2⟩
end
theorem guards_deeper {A : Around} {env : Env} (h : A.guards = some []) : (A.deeper env).guards = some [] := h
/-- what a def of the module is, for its callers -/
def HasG (P : Program) (w : World) (K : PySem.W.Frag) (mg : Str → Option Value) (base : Heap) (x : Str) (k : Nat) (ps : List Str) (sp : Sp) : Prop :=
  ∃ f fd, FnG P w K mg base k f fd ps sp ∧ mg x = some (.ref f) ∧ PySem.W.keepIn K (.ref f) = true ∧ Binds K fd ps []
theorem HasG.call {X : Cx} {x : Str} {k j : Nat} {ps : List Str} {sp : Sp} {p pos : Pos} {e : Expr} {es : List Expr} {t : TA} (h : HasG X.prog X.w X.K X.mg X.base x k ps sp) (hr : Room j X.A) (gd : X.A.guards = some []) (ha : PA X (e :: es) t) (hk : k ≤ j := by decide) (hg : Gl X x := by rfl)
    (hdb : (x == ("__debug__" : Str)) = false := by decide) (he : starEach (e :: es) X.env = (false, eval e X.env) :: starEach es X.env := by rfl) (hpl : (backTo pos (starEach es X.env)).any (·.1) = false := by rfl) :
    PE X (.Call (.Name x p) (e :: es) [] pos) (tCall sp [] E0 t) := by
  obtain ⟨f, fd, F, m, kp, b⟩ := h
  constructor
  intro pins s σ H Q I h
  refine wpAny_Call_Name_kw (ld_glob I hg m (PySem.W.callWith_K (h₀ := X.base) I.ok.mod.kin kp (thn (ha.run pos pins s σ H _ I h) ?_) he hpl) hdb)
  rintro us s1 ⟨vs, H1, I1, r, q⟩
  refine ⟨I1.kIn, ?_⟩
  have q' : sp vs H1 Q E0 := by
    have z : sp (vs ++ []) H1 Q E0 := q
    rw [List.append_nil] at z
    exact z
  have hl : us.length = ps.length := by rw [← r.length]; exact F.len _ _ _ _ q'
  have bb := b s1 us I1.kIn (by simpa using hl)
  rw [List.append_nil] at bb
  refine wpAny_call (codeAny_mono (F.go X.A X.stack s1 H1 ⟨us, []⟩ us vs Q E0 (hr.mono hk) gd I1.env0 bb r q') ?_)
  intro rr s' hq
  cases rr with
  | error e => exact hq.elim
  | ok fl =>
    cases fl with
    | ret u => exact I1.after hq
    | next => exact hq.elim
    | brk => exact hq.elim
    | cont => exact hq.elim
theorem Has.toG {P : Program} {w : World} {K : PySem.W.Frag} {mg : Str → Option Value} {base : Heap} {x : Str} {k : Nat} {ps : List Str} {sp : Sp} (h : Has P w K mg base x k ps sp) : HasG P w K mg base x k ps sp := by
  obtain ⟨f, fd, F, r⟩ := h
  exact ⟨f, fd, Dl.toG F, r⟩
theorem fn_dlG {P : Program} {w : World} {K : PySem.W.Frag} {mg : Str → Option Value} {base : Heap} {x qual : Str} {st : Stmt} {f : Addr} {fd : FuncData} {N ps : List Str} {k : Nat} {m : Fr → List Ent → (PyData → Prop) → Prop}
    (F : Fun K x qual st f fd) (S : FnScope N ps (defScope st)) (len : ∀ B es R, m B es R → es.length = ps.length)
    (body : ∀ (cdv : Value) (A : Around) (outer : List Env) (s : Shared) (H : Hp) (E : XK), Room k (A.deeper (envOfC qual (defScope st) s.heap.objs.size f cdv)) → (A.deeper (envOfC qual (defScope st) s.heap.objs.size f cdv)).guards = some [] → ∀ (B : Fr) (es : List Ent) (R : PyData → Prop), m B es R →
      ∃ t, PSs (cxOf CX0 P w K mg base N qual (defScope st) f cdv A outer s H E).nox (defBody st) t ∧ SW B (es ++ List.replicate (N.length - ps.length) .non) t ⟨fun _ => R .none, R, fun _ => False, fun _ => False⟩) :
    FnG P w K mg base (k + 1) f fd ps (spG m) := by
  refine funG F S (fun vs H Q E ⟨B, O, es, R, hm, _, _, sl, _⟩ => (slots_len sl).trans (len B es R hm)) fun cdv A outer s H vs Q E hr gd ⟨B, O, es, R, hm, no, j, sl, q⟩ => ?_
  obtain ⟨t, ht, hw⟩ := body cdv A outer s H E hr gd B es R hm
  exact ⟨t, ht, sp_run (len B es R hm) no j sl q hw⟩
section
variable {B : Fr} {env : List Ent}
theorem ew_varE {i : Nat} {Q : PyData → Prop} (h : ∃ d, env[i]? = some (.dat d) ∧ Q d) : EW B env (tVar i) Q := by
  obtain ⟨d, e, q⟩ := h
  exact ew_var e q
theorem ea_rawE {i : Nat} {tr : TA} {Q : List Ent → Prop} (h : ∃ v, env[i]? = some (.raw v) ∧ EA B env tr fun es => Q (.raw v :: es)) : EA B env (tCons (tVar i) tr) Q := by
  obtain ⟨v, e, q⟩ := h
  exact ea_raw e q
end
end Dl
end
section
set_option Elab.async false
set_option linter.all false
set_option maxRecDepth 100000
/-! more readings: lcm, any of a tuple, tuple * any int, max of a list, enumerate of a tuple, zip of a tuple and a list -/
namespace Dl
open PySem L2 PySem.Spec PyProof.Rows RZ

/-! ### math.lcm -/
def rLcm : List V → Hp → VK → Prop := fun vs H Q => ∃ a b : Int, vs = [.int a, .int b] ∧ a.natAbs < 2 ^ 9000 ∧ b.natAbs < 2 ^ 9000 ∧ Q (.int ((Nat.lcm a.natAbs b.natAbs : Nat) : Int)) H
theorem log_lt {n k : Nat} (h : n < 2 ^ k) (hk : 0 < k) : n.log2 < k := PySem.Flt.log2_lt_of hk h
theorem cr_lcm {X : Cx} : CallR X (.builtin "math.lcm") rLcm := by
  intro pins s σ H vs us Q I r h
  obtain ⟨a, b, rfl, ha, hb, q⟩ := h
  obtain ⟨t, u, rfl⟩ := Vals.int2 r
  have m1 : max 1 a.natAbs < 2 ^ 9000 := Nat.max_lt.mpr ⟨Nat.one_lt_two_pow (by decide), ha⟩
  have m2 : max a.natAbs b.natAbs < 2 ^ 9000 := Nat.max_lt.mpr ⟨ha, hb⟩
  have e1 := log_lt m1 (by decide)
  have e2 := log_lt m2 (by decide)
  have hl : a.natAbs.lcm b.natAbs < 2 ^ 18000 := by
    have z : a.natAbs.lcm b.natAbs ≤ a.natAbs * b.natAbs := by
      unfold Nat.lcm
      exact Nat.div_le_self _ _
    refine Nat.lt_of_le_of_lt z ?_
    have w : a.natAbs * b.natAbs < 2 ^ 9000 * 2 ^ 9000 := Nat.mul_lt_mul'' ha hb
    rw [← Nat.pow_add] at w
    exact w
  have e3 := log_lt hl (by decide)
  have one : Nat.lcm 1 a.natAbs = a.natAbs := by simp [Nat.lcm]
  have hsz : ((((Nat.lcm 1 a.natAbs).lcm b.natAbs : Nat) : Int)).natAbs.log2 < bitsLine := by
    rw [one, Int.natAbs_natCast]
    exact Nat.lt_trans e3 (by unfold bitsLine; decide)
  have g := PySem.W.mg_run_lcm a t b u (by omega) (by omega) hsz
  rw [one] at g
  exact call_function_meets PySem.W.MGF.kind_lcm PySem.W.MGF.plain_lcm PySem.W.MGF.entry_lcm (PySem.W.MGF.args_lcm _ _) g.meets ⟨.int _, H, I.tok _, ⟨_, rfl⟩, q⟩
theorem cd_lcm {Q : PyData → Prop} {ds : List PyData} (h : ∃ a b : Int, ds = [.int a, .int b] ∧ a.natAbs < 2 ^ 9000 ∧ b.natAbs < 2 ^ 9000 ∧ Q (.int ((Nat.lcm a.natAbs b.natAbs : Nat) : Int))) : CD rLcm ds Q := fun F H vs j k R r => by
  obtain ⟨a, b, rfl, ha, hb, q⟩ := h
  cases k with
  | cons k1 k2 =>
    cases k2 with
    | cons k2 k3 =>
      cases k3
      cases k1
      cases k2
      exact ⟨a, b, rfl, ha, hb, r _ _ H q (.refl j) (.int _)⟩

/-! ### any(tuple of ints) -/
abbrev tupIt (l : Addr) : Obj := { cls := .type "tuple_iterator", data := .fields #[.ref l, .int 0 0] }
def rAnyT (K : PySem.W.Frag) : List V → Hp → VK → Prop := fun vs H Q => ∃ (a : Addr) (ns : List Int), vs = [V.ref a] ∧ SqT K H a (ns.map V.int) ∧ Q (.bl (ns.any fun n => n != 0)) H
theorem begin_anyT {prog : Program} {w : World} {A : Around} {E : Value → Shared → Prop} {s : Shared} {l : Addr} {items : Array Value} {Q : Value → Shared → Prop} (hl : s.heap.IsTuple l items)
    (go : ∀ z : Shared, z = { s with heap := s.heap.push (tupIt l) } → z.heap.IsTupleIter s.heap.objs.size l 0 → z.heap.IsTuple l items → l ≠ s.heap.objs.size → Q (.ref s.heap.objs.size) z) : wpAny (model prog w) A (pyIter (.ref l)) Q E s := by
  refine wpAny_pyIter_tuple hl (go _ rfl ⟨_, Heap.get?_push_size _ rfl, rfl, rfl⟩ (hl.push _) ?_)
  obtain ⟨o, e, _⟩ := id hl
  exact Nat.ne_of_lt (Heap.lt_size e)
theorem int_there {v : Value} : ∀ {its : List Value} {ns : List Int}, PyProof.Rows.IntsAre its ns → ∀ i : Nat, its[i]? = some v → ∃ t, v = .int (ns.getD i 0) t
  | _, _, .nil, i, h => by rw [List.getElem?_nil] at h; cases h
  | _, _, .cons n t _, 0, h => by rw [List.getElem?_cons_zero] at h; cases h; exact ⟨t, rfl⟩
  | _, _, .cons n t r, i + 1, h => by rw [List.getElem?_cons_succ] at h; exact int_there r i h
theorem truth_ints {prog : Program} {w : World} {A : Around} {its : List Value} {ns : List Int} (r : PyProof.Rows.IntsAre its ns) :
    TruthOf prog w A (fun i v => its.toArray[i]? = some v) (fun i => ns.getD i 0 != 0) := fun i v s Q E there q => by
  obtain ⟨t, rfl⟩ := int_there r i (by rw [← List.getElem?_toArray]; exact there)
  exact PySem.P.truthy_int q
theorem any_rangeI (ns : List Int) : (List.range ns.length).any (fun i => ns.getD i 0 != 0) = ns.any fun n => n != 0 := by
  induction ns with
  | nil => rfl
  | cons b r ih =>
    rw [List.any_cons, ← ih, List.length_cons, List.range_succ_eq_map, List.any_cons, List.any_map]
    rfl
theorem cr_anyT {X : Cx} (calm : X.calm = true) : CallR X (.builtin "any") (rAnyT X.K) := by
  rintro pins s σ H vs us Q I r ⟨a, ns, rfl, hs, q⟩
  obtain ⟨its, rv, at0, _⟩ := I.tuple hs
  have ri := rv.ints
  rw [Vals.ref1 r]
  refine call_any_walk (begin_anyT (show s.heap.IsTuple a its.toArray from at0) fun z ez it0 tu hne => ?_)
  subst ez
  refine ⟨_, _, _, _, _, _, _, rfl, Walks.tuple (A := X.A.in1) (I.ok.hd calm) _ a hne its.toArray, ⟨it0, tu⟩, truth_ints ri, fun h' tk stay => ?_⟩
  have grown : ∀ b o, s.heap.get? b = some o → h'.get? b = some o := fun b o e => by
    refine stay b o (fun m => ?_) (Heap.get?_push_of_some _ e)
    rw [List.mem_singleton] at m
    exact Nat.lt_irrefl _ (m ▸ Heap.lt_size e)
  refine ⟨.bl _, H, I.kept grown, ?_, q⟩
  rw [← any_rangeI, ← ri.length, ← List.size_toArray]
  rfl
theorem kAnyT {X : Cx} {K : PySem.W.Frag} (h : X.K = K) (hc : X.calm = true) : CallR X (.builtin "any") (rAnyT K) := h ▸ cr_anyT hc
theorem cd_anyT {K : PySem.W.Frag} {Q : PyData → Prop} {ds : List PyData} (h : ∃ ns : List Int, ds = [.tuple (ns.map PyData.int)] ∧ Q (.bool (ns.any fun n => n != 0))) : CD (rAnyT K) ds Q := fun F H vs j k R r => by
  obtain ⟨ns, rfl, q⟩ := h
  cases k with
  | cons k1 k2 =>
    cases k2
    cases k1 with
    | tup w e ha =>
      have z := ha.ints
      subst z
      exact ⟨_, ns, rfl, SqT.of e, r _ _ H q (.refl j) (.bl _)⟩

/-! ### max of a list of ints -/
theorem kMaxL {X : Cx} {K : PySem.W.Frag} (h : X.K = K) (hc : X.calm = true) : CallR X (.builtin "max") (rMax K) := h ▸ cr_max hc
theorem cd_maxL {K : PySem.W.Frag} {Q : PyData → Prop} {ds : List PyData} (h : ∃ ns : List Int, ds = [.list (ns.map PyData.int)] ∧ 0 < ns.length ∧ ∀ m, m ∈ ns → (∀ y, y ∈ ns → y ≤ m) → Q (.int m)) : CD (L2.rMax K) ds Q := fun F H vs j k R r => by
  obtain ⟨ns, rfl, hl, q⟩ := h
  cases k with
  | cons k1 k2 =>
    cases k2
    cases k1 with
    | lst w e ha =>
      have z := ha.ints
      subst z
      exact ⟨_, ns, rfl, SqL.of e, hl, fun m h1 h2 => r _ _ H (q m h1 h2) (.refl j) (.int _)⟩

/-! ### tuple * int, the int 1 or below -/
theorem tuple_mul1 (l : Addr) (items : Array Value) (n : Nat) (dd : Option Addr) (sl : Array (Option Value)) (u : Tok) :
    Meets (Builtin.«tuple.__mul__» ⟨[.ref l, .int 1 u], []⟩) (fun _ R s => s.heap.get? l = some { cls := .type "tuple", dict := dd, data := .seq items n, slots := sl } ∧ R (.ok (.ret (Value.ref l))) s) :=
  .of_wp fun prog w A R s h => by
    obtain ⟨hp, g, d, tk, os⟩ := s
    obtain ⟨hl, h⟩ := h
    have f1 := AutoSeq1.idx_int
    have c1 : (items.isEmpty || (1 : Int) == 1) = true := by rw [show ((1 : Int) == 1) = true from rfl, Bool.or_true]
    wp_walk using wpAny_loadPart' hl
    repeat (first
      | (refine wpAny_ite_true (decide_eq_true c1) ?_; wp_walk using wpAny_loadPart' hl)
      | (refine wpAny_ite_true c1 ?_; wp_walk using wpAny_loadPart' hl))
    all_goals exact ⟨_, rfl, h⟩
theorem tuple_mul0 (l : Addr) (items : Array Value) (n : Nat) (dd : Option Addr) (sl : Array (Option Value)) (u : Tok) (c1 : (items.isEmpty || (0 : Int) == 1) = false) :
    Meets (Builtin.«tuple.__mul__» ⟨[.ref l, .int 0 u], []⟩) (fun _ R s => s.heap.get? l = some { cls := .type "tuple", dict := dd, data := .seq items n, slots := sl } ∧
      R (.ok (.ret (Value.ref s.heap.objs.size))) { s with heap := s.heap.push { cls := Value.type "tuple", data := Data.seq #[] }, toks := s.toks }) :=
  .of_wp fun prog w A R s h => by
    obtain ⟨hp, g, d, tk, os⟩ := s
    obtain ⟨hl, h⟩ := h
    have f1 := AutoSeq1.idx_int
    wp_walk using wpAny_loadPart' hl
    repeat (first
      | (refine wpAny_ite_false (decide_eq_false (by rw [c1]; exact Bool.false_ne_true)) ?_; wp_walk using wpAny_loadPart' hl))
    all_goals exact ⟨_, rfl, h⟩
/-! the rule of tuple * int, for ints of at least 0 -/
def rRepN (K : PySem.W.Frag) : R2 := fun x y H Q => ∃ l k xs, x = .ref l ∧ y = .int k ∧ SqT K H l xs ∧ xs ≠ [] ∧ ((k = 1 ∧ Q (.ref l) H) ∨ (k = 0 ∧ ∀ p, H p = none → Q (.ref p) (upd H p (.tup []))))
theorem op_repN {X : Cx} : OpR X (binaryOp .Mult) (rRepN X.K) := by
  intro pins s σ H x y v u Q I rx ry h
  obtain ⟨l, k, xs, rfl, rfl, hT, hne, h⟩ := h
  cases rx
  obtain ⟨t, rfl⟩ := ry
  obtain ⟨its, r, ⟨⟨cls, dd, data, sl⟩, ho, hc, n, hd⟩, hs⟩ := I.tuple hT
  simp only at hc hd
  subst hc hd
  have hn : its ≠ [] := fun e => hne (by
    have := r.length
    rw [e] at this
    exact List.eq_nil_of_length_eq_zero this)
  have hi : its.toArray.isEmpty = false := by
    cases its with
    | nil => exact absurd rfl hn
    | cons a b => rfl
  rcases h with ⟨rfl, q⟩ | ⟨rfl, q⟩
  · refine wpAny_binaryOp_repeat_ref (T := "tuple") (U := "int") (by decide) ⟨_, ho, rfl⟩ (fun s' => typeIs_int s' 1 t) noFill_tuple_mul F.fills_int_mul F.slot_int_rmul repeat_tuple F.slot_int_index.lookup
      (call_meets F.slot_int_rmul (typeIs_int s 1 t) F.entry_int_rmul (F.args_int_rmul_2 _ _) (int_rmul_tuple 1 t l its.toArray n dd sl)
        ⟨ho, rfl, ⟨_, ho, rfl⟩, call_meets F.slot_tuple_mul ⟨_, ho, rfl⟩ F.entry_tuple_mul (F.args_tuple_mul_2 _ _) (tuple_mul1 l its.toArray n dd sl t) ⟨ho, ?_⟩⟩)
    exact ⟨.ref l, H, I, rfl, q⟩
  · refine wpAny_binaryOp_repeat_ref (T := "tuple") (U := "int") (by decide) ⟨_, ho, rfl⟩ (fun s' => typeIs_int s' 0 t) noFill_tuple_mul F.fills_int_mul F.slot_int_rmul repeat_tuple F.slot_int_index.lookup
      (call_meets F.slot_int_rmul (typeIs_int s 0 t) F.entry_int_rmul (F.args_int_rmul_2 _ _) (int_rmul_tuple 0 t l its.toArray n dd sl)
        ⟨ho, rfl, ⟨_, ho, rfl⟩, call_meets F.slot_tuple_mul ⟨_, ho, rfl⟩ F.entry_tuple_mul (F.args_tuple_mul_2 _ _) (tuple_mul0 l its.toArray n dd sl t (by rw [hi]; rfl)) ⟨ho, ?_⟩⟩)
    exact ⟨.ref s.heap.objs.size, _, I.laid (t' := s.toks) (o := .tup []) (fun b ob q => Heap.get?_push_of_some _ q) (Nat.le_refl _) ⟨Nat.zero_le _, [], .nil, IsTup.new _ _⟩, rfl, q _ (I.hok.fresh (Nat.le_refl _))⟩
def rMulN (K : PySem.W.Frag) : R2 := fun x y H Q => rMulA K x y H Q ∨ rRepN K x y H Q
theorem kMulN {X : Cx} {K : PySem.W.Frag} (h : X.K = K) : OpR X (binaryOp .Mult) (rMulN K) := fun pins s σ H x y v u Q I rx ry z => by
  subst h
  rcases z with z | z
  · exact op_mulA pins s σ H x y v u Q I rx ry z
  · exact op_repN pins s σ H x y v u Q I rx ry z
theorem od_mulNI {K : PySem.W.Frag} {Q : PyData → Prop} {x y : PyData} (h : ∃ i j, x = .int i ∧ y = .int j ∧ CMulA i j ∧ Q (.int (i * j))) : OD (rMulN K) x y Q := fun F H u v j kx ky R r => .inl (od_mulI h F H u v j kx ky R r)
/-- (x,) * n -/
theorem od_mulNT {K : PySem.W.Frag} {Q : PyData → Prop} {x y : PyData} (h : ∃ d k, x = .tuple [d] ∧ y = .int k ∧ 0 ≤ k ∧ k ≤ 1000 ∧ Q (.tuple (List.replicate k.toNat d))) : OD (rMulN K) x y Q := fun F H u v j kx ky R r => by
  obtain ⟨d, k, rfl, rfl, h0, h1, q⟩ := h
  cases ky
  cases kx with
  | @tup a vl _ w e ha =>
    cases ha with
    | @cons z zs _ _ k1 k2 =>
      cases k2
      by_cases e1 : k = 1
      · subst e1
        exact .inr ⟨a, 1, _, rfl, rfl, SqT.of e, List.cons_ne_nil _ _, .inl ⟨rfl, r _ _ _ q (.refl j) (.tup w e (.cons k1 .nil))⟩⟩
      · by_cases e0 : k = 0
        · subst e0
          refine .inr ⟨a, 0, _, rfl, rfl, SqT.of e, List.cons_ne_nil _ _, .inr ⟨rfl, fun p hp => ?_⟩⟩
          have g : Gro F H (upd H p (.tup [])) := .new j hp
          exact r _ _ _ q g (.tup (Fr.fresh j hp) upd_same .nil)
        · refine .inl (.inr (.inr ⟨a, k, [z], rfl, rfl, SqT.of e, List.cons_ne_nil _ _, by omega, h1, by simp, fun p hp => ?_⟩))
          have ee : (List.replicate k.toNat [z]).flatten = List.replicate k.toNat z := by
            induction k.toNat with
            | zero => rfl
            | succ n ih => rw [List.replicate_succ, List.flatten_cons, ih, List.replicate_succ]; rfl
          rw [ee]
          have g : Gro F H (upd H p (.tup (List.replicate k.toNat z))) := .new j hp
          have al : ∀ n, DqA F.W H (List.replicate n z) (List.replicate n d) := fun n => by
            induction n with
            | zero => exact .nil
            | succ n ih => exact .cons k1 ih
          exact r _ _ _ q g (.tup (Fr.fresh j hp) upd_same ((al _).gro g))

end Dl
end
section
set_option Elab.async false
set_option linter.all false
set_option maxRecDepth 100000
/-! any iterator that gives out new pairs, from a walk of the library's to a turn of the hand layer's; with it enumerate and zip over lists and tuples in any mix -/
namespace Dl
open PySem L2 PySem.Spec PyProof.Rows RZ

/-- what a walk must tell at one turn -/
structure Step2 (X : Cx) (J : It) (I : Addr) (fp : List Addr) (tn : Nat → Heap → Prop) (i : Nat) (H : Hp) (h : Heap) : Prop where
  told : ∃ (gp wr : List Addr) (n : Nat) (Pt : Nat → Array Value → Prop) (St : Nat → Heap → Prop) (Mid : Nat → Addr → Heap → Prop), WalksT X.prog X.w X.A I gp wr n Pt St Mid ∧ i < n ∧ St i h ∧ (∀ c, c ∈ wr → c ∈ fp) ∧ (∀ h2, St (i + 1) h2 → tn (i + 1) h2) ∧
    ∀ vals, Pt i vals → ∃ (x y : V) (u v : Value), vals = #[u, v] ∧ RelV x u ∧ RelV y v ∧ ∀ T, H T = none → J.yld i H (.ref T) (upd H T (.tup [x, y]))
structure Stop2 (X : Cx) (I : Addr) (fp : List Addr) (i : Nat) (h : Heap) : Prop where
  told : ∃ (gp wr : List Addr) (Pt : Nat → Array Value → Prop) (St : Nat → Heap → Prop) (Mid : Nat → Addr → Heap → Prop), WalksT X.prog X.w X.A I gp wr i Pt St Mid ∧ St i h ∧ ∀ c, c ∈ wr → c ∈ fp
theorem turn2 {P : Program} {w : World} {K : PySem.W.Frag} {elts : List Expr} {kk : Nat} {tpos : Pos} {J : It} {I : Addr} {fp : List Addr} {tn : Nat → Heap → Prop} (mem : I ∈ fp)
    (cells : ∀ i h, tn i h → ∀ c, c ∈ fp → ∃ o, h.get? c = some o ∧ ∀ v, o.data ≠ .cell v)
    (stays : ∀ i h h', tn i h → (∀ c, c ∈ fp → ∀ o, h.get? c = some o → h'.get? c = some o) → tn i h')
    (steps : ∀ (X : Cx), X.prog = P → X.w = w → X.K = K → X.calm = true → ∀ (i : Nat) (pins : List (Addr × Obj)) (s : Shared) (σ : L2.St) (H : Hp), Inv X pins σ H s → tn i s.heap → J.go i H → Step2 X J I fp tn i H s.heap)
    (stops : ∀ (X : Cx), X.prog = P → X.w = w → X.K = K → X.calm = true → ∀ (i : Nat) (pins : List (Addr × Obj)) (s : Shared) (σ : L2.St) (H : Hp), Inv X pins σ H s → tn i s.heap → J.stop i H → Stop2 X I fp i s.heap)
    (again : ∀ (A : Around) (i : Nat) (s : Shared) (Q : Value → Shared → Prop) (E : Value → Shared → Prop), tn i s.heap → Q (.ref I) s → wpAny (model P w) A (pyIter (.ref I)) Q E s) :
    Turn P w K (.Tuple elts kk tpos) J fp I tn := by
  refine ⟨mem, cells, stays, ?_, ?_, again⟩
  · rintro X hP hw hK calm i pins s σ H E inv foot st go
    obtain ⟨gp, wr, n, Pt, St, Mid, W, lt, st0, sub, nxt, pair⟩ := (steps X hP hw hK calm i pins s σ H inv st go).told
    subst hP hw hK
    refine W.item i s _ E lt st0 fun T vals h1 tk hv fresh at1 mid stay1 => ⟨_, rfl, W.go elts kk tpos i T ⟨h1, s.gens, s.drawn, tk, s.os⟩ _ _ mid fun h2 st2 stay2 => ?_⟩
    obtain ⟨x, y, u, v, rfl, rx, ry, gives⟩ := pair vals hv
    obtain ⟨ob, e1, ec, en, ed⟩ := at1
    have both : ∀ c o, c ∉ fp → s.heap.get? c = some o → h2.get? c = some o := fun c o nc e => stay2 c o (fun m => nc (sub c m)) (stay1 c o (fun m => nc (sub c m)) e)
    have made : ObjOk X.prog X.w (upd H T (.tup [x, y])) h2 T (.tup [x, y]) := ⟨Nat.le_of_ble_eq_true rfl, [u, v], .cons rx (.cons ry .nil), ob, stay2 T ob (W.apart i T h1 mid) e1, ec, en, ed⟩
    refine ⟨.ref T, _, inv.turnedNew (ch := fp) both foot fresh made, rfl, gives T (inv.hok.fresh fresh), nxt h2 st2, fun c m => ?_⟩
    obtain ⟨o, eo, _⟩ := cells i s.heap st c m
    have ne : c ≠ T := fun z => Nat.lt_irrefl _ (Nat.lt_of_lt_of_le (z ▸ Heap.lt_size eo) fresh)
    rw [upd_ne ne]
    exact (foot c m).1
  · rintro X hP hw hK calm i pins s σ H E inv foot st stop
    obtain ⟨gp, wr, Pt, St, Mid, W, st0, sub⟩ := (stops X hP hw hK calm i pins s σ H inv st stop).told
    subst hP hw hK
    exact W.done s _ E st0 fun h1 tk stay => ⟨rfl, inv.turnedL (ch := fp) (fun c o nc e => stay c o (fun m => nc (sub c m)) e) foot⟩

/-! ### a list or a tuple: t tells which -/
def SqM (K : PySem.W.Frag) (t : Bool) (H : Hp) (a : Addr) (xs : List V) : Prop := if t = true then SqT K H a xs else SqL K H a xs
def IterM (t : Bool) (h : Heap) (it a : Addr) (i : Nat) : Prop := if t = true then h.IsTupleIter it a i else h.IsListIter it a i
def SeqM (t : Bool) (h : Heap) (a : Addr) (items : Array Value) : Prop := if t = true then h.IsTuple a items else h.IsList a items
def itObj (t : Bool) (a : Addr) : Obj := ⟨.type (if t = true then "tuple_iterator" else "list_iterator"), none, .fields #[.ref a, .int 0 0], #[]⟩
theorem seqM_inv {X : Cx} {pins : List (Addr × Obj)} {σ : L2.St} {H : Hp} {s : Shared} {t : Bool} {a : Addr} {xs : List V} (I : Inv X pins σ H s) (h : SqM X.K t H a xs) : ∃ its : List Value, Vals xs its ∧ SeqM t s.heap a its.toArray ∧ a < s.heap.objs.size := by
  cases t with
  | true =>
    obtain ⟨its, r, p, _⟩ := I.tuple h
    exact ⟨its, r, p, by obtain ⟨_, e, _⟩ := p; exact Heap.lt_size e⟩
  | false =>
    obtain ⟨its, r, p, _⟩ := I.list h
    exact ⟨its, r, p.isList, p.lt⟩
theorem seqM_inj {X : Cx} {pins : List (Addr × Obj)} {σ : L2.St} {H : Hp} {s : Shared} {t : Bool} {a : Addr} {xs ys : List V} (I : Inv X pins σ H s) (h : SqM X.K t H a xs) (h' : SqM X.K t H a ys) : xs = ys := by
  cases t with
  | true => exact I.tuple_inj h h'
  | false => exact I.list_inj h h'
theorem drawsM {prog : Program} {w : World} {A : Around} (calm : A.handled = none) (t : Bool) (it a : Addr) (ne : a ≠ it) (items : Array Value) :
    Draws prog w A it [it, a] items.size (fun i v => items[i]? = some v) (fun i h => IterM t h it a i ∧ SeqM t h a items) := by
  cases t with
  | true => exact Draws.tuple calm it a ne items
  | false => exact Draws.list calm it a ne items
theorem beginsM (t : Bool) (a : Addr) (items : Array Value) : Begins (.ref a) (itObj t a) fun h => SeqM t h a items := by
  cases t with
  | true => exact begins_tuple a items
  | false => exact begins_list a items
theorem iterM_at {t : Bool} {h h' : Heap} {it a : Addr} {i : Nat} (k : ∀ o, h.get? it = some o → h'.get? it = some o) (st : IterM t h it a i) : IterM t h' it a i := by
  cases t with
  | true => exact Heap.IsTupleIter.at st k
  | false => exact Heap.IsListIter.at st k
theorem iterM_obj {t : Bool} {h : Heap} {it a : Addr} {i : Nat} (st : IterM t h it a i) : ∃ o, h.get? it = some o ∧ ∀ v, o.data ≠ .cell v := by
  cases t <;> (obtain ⟨o, e, _, d⟩ := st; exact ⟨o, e, by rw [d]; exact nofun⟩)
theorem iterM_new {t : Bool} {h : Heap} {it a : Addr} (e : h.get? it = some (itObj t a)) : IterM t h it a 0 := by
  cases t <;> exact ⟨_, e, rfl, rfl⟩
theorem vals_at {xs : List V} {its : List Value} {i : Nat} {x : V} {u : Value} (r : Vals xs its) (hx : xs[i]? = some x) (hu : its.toArray[i]? = some u) : RelV x u := by
  obtain ⟨z, hz, rz⟩ := r.get hx
  rw [List.getElem?_toArray, hz] at hu
  cases hu
  exact rz
theorem dqM {W : Addr → Prop} {K : PySem.W.Frag} {H : Hp} {v : V} {x : PyData} {ds : List PyData} (hx : itemsOf x = some ds) (k : Dq W H v x) : ∃ t a xs o, v = .ref a ∧ ¬ W a ∧ H a = some o ∧ DqA W H xs ds ∧ ∀ H2 : Hp, H2 a = some o → SqM K t H2 a xs := by
  cases k with
  | @lst a xs _ w e ha => cases hx; exact ⟨false, a, xs, _, rfl, w, e, ha, fun H2 e2 => SqL.of e2⟩
  | @tup a xs _ w e ha => cases hx; exact ⟨true, a, xs, _, rfl, w, e, ha, fun H2 e2 => SqT.of e2⟩
  | non => cases hx
  | bl _ => cases hx
  | int _ => cases hx
  | str _ => cases hx
  | exc0 _ _ => cases hx
  | dct _ _ => cases hx
  | exc1 _ _ _ _ _ => cases hx

/-! ### enumerate -/
def IteM (K : PySem.W.Frag) (t : Bool) (a : Addr) : It where
  go := fun i H => ∃ xs, SqM K t H a xs ∧ i < xs.length
  yld := fun i H v H' => ∃ T x, v = .ref T ∧ H T = none ∧ H' = upd H T (.tup [.int (i : Nat), x]) ∧ ∀ xs, SqM K t H a xs → xs[i]? = some x
  stop := fun i H => ∃ xs, SqM K t H a xs ∧ i = xs.length
theorem turn_enumM {P : Program} {w : World} {K : PySem.W.Frag} {elts : List Expr} {kk : Nat} {tpos : Pos} {t : Bool} {a e it : Addr} (n1 : e ≠ it) (n2 : e ≠ a) (n3 : a ≠ it) :
    Turn P w K (.Tuple elts kk tpos) (IteM K t a) [e, it] e (fun i h => (∃ old, IsEnum h e it (0 + (i : Int)) old) ∧ IterM t h it a i) := by
  have two : ∀ {c}, c ∈ [e, it] → c = e ∨ c = it := fun m => by simpa using m
  have walk : ∀ (X : Cx), X.calm = true → ∀ (pins : List (Addr × Obj)) (s : Shared) (σ : L2.St) (H : Hp) (its : List Value), Inv X pins σ H s → WalksT X.prog X.w X.A e (e :: [it, a]) [e, it] its.toArray.size _ _ _ := fun X calm pins s σ H its I =>
    WalksT.enumFrom 0 (drawsM (A := X.A.in1) (I.ok.hd calm) t it a n3 its.toArray) e n1 (by simp [n1, n2]) (by simp)
  refine turn2 (by simp) (fun i h ⟨⟨old, he⟩, st⟩ c m => ?_) (fun i h h' ⟨⟨old, he⟩, st⟩ k => ⟨⟨old, k e (by simp) _ he⟩, iterM_at (fun o q => k it (by simp) o q) st⟩) ?_ ?_ (fun A i s Q E ⟨⟨_, he⟩, _⟩ q => wpAny_pyIter_enum he q)
  · rcases two m with rfl | rfl
    · exact ⟨_, he, nofun⟩
    · exact iterM_obj st
  · rintro X hP hw hK calm i pins s σ H I ⟨en, st⟩ ⟨xs, hq, hi⟩
    subst hK
    obtain ⟨its, r, p, _⟩ := seqM_inv I hq
    refine ⟨_, _, _, _, _, _, walk X calm pins s σ H its I, by rw [List.size_toArray, ← r.length]; exact hi, ⟨en, st, p⟩, fun c m => m, fun h2 q => ⟨q.1, q.2.1⟩, fun vals hv => ?_⟩
    obtain ⟨tk, u, hu, rfl⟩ := hv
    have hx : xs[i]? = some xs[i] := List.getElem?_eq_getElem hi
    refine ⟨.int (i : Nat), xs[i], _, u, rfl, ⟨tk, by rw [Int.zero_add]⟩, vals_at r hx hu, fun T hT => ⟨T, xs[i], rfl, hT, rfl, fun ys hy => by rw [seqM_inj I hy hq]; exact hx⟩⟩
  · rintro X hP hw hK calm i pins s σ H I ⟨en, st⟩ ⟨xs, hq, hi⟩
    subst hK
    obtain ⟨its, r, p, _⟩ := seqM_inv I hq
    have W := walk X calm pins s σ H its I
    rw [show its.toArray.size = i by rw [List.size_toArray, ← r.length]; exact hi.symm] at W
    exact ⟨_, _, _, _, _, W, ⟨en, st, p⟩, fun c m => m⟩
set_option maxHeartbeats 2000000 in
theorem new_enum {v : Value} {o : Obj} {H : Heap → Prop} (B : Begins v o H) : Meets (Builtin.«enumerate.__new__» ⟨[.type "enumerate", v], []⟩) (fun _ R s => H s.heap ∧
      R (.ok (.ret (.ref (s.heap.push o).objs.size))) ⟨(s.heap.push o).push ⟨.type "enumerate", none, .fields #[.none, .bool false, .ref s.heap.objs.size, rawInt 0, .none, .none], #[]⟩, s.gens, s.drawn, s.toks, s.os⟩) := by
  refine .of_wp fun prog w A R s h => ?_
  cases s with
  | mk hp g d tk os =>
    have it : ∀ {A' : Around} {E Q : Value → Shared → Prop}, Q (.ref hp.objs.size) ⟨hp.push o, g, d, tk, os⟩ → wpAny (model prog w) A' (pyIter v) Q E ⟨hp, g, d, tk, os⟩ := B.iter prog w _ _ ⟨hp, g, d, tk, os⟩ _ h.1
    have sub := sub_enumerate
    wp_walk using it
    refine wpAny_stack_any fun _ => wpAny_pure ?_
    split
    · rename_i c _ _ _ _ _
      cases hc : c == Value.type "enumerate" <;> (wp_walk using it; exact ⟨_, rfl, h.2⟩)
    · wp_walk using it
      exact ⟨_, rfl, h.2⟩
theorem call_enumM {prog : Program} {w : World} {A : Around} {E : Value → Shared → Prop} {s : Shared} {v : Value} {o : Obj} {H : Heap → Prop} {Q : Value → Shared → Prop} (B : Begins v o H) (h1 : H s.heap)
    (q : ∀ h', IsEnum h' (s.heap.objs.size + 1) s.heap.objs.size 0 .none → h'.get? s.heap.objs.size = some o → (∀ b u, s.heap.get? b = some u → h'.get? b = some u) → Q (.ref (s.heap.objs.size + 1)) ⟨h', s.gens, s.drawn, s.toks, s.os⟩) :
    wpAny (model prog w) A (call (.type "enumerate") [v]) Q E s := by
  have size : (s.heap.push o).objs.size = s.heap.objs.size + 1 := Heap.size_push ..
  let en : Obj := ⟨.type "enumerate", none, .fields #[.none, .bool false, .ref s.heap.objs.size, rawInt 0, .none, .none], #[]⟩
  have top : ((s.heap.push o).push en).get? (s.heap.objs.size + 1) = some en := by rw [← size]; exact Heap.get?_push_size _ rfl
  refine callType_new F.called_enumerate (by decide) (F.typeCall_enumerate_1 _) (F.newCall_enumerate_1 _) (fun _ => F.args_object_init_2 _ _) F.entry_enumerate_new (new_enum B) ⟨h1, ?_⟩
  show (Shared.TypeIs _ (.ref (s.heap.push o).objs.size) _) ∧ Q (.ref (s.heap.push o).objs.size) _
  rw [size]
  exact ⟨⟨en, top, rfl⟩, q _ top (Heap.get?_push_of_some _ (Heap.get?_push_size _ B.free)) fun b u e => Heap.get?_push_of_some _ (Heap.get?_push_of_some _ e)⟩
def iEnumT (K : PySem.W.Frag) (ta : TA) : TI := fun σ H R => ta σ H fun vs H1 => ∃ t a xs, vs = [.ref a] ∧ SqM K t H1 a xs ∧ R (IteM K t a) H1
theorem kEnumT {X : Cx} {K : PySem.W.Frag} {e : Expr} {ta : TA} {p pos tpos : Pos} {elts : List Expr} {kk : Nat} (hK : X.K = K) (hg : Gl X "enumerate") (hm : X.mg "enumerate" = none) (ha : PA X [e] ta) (hs : starEach [e] X.env = [(false, eval e X.env)] := by rfl) :
    PI X (.Tuple elts kk tpos) (.Call (.Name "enumerate" p) [e] [] pos) (iEnumT K ta) := by
  subst hK
  constructor
  intro pins s σ H R inv h
  refine Call_ (ld_blt inv hg hm boot_enumerate (PyProof.Rows.callWith_type1 (thn (ha.run pos pins s σ H _ inv h) ?_) hs rfl))
  rintro us z ⟨vs, H1, inv1, rel, t, a, xs, rfl, hq, q⟩
  have eu : us = [.ref a] := Vals.ref1 rel
  subst eu
  obtain ⟨its, rv, p1, lt⟩ := seqM_inv inv1 hq
  have lt2 : a < z.heap.objs.size + 1 := Nat.lt_succ_of_lt lt
  refine call_enumM (beginsM t a its.toArray) p1 fun h' en g1 stay => wpAny_pyIter_enum en ⟨_, [z.heap.objs.size + 1, z.heap.objs.size], _, _, H1, rfl, inv1.kept (t' := z.toks) stay, turn_enumM (Nat.succ_ne_self _) (Nat.ne_of_gt lt2) (Nat.ne_of_lt lt), ⟨⟨_, en⟩, iterM_new g1⟩, fun c m => ?_, q⟩
  have above : z.heap.objs.size ≤ c := by
    rcases List.mem_cons.mp m with r | m
    · exact r ▸ Nat.le_succ _
    · exact Nat.le_of_eq (List.mem_singleton.mp m).symm
  exact inv1.fpOk above (inv1.hok.fresh above)
theorem it_enumT {B : Fr} {env : List Ent} {ta : TA} {Q : List PyData → Prop} {K : PySem.W.Frag} (h : EA B env ta (AllD fun es => ∃ x ds, es = [x] ∧ itemsOf x = some ds ∧ Q (zipD (rangeD 0 ds.length) ds))) : IT B env (iEnumT K ta) Q := fun O σ H j s R r =>
  h O σ H j s _ fun es vs H2 ⟨ds, e, x, ys, e2, hx, q⟩ g k => by
    subst e
    subst e2
    have kk := slots_dats k
    cases kk with
    | cons k1 k2 =>
      cases k2
      obtain ⟨t, a, us, o, rfl, w, ea, ha, sq⟩ := dqM (K := K) hx k1
      refine ⟨t, a, us, rfl, sq _ ea, r _ _ H2 q g ?_⟩
      have hl : (zipD (rangeD 0 ys.length) ys).length = us.length := by simp [zipD, rangeD, ha.len]
      unfold Its
      rw [hl]
      refine ⟨fun i H hi gd => ⟨us, sq _ (gd a _ w ea), hi⟩, fun H gd => ⟨us, sq _ (gd a _ w ea), rfl⟩, fun i H x H' hi gd y => ?_⟩
      obtain ⟨T, z, e1, e2, e3, e4⟩ := y
      obtain ⟨d, e6, q6⟩ := ha.getV (e4 us (sq _ (gd a _ w ea)))
      refine .inr ⟨T, _, z, .int (0 + (i : Nat)), d, e1, e2, e3, zipD_get ?_ e6, ?_, q6⟩
      · have : i < ys.length := by rw [← ha.len]; exact hi
        simp [rangeD, this]
      · rw [Int.zero_add]
        exact .int _

/-! ### zip -/
def ItzM (K : PySem.W.Frag) (t1 t2 : Bool) (a b : Addr) : It where
  go := fun i H => ∃ xs ys, SqM K t1 H a xs ∧ SqM K t2 H b ys ∧ i < xs.length ∧ i < ys.length
  yld := fun i H v H' => ∃ T x y, v = .ref T ∧ H T = none ∧ H' = upd H T (.tup [x, y]) ∧ (∀ xs, SqM K t1 H a xs → xs[i]? = some x) ∧ ∀ ys, SqM K t2 H b ys → ys[i]? = some y
  stop := fun i H => ∃ xs ys, SqM K t1 H a xs ∧ SqM K t2 H b ys ∧ i = min xs.length ys.length
theorem turn_zipM {P : Program} {w : World} {K : PySem.W.Frag} {elts : List Expr} {kk : Nat} {tpos : Pos} {t1 t2 : Bool} {a b z TI TO i1 i2 : Addr} (S : ZipSep2 z TI TO i1 i2 [i1, a] [i2, b]) (n1 : a ≠ i1) (n2 : b ≠ i2) :
    Turn P w K (.Tuple elts kk tpos) (ItzM K t1 t2 a b) [z, TI, TO, i1, i2] z (fun i h => IsZip h z TI TO .none ∧ IsTupOf2 h TI (.ref i1) (.ref i2) ∧ (∃ x y, IsTupOf2 h TO x y) ∧ IterM t1 h i1 a i ∧ IterM t2 h i2 b i) := by
  have five : ∀ {c}, c ∈ [z, TI, TO, i1, i2] → c = z ∨ c = TI ∨ c = TO ∨ c = i1 ∨ c = i2 := fun m => by simpa using m
  have four : ∀ c, c ∈ [z, TO, i1, i2] → c ∈ [z, TI, TO, i1, i2] := fun c m => by
    rcases (show c = z ∨ c = TO ∨ c = i1 ∨ c = i2 by simpa using m) with q | q | q | q <;> (rw [q]; simp)
  have walk : ∀ (X : Cx), X.calm = true → ∀ (pins : List (Addr × Obj)) (s : Shared) (σ : L2.St) (H : Hp) (us vs : List Value), Inv X pins σ H s → WalksT X.prog X.w X.A z (z :: TI :: TO :: ([i1, a] ++ [i2, b])) [z, TO, i1, i2] (min us.toArray.size vs.toArray.size) _ _ _ := fun X calm pins s σ H us vs I =>
    WalksT.zipD2 S (drawsM (A := X.A.in1) (I.ok.hd calm) t1 i1 a n1 us.toArray) (drawsM (A := X.A.in1) (I.ok.hd calm) t2 i2 b n2 vs.toArray)
  refine turn2 (by simp) (fun i h ⟨iz, ti, ⟨x, y, to⟩, s1, s2⟩ c m => ?_) (fun i h h' ⟨iz, ti, ⟨x, y, to⟩, s1, s2⟩ k => ⟨k z (by simp) _ iz, k TI (by simp) _ ti, ⟨x, y, k TO (by simp) _ to⟩, iterM_at (fun o q => k i1 (by simp) o q) s1, iterM_at (fun o q => k i2 (by simp) o q) s2⟩) ?_ ?_ (fun A i s Q E st q => wpAny_pyIter_zip st.1 q)
  · rcases five m with rfl | rfl | rfl | rfl | rfl
    · exact ⟨_, iz, nofun⟩
    · exact ⟨_, ti, nofun⟩
    · exact ⟨_, to, nofun⟩
    · exact iterM_obj s1
    · exact iterM_obj s2
  · rintro X hP hw hK calm i pins s σ H I ⟨iz, ti, to, s1, s2⟩ ⟨xs, ys, qx, qy, l1, l2⟩
    subst hK
    obtain ⟨us, ru, pu, _⟩ := seqM_inv I qx
    obtain ⟨vs, rv, pv, _⟩ := seqM_inv I qy
    have k1 := ru.length
    have k2 := rv.length
    refine ⟨_, _, _, _, _, _, walk X calm pins s σ H us vs I, by rw [List.size_toArray, List.size_toArray]; omega, ⟨iz, ti, to, ⟨s1, pu⟩, ⟨s2, pv⟩⟩, four, fun h2 q => ⟨q.1, q.2.1, q.2.2.1, q.2.2.2.1.1, q.2.2.2.2.1⟩, fun vals hv => ?_⟩
    obtain ⟨u, v, hu, hv, rfl⟩ := hv
    have hx : xs[i]? = some xs[i] := List.getElem?_eq_getElem l1
    have hy : ys[i]? = some ys[i] := List.getElem?_eq_getElem l2
    exact ⟨xs[i], ys[i], u, v, rfl, vals_at ru hx hu, vals_at rv hy hv, fun T hT => ⟨T, _, _, rfl, hT, rfl, fun l hl => by rw [seqM_inj I hl qx]; exact hx, fun l hl => by rw [seqM_inj I hl qy]; exact hy⟩⟩
  · rintro X hP hw hK calm i pins s σ H I ⟨iz, ti, to, s1, s2⟩ ⟨xs, ys, qx, qy, l⟩
    subst hK
    obtain ⟨us, ru, pu, _⟩ := seqM_inv I qx
    obtain ⟨vs, rv, pv, _⟩ := seqM_inv I qy
    have W := walk X calm pins s σ H us vs I
    rw [show min us.toArray.size vs.toArray.size = i by rw [List.size_toArray, List.size_toArray, ← ru.length, ← rv.length]; exact l.symm] at W
    exact ⟨_, _, _, _, _, W, ⟨iz, ti, to, ⟨s1, pu⟩, ⟨s2, pv⟩⟩, four⟩
def iZipM (K : PySem.W.Frag) (ta : TA) : TI := fun σ H R => ta σ H fun vs H1 => ∃ t1 t2 a b xs ys, vs = [.ref a, .ref b] ∧ SqM K t1 H1 a xs ∧ SqM K t2 H1 b ys ∧ R (ItzM K t1 t2 a b) H1
theorem kZipM {X : Cx} {K : PySem.W.Frag} {e e2 : Expr} {ta : TA} {p pos tpos : Pos} {elts : List Expr} {kk : Nat} (hK : X.K = K) (hg : Gl X "zip") (hm : X.mg "zip" = none) (ha : PA X [e, e2] ta)
    (hs : starEach [e, e2] X.env = (false, eval e X.env) :: starEach [e2] X.env := by rfl) (hpl : (backTo pos (starEach [e2] X.env)).any (·.1) = false := by rfl) : PI X (.Tuple elts kk tpos) (.Call (.Name "zip" p) [e, e2] [] pos) (iZipM K ta) := by
  subst hK
  constructor
  intro pins s σ H R inv h
  refine Call_ (ld_blt inv hg hm PyProof.Rows.boot_zip (PyProof.Rows.callWith_type1 (thn (ha.run pos pins s σ H _ inv h) ?_) hs hpl))
  rintro us z ⟨vs, H1, inv1, rel, t1, t2, a, b, xs, ys, rfl, qx, qy, q⟩
  cases rel with
  | cons ra rel =>
    cases rel with
    | cons rb rel =>
      cases rel
      cases ra
      cases rb
      obtain ⟨its, _, p1, l1⟩ := seqM_inv inv1 qx
      obtain ⟨its2, _, p2, l2⟩ := seqM_inv inv1 qy
      have sep := zip_sep2 (N := z.heap.objs.size) (fp1 := [a]) (fp2 := [b]) (fun c m => (List.mem_singleton.mp m) ▸ l1) (fun c m => (List.mem_singleton.mp m) ▸ l2)
      refine zip_begins2 (beginsM t1 a its.toArray) (beginsM t2 b its2.toArray) p1 p2 fun h' iz ti to g1 g2 _ stay => wpAny_pyIter_zip iz ⟨_, _, _, _, H1, rfl, inv1.kept (t' := z.toks) stay, turn_zipM sep (Nat.ne_of_lt l1) (Nat.ne_of_lt (Nat.lt_succ_of_lt l2)), ⟨iz, ti, ⟨_, _, to⟩, iterM_new g1, iterM_new g2⟩, fun c m => ?_, q⟩
      have above : z.heap.objs.size ≤ c := by
        have m2 : c = z.heap.objs.size + 4 ∨ c = z.heap.objs.size + 2 ∨ c = z.heap.objs.size + 3 ∨ c = z.heap.objs.size ∨ c = z.heap.objs.size + 1 := by simpa using m
        rcases m2 with r | r | r | r | r <;> rw [r] <;> first | exact Nat.le_refl _ | exact Nat.le_add_right _ _
      exact inv1.fpOk above (inv1.hok.fresh above)
theorem it_zipM {B : Fr} {env : List Ent} {ta : TA} {Q : List PyData → Prop} {K : PySem.W.Frag} (h : EA B env ta (AllD fun es => ∃ x y xs ys, es = [x, y] ∧ itemsOf x = some xs ∧ itemsOf y = some ys ∧ Q (zipD xs ys))) : IT B env (iZipM K ta) Q := fun O σ H j s R r =>
  h O σ H j s _ fun es vs H2 ⟨ds, e, x, y, xs, ys, e2, hx, hy, q⟩ g k => by
    subst e
    subst e2
    have kk := slots_dats k
    cases kk with
    | cons k1 k2 =>
      cases k2 with
      | cons k2 k3 =>
        cases k3
        obtain ⟨t1, a, us, o1, rfl, w1, e1, ha, s1⟩ := dqM (K := K) hx k1
        obtain ⟨t2, b, vs, o2, rfl, w2, e2, hb, s2⟩ := dqM (K := K) hy k2
        refine ⟨t1, t2, a, b, us, vs, rfl, s1 _ e1, s2 _ e2, r _ _ H2 q g ?_⟩
        have hl : (zipD xs ys).length = min us.length vs.length := by simp [zipD, ha.len, hb.len]
        unfold Its
        rw [hl]
        refine ⟨fun i H hi gd => ⟨us, vs, s1 _ (gd a _ w1 e1), s2 _ (gd b _ w2 e2), by omega, by omega⟩, fun H gd => ⟨us, vs, s1 _ (gd a _ w1 e1), s2 _ (gd b _ w2 e2), rfl⟩, fun i H x H' hi gd y => ?_⟩
        obtain ⟨T, x1, x2, e3, e4, e5, e6, e7⟩ := y
        obtain ⟨d, f6, q6⟩ := ha.getV (e6 us (s1 _ (gd a _ w1 e1)))
        obtain ⟨d2, f7, q7⟩ := hb.getV (e7 vs (s2 _ (gd b _ w2 e2)))
        exact .inr ⟨T, x1, x2, d, d2, e3, e4, e5, zipD_get f6 f7, q6, q7⟩
end Dl
end
section
set_option Elab.async false
set_option linter.all false
set_option maxRecDepth 100000
/-! what comes out new: by locking all lists that were there -/
namespace Dl
open PySem L2 PySem.Spec PyProof.Rows RZ
mutual
def LF : PyData → Bool
  | .list _ => false
  | .dict _ => false
  | .tuple ds => LFA ds
  | .none => true
  | .bool _ => true
  | .int _ => true
  | .str _ => true
def LFA : List PyData → Bool
  | [] => true
  | d :: ds => LF d && LFA ds
end
theorem LFA_cons {d : PyData} {ds : List PyData} : LFA (d :: ds) = (LF d && LFA ds) := by rw [LFA]
theorem LF_tuple {ds : List PyData} : LF (.tuple ds) = LFA ds := by rw [LF]
theorem LF_int {i : Int} : LF (.int i) = true := by rw [LF]
theorem LFA_nil : LFA [] = true := by rw [LFA]
theorem LFA_all : ∀ {ds : List PyData}, (∀ d, d ∈ ds → LF d = true) → LFA ds = true
  | [], _ => LFA_nil
  | d :: ds, h => by rw [LFA_cons, h d List.mem_cons_self, LFA_all fun x hx => h x (List.mem_cons_of_mem _ hx)]; rfl
section
variable {W W' : Addr → Prop} {H H' : Hp}
mutual
theorem Dq.toLF (k : ∀ a o, ¬ W a → H a = some o → (∀ xs, o ≠ .lst xs) → ¬ W' a ∧ H' a = some o) : ∀ (d : PyData) (v : V), LF d = true → Dq W H v d → Dq W' H' v d
  | .none, _, _, h => by cases h; exact .non
  | .bool b, _, _, h => by cases h; exact .bl b
  | .int i, _, _, h => by cases h; exact .int i
  | .str x, _, _, h => by cases h; exact .str x
  | .list ds, _, l, h => by rw [LF] at l; cases l
  | .tuple ds, _, l, h => by
    rw [LF] at l
    cases h with
    | tup w e r => exact .tup (k _ _ w e (fun xs z => nomatch z)).1 (k _ _ w e (fun xs z => nomatch z)).2 (DqA.toLF k ds _ l r)
  | .dict _, _, l, _ => by rw [LF] at l; cases l
theorem DqA.toLF (k : ∀ a o, ¬ W a → H a = some o → (∀ xs, o ≠ .lst xs) → ¬ W' a ∧ H' a = some o) : ∀ (ds : List PyData) (vs : List V), LFA ds = true → DqA W H vs ds → DqA W' H' vs ds
  | [], _, _, h => by cases h; exact .nil
  | d :: ds, _, l, h => by
    rw [LFA] at l
    have l2 := Bool.and_eq_true_iff.mp l
    cases h with
    | cons h1 h2 => exact .cons (Dq.toLF k d _ l2.1 h1) (DqA.toLF k ds _ l2.2 h2)
end
end
def LFE : Ent → Bool
  | .dat d => LF d
  | .own _ ds => LFA ds
  | .stb _ => false
  | _ => true
def LFEs : List Ent → Bool
  | [] => true
  | e :: r => LFE e && LFEs r
open Classical in
noncomputable def lockL (B : Fr) (O : Lk) (H : Hp) : Lk := fun a => match O a with
  | some o => some o
  | none => if B.W a then none else match H a with
    | some (.lst xs) => some (.lst xs)
    | _ => none
section
variable {B : Fr} {O : Lk} {H : Hp}
theorem lockL_old {a : Addr} {o : HO} (h : O a = some o) : lockL B O H a = some o := by
  unfold lockL
  rw [h]
open Classical in
theorem lockL_lst {a : Addr} {xs : List V} (h : O a = none) (w : ¬ B.W a) (e : H a = some (.lst xs)) : lockL B O H a = some (.lst xs) := by
  unfold lockL
  rw [h]
  show (if B.W a then none else match H a with
    | some (.lst xs) => some (HO.lst xs)
    | _ => none) = _
  rw [if_neg w, e]
open Classical in
theorem lockL_inv {a : Addr} {o : HO} (j : (B.lock O).J H) (h : lockL B O H a = some o) : ¬ B.W a ∧ H a = some o ∧ (O a = some o ∨ ∃ xs, o = .lst xs) := by
  unfold lockL at h
  cases q : O a with
  | some o' =>
    rw [q] at h
    cases h
    exact ⟨(j.2 a _ q).1, (j.2 a _ q).2, .inl rfl⟩
  | none =>
    rw [q] at h
    replace h : (if B.W a then none else match H a with
      | some (.lst xs) => some (HO.lst xs)
      | _ => none) = some o := h
    by_cases w : B.W a
    · rw [if_pos w] at h; cases h
    · rw [if_neg w] at h
      cases e : H a with
      | none => rw [e] at h; cases h
      | some u =>
        rw [e] at h
        cases u <;> first
          | (cases h; exact ⟨w, rfl, .inr ⟨_, rfl⟩⟩)
          | (cases h; done)
theorem lockL_J (j : (B.lock O).J H) : (B.lock (lockL B O H)).J H := ⟨j.1, fun a o h => ⟨(lockL_inv j h).1, (lockL_inv j h).2.1⟩⟩
theorem lockL_W (j : (B.lock O).J H) {a : Addr} {o : HO} (w : ¬ (B.lock O).W a) (e : H a = some o) (n : ∀ xs, o ≠ .lst xs) : ¬ (B.lock (lockL B O H)).W a := fun z => by
  rcases z with z | z
  · exact w (.inl z)
  · cases q : lockL B O H a with
    | none => exact z q
    | some u =>
      obtain ⟨_, e2, h⟩ := lockL_inv j q
      rcases h with h | ⟨xs, h⟩
      · exact w (.inr (by rw [h]; exact nofun))
      · rw [e] at e2
        cases e2
        exact n xs h
theorem slots_lockL (j : (B.lock O).J H) : ∀ {σ : L2.St} {env : List Ent}, LFEs env = true → Slots (B.lock O).W O H σ env → Slots (B.lock (lockL B O H)).W (lockL B O H) H σ env
  | [], [], _, _ => trivial
  | s :: σ, e :: env, l, h => by
    have l2 := Bool.and_eq_true_iff.mp (show (LFE e && LFEs env) = true from l)
    refine ⟨?_, slots_lockL j l2.2 h.2⟩
    have h1 := h.1
    cases e with
    | non => trivial
    | dat d =>
      obtain ⟨v, e1, q⟩ := h1
      exact ⟨v, e1, q.toLF (fun a o w e n => ⟨lockL_W j w e n, e⟩) d v l2.1⟩
    | raw v => exact h1
    | stb p => cases l2.1
    | own a ds =>
      obtain ⟨e1, vs, e2, q⟩ := h1
      exact ⟨e1, vs, lockL_old e2, q.toLF (fun a o w e n => ⟨lockL_W j w e n, e⟩) ds vs l2.1⟩
  | [], _ :: _, _, h => h.elim
  | _ :: _, [], _, h => h.elim
end
theorem Dq.toLF' {W W' : Addr → Prop} {H H' : Hp} {d : PyData} {v : V} (q : Dq W H v d) (l : LF d = true) (k : ∀ a o, ¬ W a → H a = some o → (∀ xs, o ≠ .lst xs) → ¬ W' a ∧ H' a = some o) : Dq W' H' v d := q.toLF k d v l
theorem slots_blank {W : Addr → Prop} {O : Lk} {H : Hp} : ∀ {σ : L2.St} {env : List Ent} (i : Nat), Slots W O H σ env → Slots W O H σ (env.set i .non)
  | [], [], _, _ => trivial
  | s :: σ, e :: env, 0, h => ⟨trivial, h.2⟩
  | s :: σ, e :: env, i + 1, h => ⟨h.1, slots_blank i h.2⟩
  | [], _ :: _, _, h => h.elim
  | _ :: _, [], _, h => h.elim
theorem slots_blanks {W : Addr → Prop} {O : Lk} {H : Hp} {σ : L2.St} {env : List Ent} (h : Slots W O H σ env) : ∀ vs : List Nat, Slots W O H σ (wipeE env vs)
  | [] => h
  | v :: vs => slots_blank v (slots_blanks h vs)
/-- x = e, e a list that is new: one's own. vs: names that e does not read -/
theorem sw_fresh {B : Fr} {env : List Ent} {P : Post} {i : Nat} {te : TE} (vs : List Nat) (hl : LFEs (wipeE env vs) = true)
    (h : EW B (wipeE env vs) te fun d => ∃ ds, d = .list ds ∧ LFA ds = true ∧ ∀ a, P.N (env.set i (.own a ds))) : SW B env (tAsg te (gName i)) P := fun Z H0 U O σ H D s e => by
  refine h (lockL B O H) σ H (lockL_J s.j) (slots_lockL s.j hl (slots_blanks s.sl vs)) _ fun d v H2 ⟨ds, ed, lf, q⟩ g k => ?_
  subst ed
  cases k with
  | @lst a xs _ w e1 ha =>
    have nB : ¬ B.W a := fun z => w (.inl z)
    have nO : O a = none := by
      cases q : O a with
      | none => rfl
      | some o => exact absurd (Or.inr (by rw [lockL_old q]; exact nofun)) w
    have hna : H a = none := by
      cases q : H a with
      | none => rfl
      | some o =>
        have e2 := g.1 a o w q
        rw [e1] at e2
        cases e2
        exact absurd (Or.inr (by rw [lockL_lst nO nB q]; exact nofun)) w
    have g' : Gro (B.lock O) H H2 := by
      refine ⟨fun b o wb eb => ?_, g.2.1, fun b o q => ?_⟩
      · by_cases z : (B.lock (lockL B O H)).W b
        · rcases z with z | z
          · exact absurd (.inl z) wb
          · cases q : lockL B O H b with
            | none => exact absurd q z
            | some u =>
              have e3 := (lockL_inv s.j q).2.1
              rw [eb] at e3
              cases e3
              exact (g.2.2 b _ q).2
        · exact g.1 b o z eb
      · exact g.2.2 b o (lockL_old q)
    have s2 := s.gro g'
    let O2 : Lk := fun b => if b = a then some (.lst xs) else O b
    have o2 : ∀ b, b ≠ a → O2 b = O b := fun b hb => if_neg hb
    have o2a : O2 a = some (.lst xs) := if_pos rfl
    have npo : a ∉ owned env := fun m => (s.sl.own_in m) nO
    have jj : (B.lock O2).J H2 := ⟨s2.j.1, fun b o q => by
      by_cases hb : b = a
      · subst hb
        rw [o2a] at q
        cases q
        exact ⟨nB, e1⟩
      · rw [o2 b hb] at q
        exact s2.j.2 b o q⟩
    have wk : ∀ b, b ≠ a → ¬ (B.lock O).W b → ¬ (B.lock O2).W b := fun b hb w w2 => w (w2.elim .inl fun x => .inr (by rw [← o2 b hb]; exact x))
    have k3 : DqA (B.lock O2).W H2 xs ds := ha.toLF (fun b o wb eb n => by
      have hb : b ≠ a := fun z => by subst z; rw [e1] at eb; cases eb; exact n _ rfl
      refine ⟨wk b hb fun z => wb ?_, eb⟩
      rcases z with z | z
      · exact .inl z
      · right
        cases q : O b with
        | none => exact absurd q z
        | some o' => rw [lockL_old q]; exact nofun) ds xs lf
    refine e.nx _ O2 _ _ (q a) ⟨jj, ?_, owned_set_own_nd i (.inl npo) s.nd, fun b o z => ?_, s2.keep, fun b z => ?_⟩
    · refine Slots.set i ?_ ⟨rfl, xs, o2a, k3⟩
      exact s.sl.to (fun b o w q => ⟨wk b (fun z => by subst z; rw [hna] at q; cases q) w, g'.1 b o w q⟩) fun b hb => o2 b (fun z => npo (z ▸ hb))
    · have nb : b ≠ a := fun z2 => by
        subst z2
        rw [(s.z b o z).1] at nO
        cases nO
      refine ⟨(o2 b nb).trans (s.z b o z).1, fun m => ?_⟩
      rcases owned_set_own i b m with r | r
      · exact nb r
      · exact (s.z b o z).2 r
    · by_cases hb : b = a
      · subst hb
        cases q1 : H0 b with
        | none => exact .inr (.inr rfl)
        | some o =>
          by_cases hu : U b
          · exact .inr (.inl hu)
          · have zb : Z b = none := by
              cases q2 : Z b with
              | none => rfl
              | some o' => rw [(s.z b o' q2).1] at nO; cases nO
            have q3 := s.keep b o nB zb hu q1
            rw [hna] at q3
            cases q3
      · exact s.dom b (by rw [← o2 b hb]; exact z)
/-- repr(x), x a list of one's own -/
theorem ew_reprOwn {B : Fr} {env : List Ent} {K : PySem.W.Frag} {Q : PyData → Prop} {i : Nat} {a : Addr} {ds : List PyData} (hi : env[i]? = some (.own a ds)) (hs : Shw (.list ds)) (hd : (PyData.list ds).depth ≤ 50) (hz : (PyData.list ds).shown.length ≤ sizeLine) (q : Q (.str (PyData.list ds).shown)) :
    EW B env (tCB (rReprB K) (tCons (tVar i) tNil)) Q := fun O σ H j s R r => by
  obtain ⟨c, e1, e2, vs, e3, k⟩ := s.get hi
  subst e2
  refine ⟨_, e1, _, _, rfl, .lst (SqL.of (j.2 a _ e3).2) (DqA.dp K _ _ (noXA_shw _ (by unfold Shw at hs; exact hs)) k), ⟨ds, .inl rfl⟩, hs, hd, hz, r _ _ H q (.refl j) (.str _)⟩
end Dl
end
section
set_option Elab.async false
set_option linter.all false
set_option maxRecDepth 100000
/-! comprehensions by what comes out -/
namespace Dl
open PySem L2 PySem.Spec PyProof.Rows RZ
section
variable {B : Fr} {vs : List Nat} {env : List Ent} {K : PySem.W.Frag}
/-- each item by its place: us -/
theorem ew_lcEq {wi : TI} {g : TG} {te : TE} {P : PyData → Prop} (us : List PyData) (h : IT B env wi fun ds => ds.length ≤ 100000 ∧ ds.length = us.length ∧
    (∀ (i : Nat) d u, ds[i]? = some d → us[i]? = some u → GC B vs (wipeE env vs) g d fun e2 => EW B e2 te fun y => y = u) ∧ P (.list us)) : EW B env (tLc wi g tYes te vs) P := by
  refine ew_lc fun O σ H j s R r => h O σ H j s R fun ds J H2 ⟨hl, hL, hs, hp⟩ gr w => r ds J H2 ⟨hl, fun i acc => acc = us.take i, rfl, fun i d acc e inv => ?_, fun acc inv => ?_⟩ gr w
  · intro O σ H v j s k R r
    have hi : i < us.length := by rw [← hL]; exact (List.getElem?_eq_some_iff.mp e).1
    have eu : us[i]? = some us[i] := List.getElem?_eq_getElem hi
    refine hs i d us[i] e eu O σ H v j s k R fun e2 σ2 q s2 w2 => r e2 σ2 (tw_yes ?_) s2 w2
    rw [if_pos rfl]
    refine q.mono fun y hy => ?_
    subst inv
    rw [hy, List.take_add_one, eu]
    rfl
  · subst inv
    rw [hL, List.take_length]
    exact hp
/-- .. those that a test lets by -/
theorem ew_lcF {wi : TI} {g : TG} {tt : TT} {te : TE} {P : PyData → Prop} (F : PyData → Option PyData) (h : IT B env wi fun ds => ds.length ≤ 100000 ∧
    (∀ (i : Nat) d, ds[i]? = some d → GC B vs (wipeE env vs) g d fun e2 => TW B e2 tt fun b => b = (F d).isSome ∧ ∀ u, F d = some u → EW B e2 te fun y => y = u) ∧ P (.list (ds.filterMap F))) : EW B env (tLc wi g tt te vs) P := by
  refine ew_lc fun O σ H j s R r => h O σ H j s R fun ds J H2 ⟨hl, hs, hp⟩ gr w => r ds J H2 ⟨hl, fun i acc => acc = (ds.take i).filterMap F, rfl, fun i d acc e inv => ?_, fun acc inv => ?_⟩ gr w
  · intro O σ H v j s k R r
    refine hs i d e O σ H v j s k R fun e2 σ2 q s2 w2 => r e2 σ2 (q.mono fun b hb => ?_) s2 w2
    obtain ⟨hb, hu⟩ := hb
    have et : ds.take (i + 1) = ds.take i ++ [d] := by rw [List.take_add_one, e]; rfl
    subst inv
    cases q2 : F d with
    | none =>
      rw [q2] at hb
      subst hb
      rw [if_neg (show ¬ ((none : Option PyData).isSome = true) from Bool.false_ne_true)]
      show (ds.take i).filterMap F = (ds.take (i + 1)).filterMap F
      rw [et, List.filterMap_append]
      simp [q2]
    | some u =>
      rw [q2] at hb
      subst hb
      rw [if_pos (show (some u).isSome = true from rfl)]
      refine (hu u q2).mono fun y hy => ?_
      show (ds.take i).filterMap F ++ [y] = (ds.take (i + 1)).filterMap F
      rw [hy, et, List.filterMap_append]
      simp [q2]
  · subst inv
    rw [List.take_length]
    exact hp
/-- .. by their places -/
theorem ew_lcFi {wi : TI} {g : TG} {tt : TT} {te : TE} {P : PyData → Prop} (F : Nat → Option PyData) (h : IT B env wi fun ds => ds.length ≤ 100000 ∧
    (∀ (i : Nat) d, ds[i]? = some d → GC B vs (wipeE env vs) g d fun e2 => TW B e2 tt fun b => b = (F i).isSome ∧ ∀ u, F i = some u → EW B e2 te fun y => y = u) ∧ P (.list ((List.range ds.length).filterMap F))) : EW B env (tLc wi g tt te vs) P := by
  refine ew_lc fun O σ H j s R r => h O σ H j s R fun ds J H2 ⟨hl, hs, hp⟩ gr w => r ds J H2 ⟨hl, fun i acc => acc = (List.range i).filterMap F, rfl, fun i d acc e inv => ?_, fun acc inv => ?_⟩ gr w
  · intro O σ H v j s k R r
    refine hs i d e O σ H v j s k R fun e2 σ2 q s2 w2 => r e2 σ2 (q.mono fun b hb => ?_) s2 w2
    obtain ⟨hb, hu⟩ := hb
    subst inv
    cases q2 : F i with
    | none =>
      rw [q2] at hb
      subst hb
      rw [if_neg (show ¬ ((none : Option PyData).isSome = true) from Bool.false_ne_true)]
      show (List.range i).filterMap F = (List.range (i + 1)).filterMap F
      rw [List.range_succ, List.filterMap_append]
      simp [q2]
    | some u =>
      rw [q2] at hb
      subst hb
      rw [if_pos (show (some u).isSome = true from rfl)]
      refine (hu u q2).mono fun y hy => ?_
      show (List.range i).filterMap F ++ [y] = (List.range (i + 1)).filterMap F
      rw [hy, List.range_succ, List.filterMap_append]
      simp [q2]
  · subst inv
    exact hp
/-- .. some of them, each is G -/
theorem ew_lcSub {wi : TI} {g : TG} {tt : TT} {te : TE} {P : PyData → Prop} (G : PyData → Prop) (h : IT B env wi fun ds => ds.length ≤ 100000 ∧
    (∀ d, d ∈ ds → GC B vs (wipeE env vs) g d fun e2 => TW B e2 tt fun b => b = true → EW B e2 te G) ∧ ∀ acc : List PyData, acc.length ≤ ds.length → (∀ y, y ∈ acc → G y) → P (.list acc)) : EW B env (tLc wi g tt te vs) P := by
  refine ew_lc fun O σ H j s R r => h O σ H j s R fun ds J H2 ⟨hl, hs, hp⟩ gr w => r ds J H2 ⟨hl, fun i acc => acc.length ≤ i ∧ ∀ y, y ∈ acc → G y, ⟨Nat.le_refl _, fun _ h => by cases h⟩, fun i d acc e inv => ?_, fun acc inv => ?_⟩ gr w
  · intro O σ H v j s k R r
    refine hs d (List.mem_of_getElem? e) O σ H v j s k R fun e2 σ2 q s2 w2 => r e2 σ2 (q.mono fun b hb => ?_) s2 w2
    cases b with
    | false =>
      rw [if_neg Bool.false_ne_true]
      exact ⟨by have := inv.1; omega, inv.2⟩
    | true =>
      rw [if_pos rfl]
      refine (hb rfl).mono fun y hy => ⟨by rw [List.length_append, List.length_singleton]; have := inv.1; omega, fun z hz => ?_⟩
      rcases List.mem_append.mp hz with m | m
      · exact inv.2 z m
      · have : z = y := by simpa using m
        subst this
        exact hy
  · exact hp acc inv.1 inv.2
theorem sw_mid {t u : TS} {P : Post} (I : List Ent → Prop) (h : SW B env t ⟨I, P.R, P.B, P.C⟩) (k : ∀ e, I e → SW B e u P) : SW B env (tSeq t u) P :=
  sw_seq (h.mono (fun e q => k e q) (fun _ q => q) (fun _ q => q) (fun _ q => q))
theorem fm_none {α : Type} {f : Nat → Option α} : ∀ {n : Nat}, (∀ j, j < n → f j = none) → (List.range n).filterMap f = []
  | 0, _ => rfl
  | n + 1, h => by
    rw [List.range_succ, List.filterMap_append, fm_none fun j hj => h j (by omega)]
    simp [h n (by omega)]
theorem fm_first {α : Type} {f : Nat → Option α} {i : Nat} {u : α} (h0 : ∀ j, j < i → f j = none) (h1 : f i = some u) : ∀ {n : Nat}, i < n → ∃ r, (List.range n).filterMap f = u :: r
  | 0, h => by omega
  | n + 1, h => by
    rw [List.range_succ, List.filterMap_append]
    by_cases e : i = n
    · subst e
      rw [fm_none h0]
      exact ⟨[], by simp [h1]⟩
    · obtain ⟨r, hr⟩ := fm_first h0 h1 (n := n) (by omega)
      rw [hr]
      exact ⟨r ++ _, rfl⟩
theorem fm_map {α : Type} (f : Nat → Option α) (g : α → PyData) (n : Nat) : (List.range n).filterMap (fun i => (f i).map g) = ((List.range n).filterMap f).map g := by
  rw [List.map_filterMap]
theorem zipD_inv {xs ys : List PyData} {i : Nat} {d : PyData} (h : (zipD xs ys)[i]? = some d) : ∃ a b, xs[i]? = some a ∧ ys[i]? = some b ∧ d = .tuple [a, b] := by
  unfold zipD at h
  rw [List.getElem?_zipWith] at h
  cases e1 : xs[i]? with
  | none => rw [e1] at h; cases ys[i]? <;> cases h
  | some a =>
    cases e2 : ys[i]? with
    | none => rw [e1, e2] at h; cases h
    | some b =>
      rw [e1, e2] at h
      cases h
      exact ⟨a, b, rfl, rfl, rfl⟩
theorem map_inv {α : Type} {f : α → PyData} {xs : List α} {i : Nat} {d : PyData} (h : (xs.map f)[i]? = some d) : ∃ x, xs[i]? = some x ∧ d = f x := by
  rw [List.getElem?_map] at h
  cases e : xs[i]? with
  | none => rw [e] at h; cases h
  | some x => rw [e] at h; cases h; exact ⟨x, rfl, rfl⟩
theorem rangeD_inv {lo : Int} {n i : Nat} {d : PyData} (h : (rangeD lo n)[i]? = some d) : i < n ∧ d = .int (lo + i) := by
  unfold rangeD at h
  obtain ⟨x, e, rfl⟩ := map_inv h
  obtain ⟨hi, e2⟩ := List.getElem?_eq_some_iff.mp e
  have hn : i < n := by simpa using hi
  refine ⟨hn, ?_⟩
  rw [List.getElem_range] at e2
  subst e2
  rfl
end
end Dl
end
section
set_option Elab.async false
set_option linter.all false
set_option maxRecDepth 100000
/-! repr of anything but texts and dicts -/
namespace Dl
open PySem L2 PySem.Spec PyProof.Rows RZ
def rReprL : List V → Hp → VK → Prop := fun vs H Q => ∃ d : PyData, ((vs = [.non] ∧ d = .none) ∨ (∃ b, vs = [.bl b] ∧ d = .bool b) ∨ (∃ i, vs = [.int i] ∧ d = .int i ∧ i.natAbs.log2 < 1920)) ∧ Q (.str d.shown) H
theorem call_reprL {X : Cx} : CallR X (.builtin "repr") rReprL := by
  intro pins s σ H vs us Q I r h
  obtain ⟨d, h, q⟩ := h
  rcases h with ⟨rfl, rfl⟩ | ⟨b, rfl, rfl⟩ | ⟨i, rfl, rfl, hi⟩
  · cases r with
    | cons r1 rr =>
      cases rr
      cases r1
      rw [PyData.shown] at q
      exact PySem.P.repr_of_none ⟨.str _, H, I.tok _, ⟨_, rfl⟩, q⟩
  · cases r with
    | cons r1 rr =>
      cases rr
      cases r1
      rw [PyData.shown] at q
      refine PySem.P.repr_of_bool ⟨.str _, H, I.tok _, ⟨_, rfl⟩, ?_⟩
      cases b <;> exact q
  · cases r with
    | cons r1 rr =>
      cases rr
      obtain ⟨t, rfl⟩ := r1
      rw [PyData.shown] at q
      exact PySem.P.repr_of_int hi ⟨.str _, H, I.tok _, ⟨_, rfl⟩, q⟩
def rReprA (K : PySem.W.Frag) : List V → Hp → VK → Prop := fun vs H Q => rReprB K vs H Q ∨ rReprL vs H Q
theorem kReprA {X : Cx} {K : PySem.W.Frag} (h : X.K = K) (n : NoDig X.base) (hg : X.A.guards = some []) (hu : X.A.units + 64 < cLine) : CallR X (.builtin "repr") (rReprA K) := fun pins s σ H vs us Q I r z => by
  subst h
  rcases z with z | z
  · exact call_reprB n hg hu pins s σ H vs us Q I r z
  · exact call_reprL pins s σ H vs us Q I r z
section
variable {K : PySem.W.Frag} {Q : PyData → Prop}
theorem ra_list {ds : List PyData} (h1 : Shw (.list ds)) (h2 : (PyData.list ds).depth ≤ 50) (h3 : (PyData.list ds).shown.length ≤ sizeLine) (q : Q (.str (PyData.list ds).shown)) : CD (rReprA K) [.list ds] Q := fun F H vs j k R r => .inl (cd_repr ⟨_, rfl, ⟨_, .inl rfl⟩, h1, h2, h3, q⟩ F H vs j k R r)
theorem ra_tup {ds : List PyData} (h1 : Shw (.tuple ds)) (h2 : (PyData.tuple ds).depth ≤ 50) (h3 : (PyData.tuple ds).shown.length ≤ sizeLine) (q : Q (.str (PyData.tuple ds).shown)) : CD (rReprA K) [.tuple ds] Q := fun F H vs j k R r => .inl (cd_repr ⟨_, rfl, ⟨_, .inr rfl⟩, h1, h2, h3, q⟩ F H vs j k R r)
theorem ra_leaf {d : PyData} (h : d = .none ∨ (∃ b, d = .bool b) ∨ ∃ i : Int, d = .int i ∧ i.natAbs.log2 < 1920) (q : Q (.str d.shown)) : CD (rReprA K) [d] Q := fun F H vs j k R r => by
  refine .inr ⟨d, ?_, r _ _ H q (.refl j) (.str _)⟩
  cases k with
  | cons k1 k2 =>
    cases k2
    rcases h with rfl | ⟨b, rfl⟩ | ⟨i, rfl, hi⟩
    · cases k1; exact .inl ⟨rfl, rfl⟩
    · cases k1; exact .inr (.inl ⟨b, rfl, rfl⟩)
    · cases k1; exact .inr (.inr ⟨i, rfl, rfl, hi⟩)
theorem ew_reprOwnA {B : Fr} {env : List Ent} {i : Nat} {a : Addr} {ds : List PyData} (hi : env[i]? = some (.own a ds)) (hs : Shw (.list ds)) (hd : (PyData.list ds).depth ≤ 50) (hz : (PyData.list ds).shown.length ≤ sizeLine) (q : Q (.str (PyData.list ds).shown)) :
    EW B env (tCB (rReprA K) (tCons (tVar i) tNil)) Q := fun O σ H j s R r => by
  obtain ⟨c, e1, e2, vs, e3, k⟩ := s.get hi
  subst e2
  refine ⟨_, e1, .inl ⟨_, _, rfl, .lst (SqL.of (j.2 a _ e3).2) (DqA.dp K _ _ (noXA_shw _ (by unfold Shw at hs; exact hs)) k), ⟨ds, .inl rfl⟩, hs, hd, hz, r _ _ H q (.refl j) (.str _)⟩⟩
end
end Dl
end
section
set_option Elab.async false
set_option linter.all false
set_option maxRecDepth 100000
/-! lists unpacked, list(range(n)), list * int, extend -/
namespace Dl
open PySem L2 PySem.Spec PyProof.Rows RZ
section
variable {B : Fr} {env : List Ent} {K : PySem.W.Frag}
theorem kUnl {X : Cx} {es : List Expr} {k : Nat} {t : TGs} {n : Nat} {pos : Pos} (hK : X.K = K) (hc : X.calm = true) (h : PGs X es t)
   (hn : (assignEach es X.env).length = n := by rfl) (hst : (assignEach es X.env).findIdx? (·.1) = none := by rfl) : PG X (.Tuple es k pos) (gUnl K n t) := hK ▸ pg_unl hc h hn hst
theorem gw_unl {Q : List Ent → Prop} {d : PyData} {gs : TGs} {n : Nat} (h : ∃ ds, d = .list ds ∧ ds.length = n ∧ GWs B env gs ds Q) : GW B env (gUnl K n gs) d Q := fun Z H0 U O σ H v s k R r => by
  obtain ⟨ds, rfl, hl, q⟩ := h
  cases k with
  | lst w e ha => exact ⟨_, _, rfl, SqL.of e, by rw [ha.len]; exact hl, q Z H0 U O σ H _ s ha R r⟩
theorem ew_lstRg {te : TE} {Q : PyData → Prop} (h : EW B env te fun d => ∃ n : Int, d = .int n ∧ RgOk 0 n ∧ Q (.list (rangeD 0 n.toNat))) : EW B env (tLstRg (tRg1 te)) Q := fun O σ H j s R r =>
  h O σ H j s _ fun d v H2 ⟨n, e, ok, q⟩ g k => by
    subst e
    cases k
    refine ⟨n, rfl, ok, fun p hp => ?_⟩
    have g2 : Gro (B.lock O) H2 (upd H2 p (.lst (rgV 0 n))) := .new g.2 hp
    refine r _ _ _ q (g.trans g2) (.lst (Fr.fresh g.2 hp) upd_same ?_)
    have e : rgV 0 n = ((List.range n.toNat).map fun (i : Nat) => (0 : Int) + (i : Int)).map V.int := by
      unfold rgV
      rw [Int.sub_zero, List.map_map]
      rfl
    have e2 : rangeD 0 n.toNat = ((List.range n.toNat).map fun (i : Nat) => (0 : Int) + (i : Int)).map PyData.int := by
      unfold rangeD
      rw [List.map_map]
      rfl
    rw [e, e2]
    exact DqA.ofInts _
theorem od_mulNL {Q : PyData → Prop} {x y : PyData} (h : ∃ d k, x = .list [d] ∧ y = .int k ∧ 0 ≤ k ∧ k ≤ 1000 ∧ Q (.list (List.replicate k.toNat d))) : OD (rMulN K) x y Q := fun F H u v j kx ky R r => by
  obtain ⟨d, k, rfl, rfl, h0, h1, q⟩ := h
  cases ky
  cases kx with
  | @lst a vl _ w e ha =>
    cases ha with
    | @cons z zs _ _ k1 k2 =>
      cases k2
      refine .inl (.inr (.inl ⟨a, k, [z], rfl, rfl, e, by omega, by omega, ?_, fun p hp => ?_⟩))
      · have : k.toNat ≤ 1000 := by omega
        rw [List.length_singleton, Nat.one_mul]
        exact Nat.le_trans this (by decide)
      · have ee : (List.replicate k.toNat [z]).flatten = List.replicate k.toNat z := by
          induction k.toNat with
          | zero => rfl
          | succ n ih => rw [List.replicate_succ, List.flatten_cons, ih, List.replicate_succ]; rfl
        rw [ee]
        have g : Gro F H (upd H p (.lst (List.replicate k.toNat z))) := .new j hp
        have al : ∀ n, DqA F.W H (List.replicate n z) (List.replicate n d) := fun n => by
          induction n with
          | zero => exact .nil
          | succ n ih => exact .cons k1 ih
        exact r _ _ _ q g (.lst (Fr.fresh j hp) upd_same ((al _).gro g))
theorem own_gone {a : Addr} {ds : List PyData} : ∀ (env : List Ent) (i : Nat), env[i]? = some (.own a ds) → (owned env).Nodup → a ∉ owned (env.set i (.raw (.ref a)))
  | [], i, h, _ => by simp at h
  | c :: r, 0, h, nd => by
    simp at h
    subst h
    exact (List.nodup_cons.mp nd).1
  | c :: r, i + 1, h, nd => by
    have h' : r[i]? = some (.own a ds) := by simpa using h
    cases c with
    | own b es =>
      intro z
      rcases List.mem_cons.mp (show a ∈ b :: owned (r.set i _) from z) with q | q
      · subst q; exact (List.nodup_cons.mp nd).1 (owned_get h')
      · exact own_gone r i h' (List.nodup_cons.mp nd).2 q
    | non => exact own_gone r i h' nd
    | dat d => exact own_gone r i h' nd
    | raw v => exact own_gone r i h' nd
    | stb p => exact own_gone r i h' nd
/-- x.extend(e), x a list of one's own -/
theorem sw_extend {P : Post} {i : Nat} {a : Addr} {ds : List PyData} {te : TE} (hi : env[i]? = some (.own a ds)) (h : EW B env te fun d => ∃ es, d = .list es ∧ ds.length + es.length ≤ 100000 ∧ P.N (env.set i (.own a (ds ++ es)))) :
    SW B env (tDrop (tBM K "list" rExtend (tVar i) (tCons te tNil))) P := fun Z H0 U O σ H D s e => by
  obtain ⟨c, e1, e2, vs, e3, k⟩ := s.sl.get hi
  subst e2
  refine ⟨_, e1, .inl ⟨rfl, _, SqL.of (s.j.2 a _ e3).2⟩, h O σ H s.j s.sl _ fun d v H2 ⟨es, ed, hl, q⟩ g kd => ?_⟩
  subst ed
  have s2 := s.gro g
  have hL := (g.2.2 a _ e3).2
  cases kd with
  | @lst b zs _ wb eb hb =>
    have hin : a ∈ owned env := owned_get hi
    refine ⟨a, b, vs, zs, rfl, rfl, hL, eb, by rw [k.len, hb.len]; exact Nat.le_trans hl (by decide), ?_⟩
    let O2 : Lk := fun x => if x = a then some (.lst (vs ++ zs)) else O x
    have o2 : ∀ x, x ≠ a → O2 x = O x := fun x hx => if_neg hx
    have o2a : O2 a = some (.lst (vs ++ zs)) := if_pos rfl
    have off : ∀ x, ¬ (B.lock O).W x → x ≠ a ∧ ¬ (B.lock O2).W x := fun x w => by
      have hx : x ≠ a := fun z => w (.inr (by rw [z, e3]; exact nofun))
      exact ⟨hx, fun w2 => w (w2.elim .inl fun y => .inr (by rw [← o2 x hx]; exact y))⟩
    have mv : ∀ x o, ¬ (B.lock O).W x → H2 x = some o → ¬ (B.lock O2).W x ∧ (upd H2 a (.lst (vs ++ zs))) x = some o := fun x o w q => ⟨(off x w).2, by rw [upd_ne (off x w).1]; exact q⟩
    have nBa : ¬ B.W a := (s.j.2 a _ e3).1
    have jj : (B.lock O2).J (upd H2 a (.lst (vs ++ zs))) := ⟨B.loc H2 _ (fun x w => upd_ne (fun z => nBa (z ▸ w))) s2.j.1, fun x o q => by
      by_cases hx : x = a
      · subst hx
        rw [o2a] at q
        cases q
        exact ⟨nBa, upd_same⟩
      · rw [o2 x hx] at q
        exact ⟨(s2.j.2 x o q).1, by rw [upd_ne hx]; exact (s2.j.2 x o q).2⟩⟩
    have k3 : DqA (B.lock O2).W (upd H2 a (.lst (vs ++ zs))) (vs ++ zs) (ds ++ es) := (DqA.to mv ds vs (k.gro g)).append (DqA.to mv es zs hb)
    have hz : Z a = none := by
      cases q : Z a with
      | none => rfl
      | some o => exact absurd hin (s.z a o q).2
    have es' : σ.set i (some (.ref a)) = σ := by
      obtain ⟨hl, he⟩ := List.getElem?_eq_some_iff.mp e1
      conv => rhs; rw [← List.set_getElem_self hl]
      rw [he]
    refine e.nx _ O2 σ _ q ⟨jj, ?_, owned_set_own_nd i (.inr ⟨ds, hi⟩) s.nd, fun x o z => ?_, fun x o w zb u h0 => ?_, fun x z => ?_⟩
    · have q0 : Slots (B.lock O).W O H2 (σ.set i (some (.ref a))) (env.set i (.raw (.ref a))) := s2.sl.set i rfl
      have q1 : Slots (B.lock O2).W O2 (upd H2 a (.lst (vs ++ zs))) (σ.set i (some (.ref a))) (env.set i (.raw (.ref a))) := q0.to mv fun x hx => o2 x fun z => own_gone env i hi s.nd (z ▸ hx)
      have q2 := q1.set i (s := some (.ref a)) (e := .own a (ds ++ es)) ⟨rfl, vs ++ zs, o2a, k3⟩
      rw [List.set_set, List.set_set, es'] at q2
      exact q2
    · have nx : x ≠ a := fun z2 => by subst z2; rw [hz] at z; cases z
      refine ⟨(o2 x nx).trans (s.z x o z).1, fun m => ?_⟩
      rcases owned_set_own i x m with r | r
      · exact nx r
      · exact (s.z x o z).2 r
    · have q := s2.keep x o w zb u h0
      by_cases hx : x = a
      · subst hx
        rcases s.dom x (by rw [e3]; exact nofun) with r | r | r
        · exact absurd zb r
        · exact absurd r u
        · rw [h0] at r; cases r
      · rw [upd_ne hx]; exact q
    · by_cases hx : x = a
      · subst hx; exact s.dom x (by rw [e3]; exact nofun)
      · exact s.dom x (by rw [← o2 x hx]; exact z)
/-- x, a list of one's own, is from now on data: the statement begins so -/
theorem sw_thaw {ts : TS} {P : Post} (i : Nat) {a : Addr} {ds : List PyData} (hi : env[i]? = some (.own a ds)) (h : SW B (env.set i (.dat (.list ds))) ts P) : SW B env ts P := sw_freeze hi h
end
end Dl
end
section
set_option Elab.async false
set_option linter.all false
set_option maxRecDepth 100000
set_option maxHeartbeats 4000000
/-! own exceptions as values: made, their fields kept -/
namespace PySem
namespace OwnX
open PySem.W PySem.Calls PyProof.Rows PySem.HandSPX
open Builtin Builtin.ObjectAttr
section
variable {prog : Program} {w : World} {A : Around} {R : Result → Shared → Prop} {hp : Heap} {g : Array GenState} {d : Drawn} {t : Nat} {os : OsState}
/-- the first field of an exception, whatever built-in class it comes from -/
theorem first_field {K : W.Frag} {name : Str} {tk : Tok} {v : Value} {x C : Addr} {fv : Array Value} {cd : ClassData} (X : K.In hp)
    (hx : hp.get? x = some { cls := .ref C, data := .fields fv }) (hcd : W.clsIn K C = some cd)
    (n1 : cd.mro.isEmpty = false) (n2 : cd.mro.contains (.type "object") = true) (n3 : ∀ self, refuseLoop self "__setattr__" cd.mro = pure ())
    (hh : cd.hasDict = true) (ha : W.findIn K (.ref C) name = some none)
    (hq : ∀ h' tk' dx, (∀ b o, b ≠ x → hp.get? b = some o → h'.get? b = some o) → hp.objs.size ≤ dx → dx ≠ x →
      h'.get? x = some { cls := .ref C, dict := some dx, data := .fields fv } →
      h'.Ns1 dx (fun y => if y = name then some v else none) → R (.ok (.ret .none)) ⟨h', g, d, tk', os⟩) :
    codeAny (model prog w) A (.call (.builtin "object.__setattr__") ⟨[.ref x, .str name tk, v], []⟩) R ⟨hp, g, d, t, os⟩ := by
  have J : W.InstAt hp x { cls := .ref C, data := .fields fv } C none := ⟨hx, rfl, rfl, trivial⟩
  have sl := F.store_object
  have lt := Nat.ne_of_lt (Heap.lt_size hx)
  have isO : W.Looks (model prog w) hp (isInstance (.ref x) (.type "object")) true := by
    refine J.type.andThen (W.looks_mroIn X ?_)
    unfold W.mroIn
    rw [hcd, Option.bind_some, if_neg (by rw [n1]; decide), n2]
  have args := sl.args (.ref x) (.str name tk) v
  refine codeAny_call_builtin sl.slot.plain sl.entry ?_
  refine @W.check_slot (model prog w) _ _ ⟨hp, g, d, t, os⟩
    "object.__setattr__" "object" "__setattr__" (.ref x) [.str name tk, v] [] _ sl.kind sl.split isO args ?_
  have lm : W.Looks (model prog w) hp (mroOf (.ref C)) cd.mro := (W.looks_clsIn X hcd).andThen .now
  have lt3 : W.Looks (model prog w) hp (storeTaker? none) none := .now
  have lc : W.Looks (model prog w) hp (classData C) cd := W.looks_clsIn X hcd
  rw [W.osa_eq, refuse_eq]
  refine wpAny_bind (wpAny_bind (J.type.at (wpAny_bind (lm.at ?_))))
  rw [n3]
  refine wpAny_pure (wpAny_bind (J.type.at ?_))
  refine wpAny_bind ((W.looks_findIn X ha).at (wpAny_bind (lt3.at ?_)))
  show wpAny _ _ (storeInOwnDict (.ref x) (.ref C) (.str name tk) name v false) _ _ _
  obtain ⟨nm, bs, mro, ns, qn, hd, sn, sb, ab, col, del⟩ := cd
  dsimp only at hh
  subst hh
  unfold storeInOwnDict ownDictForStores
  repeat (first
    | with_reducible refine store_in_new ?_ ?_
    | with_reducible refine wpAny_loadPart_at hx ?_
    | with_reducible refine lc.at ?_
    | wp_step)
  · have at0 := fun (u : Obj → Obj) => (Heap.get?_update_ne (hp.push { cls := .type "dict", data := .dict #[] }) hp.objs.size x u lt.symm).trans (Heap.get?_push_at rfl rfl)
    exact ⟨_, #[], _, at0 _, rfl, fun e he => absurd he (by simp), fun _ => rfl⟩
  · intro h' tk' one same
    have old := Heap.get?_push_of_some { cls := .type "dict", data := .dict #[] } hx
    refine hq h' tk' _ ?_ (Nat.le_refl _) lt.symm ?_ one
    · intro b o hb ho
      rw [same.2 b (Nat.ne_of_lt (Heap.lt_size ho)), Heap.get?_update_ne _ _ _ _ hb]
      exact Heap.get?_push_of_some _ ho
    · rw [same.2 x lt]
      exact Heap.get?_update_self _ old rfl
end
end OwnX
end PySem

namespace Xo
open PySem L2 PySem.Spec PyProof.Rows
/-- what the written part says of an exception's class, from whatever built-in class it comes -/
structure XCls (K : PySem.W.Frag) (C : Addr) (newId : String) (bmB : List Value) : Prop where
  cls : ∃ nm q N bs bm sn sub ab col dd k0 k1 k2 k3 k5, K.lookup C = some (excClassObj nm q C N bs bm true sn sub ab col dd k0 k1 k2 k3 k5 newId) ∧
    (∀ Y : String, bm.contains (.type Y) = bmB.contains (.type Y)) ∧ ((.ref C :: bm : List Value).contains (.type "object") = true) ∧
    ∀ self, refuseLoop self "__setattr__" (.ref C :: bm) = pure ()
  sa : PySem.W.findIn K (.ref C) "__setattr__" = some (some (.builtin "object.__setattr__"))
  kC : PySem.W.keepIn K (.ref C) = true
section
variable {X : Cx} {pins : List (Addr × Obj)} {σ : L2.St} {H : Hp} {s : Shared} {a C : Addr} {f : Str} {y : V} {u : Value} {A : Around} {Q : Unit → Shared → Prop} {E : Value → Shared → Prop} {newId : String} {bmB : List Value}
theorem xo_first (T : XCls X.K C newId bmB) (I : Inv X pins σ H s) (e : H a = some (exo a C none)) (hno : PySem.W.findIn X.K (.ref C) f = some none) (ry : RelV y u)
    (h : ∀ dx s', H dx = none → dx ≠ a → Inv X pins σ (upd (upd H dx (exd dx [(f, y)])) a (exo a C (some dx))) s' → Q () s') :
    wpAny (model X.prog X.w) A (setAttr (.ref a) f u) Q E s := by
  obtain ⟨nm, q, N, bs, bm, sn, sub, ab, col, dd, k0, k1, k2, k3, k5, hC, hB, hO, hR⟩ := T.cls
  have hcl : PySem.W.clsIn X.K C = some { name := nm, bases := bs, mro := .ref C :: bm, ns := N, qualname := q, hasDict := true, slotNames := sn, subclasses := sub, abstract := ab, collection := col, hasDel := false } := by
    unfold PySem.W.clsIn
    rw [hC] <;> rfl
  obtain ⟨t1, ho⟩ := exo_at I.hok e
  obtain ⟨hp, g, d, t, os⟩ := s
  refine PySem.W.set_plain I.kIn (od := none) ⟨ho, rfl, rfl, trivial⟩ T.sa ?_
  refine PySem.OwnX.first_field I.kIn ho hcl rfl hO hR rfl hno fun h' tk' dx k dn dne hx hn => ?_
  have fr : H dx = none := I.hok.fresh dn
  have nd : ∀ {b : Addr} {o : Obj}, hp.get? b = some o → b ≠ dx := fun {b o} z => Nat.ne_of_lt (Nat.lt_of_lt_of_le (Heap.lt_size z) dn)
  have na : ∀ {b : Addr}, H b = none → b ≠ a := fun {b} n z => by
    subst z
    rw [n] at e
    cases e
  refine h dx _ fr dne (I.un (t' := tk') ?_ fun b o z => ?_)
  · refine { keep := ?_, slot := ?_, free := ?_, there := ?_, tups := ?_, frzs := ?_, tbls := ?_ }
    · exact fun b o z n _ _ => k b o (na n) z
    · exact fun b o z n _ _ => ⟨o.slots, k b o (na n) z⟩
    · intro b o z n _
      rw [upd_ne (na n), upd_ne (nd z)]
      exact n
    · intro b o z _
      by_cases hb : b = a
      · subst hb
        exact ⟨_, hx⟩
      · exact ⟨o, k b o hb z⟩
    · intro b xs z
      rw [upd_ne (at_ne e z exo_tup), upd_ne (ne_of_none z fr)]
      exact z
    · intro b o v z
      rw [upd_ne (at_ne e z exo_frz), upd_ne (ne_of_none z fr)]
      exact z
    · intro b ps z
      refine ⟨#[], ?_⟩
      rw [upd_ne (at_ne e z exo_tbl), upd_ne (ne_of_none z fr), z]
      simp
  · by_cases hb : b = a
    · subst hb
      rw [upd_same] at z
      cases z
      exact exo_ok hx
    rw [upd_ne hb] at z
    by_cases hd : b = dx
    · subst hd
      rw [upd_same] at z
      cases z
      exact exd_ok hn (relO_put (fs := []) ry fun _ => True.intro)
    rw [upd_ne hd] at z
    refine (I.hok b o z).stay (fun c v hc q => ?_) (fun c hc => ?_) fun c xs hc => ?_
    · refine k c v ?_ q
      rcases hc with rfl | hc
      · exact hb
      · exact at_ne e hc exo_own
    · rw [upd_ne (at_ne e hc exo_own), upd_ne (ne_of_none hc fr)]
      exact hc
    · rw [upd_ne (at_ne e hc exo_tup), upd_ne (ne_of_none hc fr)]
      exact hc
end
/-- self.f = e, the first field of an exception that is being made -/
def tXst (K : PySem.W.Frag) (f : Str) (to te : TE) : TS := fun D σ H => te σ H fun y H1 => to σ H1 fun x H2 =>
  ∃ (a C : Addr) (newId : String) (bmB : List Value), x = .ref a ∧ XCls K C newId bmB ∧ PySem.W.findIn K (.ref C) f = some none ∧ H2 a = some (exo a C none) ∧
    ∀ dx, H2 dx = none → dx ≠ a → D.nx σ (upd (upd H2 dx (exd dx [(f, y)])) a (exo a C (some dx)))
/-- C(e, ..), a value: C's own __init__ keeps sp -/
def tXnew (C : Addr) (sp : Sp) (ta : TA) : TE := fun σ H Q => ta σ H fun vs H1 =>
  vs.length ≤ 1000 ∧ ∀ a, H1 a = none → sp (.ref a :: vs) (upd H1 a (exo a C none)) (fun v H2 => v = .non ∧ Q (.ref a) H2) fun _ _ _ => False
section
variable {X : Cx} {o e : Expr} {es : List Expr} {to te : TE} {ta : TA} {f : Str} {p p' pos : Pos} {B newId initId : String} {bmB : List Value}
theorem ps_xst (ho : PE X o to) (he : PE X e te) (hs : swapsWith e (some (.Attribute o f p')) pos.line X.env = pure false := by rfl) :
    PS X (.Assign [.Attribute o f p'] e pos) (tXst X.K f to te) := by
  refine ⟨fun pins s σ H D I h => ?_⟩
  have first := he.run pins s σ H _ I h
  refine plainObj_wpAny_Assign_Attribute (thn first fun v s1 ⟨y, H1, I1, r1, q1⟩ => ?_) hs
  refine thn (ho.run pins s1 σ H1 _ I1 q1) fun u s2 ⟨x, H2, I2, r2, a, C, nw, bB, ex, T, hno, ea, q⟩ => ?_
  subst ex
  obtain rfl : u = Value.ref a := r2
  exact xo_first T I2 ea hno r1 fun dx s' n ne J => ⟨σ, _, J, q dx n ne⟩
theorem pe_xnew {CX : CXT} {x : Str} {C fI : Addr} {k : Nat} {fd : FuncData} {ps : List Str} {sp : Sp} (F : ExcBaseFacts B newId initId bmB) (T : XCls X.K C newId bmB)
    (iC : PySem.W.findIn X.K (.ref C) "__init__" = some (some (.ref fI))) (tI : PySem.W.typeIn X.K (.ref fI) = some (.type "function"))
    (F1 : FnOk X.prog X.w X.K X.mg X.base CX k fI fd ps sp) (hr : Room (k + 1) X.A) (hb : Binds X.K fd ps []) (hx : Passes CX X fun _ _ _ => False)
    (hg : Gl X x) (hm : X.mg x = some (.ref C)) (ha : PA X (e :: es) ta) (hdb : (x == ("__debug__" : Str)) = false := by decide)
    (he : starEach (e :: es) X.env = (false, eval e X.env) :: starEach es X.env := by rfl) (hpl : (backTo pos (starEach es X.env)).any (·.1) = false := by rfl) :
    PE X (.Call (.Name x p) (e :: es) [] pos) (tXnew C sp ta) := by
  refine ⟨fun pins s σ H Q I h => ?_⟩
  obtain ⟨nm, q, N, bs, bm, sn, sub, ab, col, dd, k0, k1, k2, k3, k5, hC, hB, -, -⟩ := T.cls
  refine wpAny_Call_Name_kw (ld_glob I hg hm ?_ hdb)
  have args := ha.run pos pins s σ H _ I h
  refine PySem.W.callWith_K (h₀ := X.base) I.ok.mod.kin T.kC (thn args fun us s1 ⟨vs, H1, I1, r1, hz, q1⟩ => ⟨I1.kIn, ?_⟩) he hpl
  show wpAny _ _ (call (.ref C) us) _ _ _
  obtain ⟨hp, g, dr, tk, os⟩ := s1
  let hp2 := (hp.push (PySem.W.kdv_tup us)).push (PySem.HandSPX.excO C hp.objs.size)
  let a := hp.objs.size + 1
  have big : hp.objs.size ≤ a := Nat.le_succ _
  have new : H1 a = none := I1.hok.fresh big
  have sp1 := q1 a new
  have at2 : hp2.get? a = some (PySem.HandSPX.excO C hp.objs.size) := by
    show ((hp.push (PySem.W.kdv_tup us)).push (PySem.HandSPX.excO C hp.objs.size)).get? (hp.objs.size + 1) = _
    heap_get
  have keep : ∀ b o, hp.get? b = some o → hp2.get? b = some o := fun b o z => Heap.get?_push_of_some _ (Heap.get?_push_of_some _ z)
  have I2 : Inv X pins σ (upd H1 a (exo a C none)) ⟨hp2, g, dr, tk, os⟩ := I1.laid (t' := tk) (a := a) (o := exo a C none) (h' := hp2) keep big (exo_ok at2)
  have vals : Vals (V.ref a :: vs) (Value.ref a :: us) := .cons rfl r1
  have len : (Value.ref a :: us).length = ps.length := by rw [← vals.length, F1.len _ _ _ _ sp1]
  have small : us.length ≤ sizeLine := by
    rw [← Paired.length r1, sizeLine_eq]
    omega
  have bind := hb ⟨hp2, g, dr, tk, os⟩ (Value.ref a :: us) I2.kIn (by simpa using len)
  refine wpAny_call (PySem.HandSPX.call_own F hB (I1.kIn _ _ hC) (PySem.W.looks_findIn I1.kIn iC) (fun self => PySem.W.bind_fn I1.kIn self tI) small ?_)
  refine codeAny_mono (F1.run _ X.stack _ _ ⟨Value.ref a :: us, []⟩ _ _ _ (fun _ _ _ => False) (hr.make C us []) (I2.env0.make C us []) bind (by simpa using vals) sp1) fun r s' hq' => ?_
  cases r with
  | error er => exact hx pins σ _ _ er s' I2 hq'
  | ok fl =>
    cases fl with
    | ret u =>
      obtain ⟨v, H2, J, rv, ev, q2⟩ := I2.after (u := u) hq'
      subst ev
      exact ⟨rv, .ref a, H2, J, rfl, q2⟩
    | next => exact hq'.elim
    | brk => exact hq'.elim
    | cont => exact hq'.elim
end
/-! ### isinstance of such an exception -/
/-- what its class must say for that -/
structure XIs (K : PySem.W.Frag) (C : Addr) : Prop where
  cl : (PySem.W.clsIn K C).isSome = true
  ga : PySem.W.findIn K (.ref C) "__getattribute__" = some (some (.builtin "BaseException.__getattribute__"))
  gt : ∃ g, PySem.W.findIn K (.ref C) "__getattr__" = some g
  sub : PySem.W.subIn K (.ref C) (.type "BaseException") = some true
  cls : PySem.W.findIn K (.ref C) "__class__" = some (some (.builtin "object.__class__"))
  get : PySem.W.specialIn K (.builtin "object.__class__") "__get__" = some (some (.builtin "getset_descriptor.__get__"))
  tk : PySem.W.takesIn K (.builtin "object.__class__") = some true
  ob : PySem.W.mroIn K C (.type "object") = some true
/-- an exception of C stands at a, its dict (none as yet | with these fields) -/
def XAt (H : Hp) (a C : Addr) (fs : List (Str × V)) : Prop := (fs = [] ∧ H a = some (exo a C none)) ∨ ∃ d, H a = some (exo a C (some d)) ∧ H d = some (exd d fs)
theorem XAt.inst {P : Program} {w : World} {H : Hp} {h : Heap} {a C : Addr} {fs : List (Str × V)} (z : XAt H a C fs) (ok : HOk P w H h) : ∃ ox od, PySem.W.InstAt h a ox C od := by
  rcases z with ⟨-, e⟩ | ⟨d, e, ed⟩
  · obtain ⟨t, g⟩ := exo_at ok e
    exact ⟨_, none, g, rfl, rfl, trivial⟩
  · obtain ⟨t, g⟩ := exo_at ok e
    obtain ⟨mA, ns, -⟩ := exd_at ok ed
    obtain ⟨o, es, ep, e1, e2, -⟩ := ns
    exact ⟨_, some o, g, rfl, rfl, e1⟩
def rIsX (K : PySem.W.Frag) : List V → Hp → VK → Prop := fun xs H Q => ∃ (a C : Addr) (fs : List (Str × V)) (c : V) (b : Bool), xs = [.ref a, c] ∧ XAt H a C fs ∧ XIs K C ∧
  ((∃ cv, (∀ u, RelV c u → u = cv) ∧ PySem.W.kitOne K (.ref C) cv = some b) ∨
    ∃ t ts, c = .ref t ∧ H t = some (.tup ts) ∧ ∀ us, Vals ts us → PySem.W.kitAny K (.ref C) us = some b) ∧ Q (.bl b) H
theorem call_isX {X : Cx} : CallR X (.builtin "isinstance") (rIsX X.K) := by
  intro pins s σ H xs us Q I r h
  obtain ⟨a, C, fs, c, b, rfl, z, T, e, q⟩ := h
  obtain ⟨gt, hgt⟩ := T.gt
  obtain ⟨ox, od, J⟩ := z.inst I.hok
  have Z := fun (x : Addr) => PySem.W.kitx_exc (x := x) (ox := ox) (od := od) T.cl T.ga hgt T.sub T.cls T.get T.tk T.ob
  cases r with
  | cons rx rr =>
    cases rr with
    | cons rt rr =>
      cases rr
      cases rx
      have fin : ∀ tk, EP X pins σ Q (.bool b) { s with toks := tk } := fun tk => ⟨.bl b, H, I.kept (t' := tk) fun _ _ z => z, rfl, q⟩
      rcases e with ⟨cv, hcv, e⟩ | ⟨t, ts, rfl, ht, e⟩
      · have ec := hcv _ rt
        subst ec
        exact PySem.W.kia_one (Z a) I.kIn J e (fun z => nomatch z) fin
      · cases rt
        obtain ⟨its, vi, ⟨o, g, c1, n, c2⟩, -⟩ := I.tuple (SqT.of ht)
        obtain ⟨oc, od2, oda, osl⟩ := o
        dsimp only at c1 c2
        subst c1 c2
        exact PySem.W.kia_tup (Z a) I.kIn J g (e its vi) (fun z => nomatch z) fin
/-! ### C(), C without an __init__ of its own -/
def tX0 (C : Addr) : TE := fun _ H Q => ∀ a, H a = none → Q (.ref a) (upd H a (exo a C none))
section
variable {X : Cx} {C : Addr} {bmB : List Value} {B newId initId : String}
theorem pe_x0 {x : Str} {p pos : Pos} (F : ExcBaseFacts B newId initId bmB) (q : PySem.W.excIn X.K C bmB newId = true) (gC : X.mg x = some (.ref C)) (kC : PySem.W.keepIn X.K (.ref C) = true) (hg : Gl X x)
    (hdb : (x == ("__debug__" : Str)) = false := by decide) : PE X (.Call (.Name x p) [] [] pos) (tX0 C) := by
  refine ⟨fun pins s σ H Q I h => ?_⟩
  refine wpAny_Call_Name_kw (ld_glob I hg gC ?_ hdb)
  refine PySem.W.callWith_K0 I.kIn kC ?_
  obtain ⟨bm, N, nm, qn, bs, hdct, sn, sub, ab, col, dd, k0, k1, k2, k3, k5, mN, hC, hN, hni, T⟩ := exc_obj I.kIn q
  obtain ⟨hp, g, d, tk, os⟩ := s
  refine wpAny_call_exc_subT F T hC hN hni (fun h' e made => ?_) (Nat.zero_le _)
  obtain ⟨t, at1, -, -⟩ := made.there
  have new : H e = none := I.hok.gone made.new
  exact ⟨.ref e, _, I.laidN (t' := tk) made.keeps made.new new (exo_ok at1), rfl, h e new⟩
end
/-! ### a field is read -/
def tXg (K : PySem.W.Frag) (f : Str) (te : TE) : TE := fun σ H Q => te σ H fun x H1 => ∃ (a C d : Addr) (fs : List (Str × V)) (v : V),
  x = .ref a ∧ XfC K C ∧ PySem.W.findIn K (.ref C) f = some none ∧ H1 a = some (exo a C (some d)) ∧ H1 d = some (exd d fs) ∧ fs.lookup f = some v ∧ Q v H1
theorem pe_xg {X : Cx} {e : Expr} {te : TE} {pos : Pos} {f : Str} (he : PE X e te) (hb : attributeBase e f X.env (eval e X.env) = eval e X.env := by rfl) : PE X (.Attribute e f pos) (tXg X.K f te) := by
  refine ⟨fun pins s σ H Q I h => ?_⟩
  refine attr_of hb (thn (he.run pins s σ H _ I h) fun u s1 ⟨x, H1, I1, rx, a, C, d, fs, v, ex, T, hno, ea, ed, l, q⟩ => ?_)
  subst ex
  obtain rfl : u = Value.ref a := rx
  obtain ⟨t1, ga⟩ := exo_at I1.hok ea
  obtain ⟨mA, ns, rel⟩ := exd_at I1.hok ed
  obtain ⟨od, ho, hl⟩ := lookIn_ns ns
  obtain ⟨u, hu, ru⟩ := RelO.some_of (v := v) (o := mA f) (by rw [← l]; exact rel f)
  have J : PySem.W.InstAt s1.heap a _ C (some od) := ⟨ga, rfl, rfl, ho⟩
  have own := PySem.W.findObj_own T.hdC hno rfl (by rw [hl, hu])
  exact HandSPX.exc_get I1.kIn J T.ga T.gg T.exC own (handed_of ru) ⟨v, H1, I1.tok _, ru, q⟩
end Xo
end
section
set_option Elab.async false
set_option linter.all false
set_option maxRecDepth 100000
/-! own exceptions as data -/
namespace Xo
open PySem L2 PySem.Spec PyProof.Rows Dl
/-- self.f = v is what C's __init__ does -/
def spX (K : PySem.W.Frag) (f : Str) : Sp := fun vs H Q _ => ∃ (a C : Addr) (v : V) (nw : String) (bB : List Value), vs = [.ref a, v] ∧ XCls K C nw bB ∧ PySem.W.findIn K (.ref C) f = some none ∧ H a = some (exo a C none) ∧
  ∀ e, H e = none → e ≠ a → Q .non (upd (upd H e (exd e [(f, v)])) a (exo a C (some e)))
abbrev x0D (C : Addr) : PyData := .dict [(.int (C : Int), .none)]
abbrev x1D (C : Addr) (f : Str) (d : PyData) : PyData := .dict [(.int (C : Int), .str f), (.none, d)]
def IsX (C : Addr) (d : PyData) : Prop := d = x0D C ∨ ∃ f x, d = x1D C f x
section
variable {W : Addr → Prop} {H : Hp} {v : V} {C : Addr} {f : Str} {d : PyData}
theorem x0_inv (k : Dq W H v (x0D C)) : ∃ a, v = .ref a ∧ H a = some (exo a C none) := by
  unfold x0D at k
  generalize hC : (C : Int) = z at k
  cases k with
  | @exc0 a C' w e =>
    have := Int.ofNat.inj hC
    subst this
    exact ⟨a, rfl, e⟩
theorem x1_inv (k : Dq W H v (x1D C f d)) : ∃ a e u, v = .ref a ∧ H a = some (exo a C (some e)) ∧ H e = some (exd e [(f, u)]) ∧ Dq W H u d := by
  unfold x1D at k
  generalize hC : (C : Int) = z at k
  cases k with
  | @exc1 a C' e f' u d' w1 w2 e1 e2 q =>
    have := Int.ofNat.inj hC
    subst this
    exact ⟨a, e, u, rfl, e1, e2, q⟩
theorem isX_at (h : IsX C d) (k : Dq W H v d) : ∃ a fs, v = .ref a ∧ XAt H a C fs := by
  rcases h with rfl | ⟨f, x, rfl⟩
  · obtain ⟨a, e, q⟩ := x0_inv k
    exact ⟨a, [], e, .inl ⟨rfl, q⟩⟩
  · obtain ⟨a, e, u, e0, e1, e2, _⟩ := x1_inv k
    exact ⟨a, _, e0, .inr ⟨e, e1, e2⟩⟩
end
section
variable {B : Fr} {env : List Ent} {K : PySem.W.Frag} {C : Addr} {f : Str} {te : TE} {Q : PyData → Prop}
theorem ew_x0 (q : Q (x0D C)) : EW B env (tX0 C) Q := fun O σ H j s R r a ha => r _ _ _ q (.new j ha) (.exc0 (Fr.fresh j ha) upd_same)
theorem ew_x1 {nw : String} {bB : List Value} (T : XCls K C nw bB) (hf : PySem.W.findIn K (.ref C) f = some none) (h : EW B env te fun d => Q (x1D C f d)) : EW B env (tXnew C (spX K f) (tCons te tNil)) Q := fun O σ H j s R r =>
  h O σ H j s _ fun d v H1 q g k => ⟨Nat.le_of_ble_eq_true rfl, fun a ha => ⟨a, C, v, nw, bB, rfl, T, hf, upd_same, fun e he ne => ⟨rfl, by
    rw [upd_ne ne] at he
    have st : ∀ x o, H1 x = some o → x ≠ a ∧ x ≠ e := fun x o z => ⟨ne_of_none z ha, ne_of_none z he⟩
    have old : ∀ x, x ≠ a → x ≠ e → upd (upd (upd H1 a (exo a C none)) e (exd e [(f, v)])) a (exo a C (some e)) x = H1 x := fun x n1 n2 => by rw [upd_ne n1, upd_ne n2, upd_ne n1]
    have g2 : Gro (B.lock O) H1 (upd (upd (upd H1 a (exo a C none)) e (exd e [(f, v)])) a (exo a C (some e))) := by
      refine ⟨fun x o _ z => ?_, (B.lock O).loc H1 _ (fun x w => ?_) g.2⟩
      · rw [old x (st x o z).1 (st x o z).2]
        exact z
      · have n1 : x ≠ a := fun z => Fr.fresh g.2 ha (z ▸ w)
        have n2 : x ≠ e := fun z => Fr.fresh g.2 he (z ▸ w)
        exact old x n1 n2
    refine r _ _ _ q (g.trans g2) (.exc1 (Fr.fresh g.2 ha) (Fr.fresh g.2 he) upd_same ?_ (k.gro g2))
    rw [upd_ne ne, upd_same]⟩⟩⟩
theorem ew_xg (h : EW B env te fun d => ∃ (C : Addr) (x : PyData), d = x1D C f x ∧ XfC K C ∧ PySem.W.findIn K (.ref C) f = some none ∧ Q x) : EW B env (tXg K f te) Q := fun O σ H j s R r =>
  h O σ H j s _ fun d v H1 ⟨C, x, e, T, hf, q⟩ g k => by
    subst e
    obtain ⟨a, e, u, e0, e1, e2, k2⟩ := x1_inv k
    exact ⟨a, C, e, _, u, e0, T, hf, e1, e2, by simp [List.lookup], r _ _ _ q g k2⟩
theorem ew_isX {c : V} (h : EW B env te fun d => ∃ (C : Addr) (b : Bool), IsX C d ∧ XIs K C ∧ (∃ cv, (∀ u, RelV c u → u = cv) ∧ PySem.W.kitOne K (.ref C) cv = some b) ∧ Q (.bool b)) :
    EW B env (tCB (rIsX K) (tCons te (tCons (tC c) tNil))) Q := fun O σ H j s R r =>
  h O σ H j s _ fun d v H1 ⟨C, b, hx, T, hc, q⟩ g k => by
    obtain ⟨a, fs, e, at_⟩ := isX_at hx k
    subst e
    exact ⟨a, C, fs, c, b, rfl, at_, T, .inl hc, r _ _ _ q g (.bl b)⟩
theorem ew_isX3 {c1 c2 c3 : V} (h : EW B env te fun d => ∃ (C : Addr) (b : Bool), IsX C d ∧ XIs K C ∧ (∀ us, Vals [c1, c2, c3] us → PySem.W.kitAny K (.ref C) us = some b) ∧ Q (.bool b)) :
    EW B env (tCB (rIsX K) (tCons te (tCons (tTup (tCons (tC c1) (tCons (tC c2) (tCons (tC c3) tNil)))) tNil))) Q := fun O σ H j s R r =>
  h O σ H j s _ fun d v H1 ⟨C, b, hx, T, hc, q⟩ g k => by
    refine ⟨Nat.le_of_ble_eq_true rfl, fun p hp => ?_⟩
    have g2 : Gro (B.lock O) H1 (upd H1 p (.tup [c1, c2, c3])) := .new g.2 hp
    obtain ⟨a, fs, e, at_⟩ := isX_at hx (k.gro g2)
    subst e
    exact ⟨a, C, fs, .ref p, b, rfl, at_, T, .inr ⟨p, _, rfl, upd_same, hc⟩, r _ _ _ q (g.trans g2) (.bl b)⟩
theorem ew_dct1 {k : Str} {i : Int} (q : Q (.dict [(.str k, .int i)])) : EW B env (tDisp [(tC (.str k), tC (.int i))]) Q := fun O σ H j s R r p hp => by
  refine ⟨upd_same, [(.inr k, .int i)], rfl, Nat.le_of_ble_eq_true rfl, ?_⟩
  rw [upd_upd]
  exact r _ _ _ q (.new j hp) (.dct (Fr.fresh j hp) upd_same)
end
end Xo
end
section
set_option Elab.async false
set_option linter.all false
set_option maxRecDepth 100000
/-! repr of data in which a dict of one text may stand -/
namespace Dl
open PySem L2 PySem.Spec PyProof.Rows
def Shx : PyData → Prop
  | .int i => i.natAbs.log2 < 12900
  | .list xs => ∀ x ∈ xs, Shx x
  | .tuple xs => ∀ x ∈ xs, Shx x
  | .dict kvs => ∃ k i, kvs = [(.str k, .int i)] ∧ i.natAbs.log2 < 1920 ∧ (reprText k).length ≤ sizeLine ∧ (toString i).length ≤ sizeLine
  | _ => True
section
variable {X : Cx} {pins : List (Addr × Obj)} {σ : L2.St} {H : Hp} {s : Shared} {W : Addr → Prop}
mutual
theorem ry (I : Inv X pins σ H s) (n : NoDig s.heap) : ∀ (d : PyData) (v : V) (u : Value), Dq W H v d → RelV v u → Shx d → d.shown.length ≤ sizeLine →
    ∃ as bs, Reads s.heap u d as ∧ ReadAtMost s.heap d.depth bs ∧ ReprK X.prog X.w bs s.heap d.depth u d.shown
  | .none, _, _, h, r, _, _ => by
    cases h
    cases r
    exact ⟨_, [], Reads.none, nofun, ReprK.of_is ReprIs.none _ _ _⟩
  | .bool b, _, _, h, r, _, _ => by
    cases h
    cases r
    exact ⟨_, [], Reads.bool b, nofun, by rw [PyData.shown]; exact ReprK.of_is (ReprIs.bool b) _ _ _⟩
  | .int i, _, _, h, r, hs, _ => by
    cases h
    obtain ⟨t, rfl⟩ := r
    exact ⟨_, [], Reads.int i t, nofun, by rw [PyData.shown]; exact reprK_int n (by unfold Shx at hs; exact hs)⟩
  | .str x, _, _, h, r, _, hz => by
    cases h
    obtain ⟨t, rfl⟩ := r
    exact ⟨_, [], Reads.str x t, nofun, by rw [PyData.shown] at hz ⊢; exact ReprK.of_is (ReprIs.str x t hz) _ _ _⟩
  | .list ds, _, _, h, r, hs, hz => by
    cases h with
    | @lst a _ _ hw he ha =>
      cases r
      obtain ⟨its, rv, ⟨o, n', ho, hc, _, hd⟩, _⟩ := I.list (SqL.of he)
      unfold Shx at hs
      rw [PyData.shown] at hz
      obtain ⟨as, bs, hr, hb, hk⟩ := rys I n ds _ its ha rv hs (fun t ht => Nat.le_trans (listText_mem_le ht) hz)
      have r : Reads s.heap (.ref a) (.list ds) _ := Reads.list ho hc hd hr
      have hna : a ∉ bs := not_mem_of_deeper r (by rw [PyData.depth]; omega) hb
      refine ⟨_, a :: bs, r, ReadAtMost.cons r (by rw [PyData.depth]; omega) hb, ?_⟩
      rw [PyData.depth, PyData.shown]
      cases its with
      | nil =>
        have z : ReadsAll s.heap [] ds _ := hr
        cases z
        rw [PyData.shownAll, listText_nil]
        exact .listEmpty ho hc hd
      | cons x l => exact .list ho hc hd hna (by simpa using hk.length_eq) (fun i y e => hk.item i y (by simpa using e))
  | .tuple ds, _, _, h, r, hs, hz => by
    cases h with
    | @tup a _ _ hw he ha =>
      cases r
      obtain ⟨its, rv, ⟨o, ho, hc, n', hd⟩, _⟩ := I.tuple (SqT.of he)
      unfold Shx at hs
      rw [PyData.shown] at hz
      obtain ⟨as, bs, hr, hb, hk⟩ := rys I n ds _ its ha rv hs (fun t ht => Nat.le_trans (tupleText_mem_le ht) hz)
      have r : Reads s.heap (.ref a) (.tuple ds) _ := Reads.tuple ho hc hd hr
      have hna : a ∉ bs := not_mem_of_deeper r (by rw [PyData.depth]; omega) hb
      refine ⟨_, a :: bs, r, ReadAtMost.cons r (by rw [PyData.depth]; omega) hb, ?_⟩
      rw [PyData.depth, PyData.shown]
      exact .tuple ho hc hd hna hk
  | .dict kvs, _, _, h, r, hs, hz => by
    unfold Shx at hs
    obtain ⟨k, i, e, hi, hkl, hil⟩ := hs
    subst e
    cases h with
    | @dct a _ _ hw he =>
      cases r
      obtain ⟨_, sy, vs, kv, o, es, ep, ho, hx, hd, _, hp, _⟩ := dk_of I.hok he
      have hcl : o.cls = .type "dict" := hx.1
      cases kv with
      | @cons _ q _ qs hq t =>
        cases t
        generalize hl : es.toList = l at hp
        cases hp with
        | @cons e1 kv1 es1 kvs1 h1 h2 t =>
          cases t
          have hk1 : ∃ t, e1.key = .str k t := by
            rcases keyIs_shape h1 with ⟨j, t, e2, e3⟩ | ⟨y, t, e2, e3⟩
            · have := hq.1; rw [e2] at this; cases this
            · have := hq.1; rw [e2] at this; cases this; exact ⟨t, e3⟩
          have hv1 : ∃ t, e1.val = .int i t := by
            rw [h2]; exact hq.2
          obtain ⟨t1, ek⟩ := hk1
          obtain ⟨t2, ev⟩ := hv1
          have r : Reads s.heap (.ref a) (.dict [(.str k, .int i)]) _ := Reads.dict (n := ep) ho hcl hd
            (by rw [hl]; show ReadsAll s.heap [e1.key] [.str k] _; rw [ek]; exact .cons (.str k t1) .nil)
            (by rw [hl]; show ReadsAll s.heap [e1.val] [.int i] _; rw [ev]; exact .cons (.int i t2) .nil)
          refine ⟨_, [a], r, ReadAtMost.cons r (Nat.le_refl _) nofun, ?_⟩
          have hE : ReprEntriesK X.prog X.w [] s.heap 0 es.toList [reprText k ++ ": " ++ toString i] := by
            rw [hl]
            refine .cons ?_ ?_ .nil
            · rw [ek]; exact ReprK.of_is (ReprIs.str k t1 hkl) _ _ _
            · rw [ev]; exact reprK_int n (by omega)
          have z := ReprK.dict ho hcl hd sy (by simp) hE
          rw [PyData.shown, PyData.shownKv, PyData.shownKv, PyData.shown, PyData.shown]
          exact z.level_le (by show 0 + 1 ≤ _; rw [PyData.depth]; omega)
theorem rys (I : Inv X pins σ H s) (n : NoDig s.heap) : ∀ (ds : List PyData) (vs : List V) (us : List Value), DqA W H vs ds → Vals vs us → (∀ x ∈ ds, Shx x) → (∀ t ∈ PyData.shownAll ds, t.length ≤ sizeLine) →
    ∃ as bs, ReadsAll s.heap us ds as ∧ ReadAtMost s.heap (PyData.depthAll ds) bs ∧ ReprAllK X.prog X.w bs s.heap (PyData.depthAll ds) us (PyData.shownAll ds)
  | [], _, _, h, r, _, _ => by
    cases h
    cases r
    exact ⟨_, [], .nil, nofun, by rw [PyData.shownAll]; exact .nil⟩
  | d :: ds, _, _, h, r, hs, hz => by
    cases h with
    | cons h1 h2 =>
      cases r with
      | cons r1 r2 =>
        rw [PyData.shownAll] at hz
        obtain ⟨as1, b1, q1, hb1, k1⟩ := ry I n d _ _ h1 r1 (hs d List.mem_cons_self) (hz _ List.mem_cons_self)
        obtain ⟨as2, b2, q2, hb2, k2⟩ := rys I n ds _ _ h2 r2 (fun x hx => hs x (List.mem_cons_of_mem _ hx)) (fun t ht => hz t (List.mem_cons_of_mem _ ht))
        refine ⟨_, b1 ++ b2, .cons q1 q2, ?_, ?_⟩
        · rw [PyData.depthAll]
          exact (hb1.mono (Nat.le_max_left _ _)).append (hb2.mono (Nat.le_max_right _ _))
        · rw [PyData.depthAll, PyData.shownAll]
          exact .cons ((k1.more fun b hb => List.mem_append_left _ hb).level_le (Nat.le_max_left _ _)) (k2.more_le (fun b hb => List.mem_append_right _ hb) (Nat.le_max_right _ _))
end
end
/-- repr of such a list -/
def rReprX : List V → Hp → VK → Prop := fun vs H Q => ∃ v d W, vs = [v] ∧ Dq W H v d ∧ (∃ ds, d = .list ds) ∧ Shx d ∧ d.depth ≤ 50 ∧ d.shown.length ≤ sizeLine ∧ Q (.str d.shown) H
theorem call_reprX {X : Cx} (n : NoDig X.base) (hg : X.A.guards = some []) (hu : X.A.units + 64 < cLine) : CallR X (.builtin "repr") rReprX := by
  intro pins s σ H vs us Q I r h
  obtain ⟨v, d, W, rfl, hd, ⟨ds, rfl⟩, hs, hdp, hz, q⟩ := h
  cases r with
  | @cons _ u _ _ r1 rr =>
    cases rr
    have nd := n.keeps I.bk
    have fin : ∀ (h' : Heap) (u : Tok) (tk : Nat), (∀ b o, s.heap.get? b = some o → h'.get? b = some o) → EP X pins σ Q (.str (PyData.list ds).shown u) { s with heap := h', toks := tk } := fun h' u tk k => ⟨.str (PyData.list ds).shown, H, I.kept (t' := tk) k, ⟨u, rfl⟩, q⟩
    cases hd with
    | @lst a _ _ hw he ha =>
      cases r1
      obtain ⟨its, rv, ⟨o, n', ho, hc, _, hdt⟩, _⟩ := I.list (SqL.of he)
      unfold Shx at hs
      rw [PyData.shown] at hz fin
      obtain ⟨as, bs, hr, hb, hk⟩ := rys I nd ds _ its ha rv hs (fun t ht => Nat.le_trans (listText_mem_le ht) hz)
      have r : Reads s.heap (.ref a) (.list ds) _ := Reads.list ho hc hdt hr
      have hna : a ∉ bs := not_mem_of_deeper r (by rw [PyData.depth]; omega) hb
      rw [PyData.depth] at hdp
      refine call_repr_slot (T := "list") (idr := "list.__repr__") (by omega) ⟨o, ho, hc⟩ F.slot_list_repr.toG ?_
      cases its with
      | nil =>
        have z : ReadsAll s.heap [] ds _ := hr
        cases z
        rw [PyData.shownAll, listText_nil] at fin
        exact call_list_repr_empty ⟨o, ho, hc⟩ ho hdt ⟨_, _, rfl, fin s.heap _ _ fun _ _ e => e⟩
      | cons x l =>
        exact call_list_reprK ho hc hdt hna (by simpa using hk.length_eq) (fun i y e => hk.item i y (by simpa using e)) (A := X.A.in1) (g := []) hg (fun b _ => Clear.nil b) (by show X.A.units + 1 + _ < cLine; omega) (fun _ _ e => e) (fun h' u tk k => ⟨_, _, rfl, fin h' u tk k⟩) hz
/-- .. in a walk -/
theorem ew_reprX {B : Fr} {env : List Ent} {te : TE} {Q : PyData → Prop} (h : EW B env te fun d => (∃ xs, d = .list xs) ∧ Shx d ∧ d.depth ≤ 50 ∧ d.shown.length ≤ sizeLine ∧ Q (.str d.shown)) : EW B env (tCB rReprX (tCons te tNil)) Q := fun O σ H j s R r =>
  h O σ H j s _ fun d v H1 ⟨h1, h2, h3, h4, q⟩ g k => ⟨v, d, (B.lock O).W, rfl, k, h1, h2, h3, h4, r _ _ _ q g (.str _)⟩
end Dl
end
section
set_option Elab.async false
set_option linter.all false
set_option maxRecDepth 100000
/-! a list of one's own read by others for a while -/
namespace Dl
open PySem L2 PySem.Spec PyProof.Rows RZ
section
variable {B : Fr} {O : Lk} {H H2 : Hp} {env : List Ent} {σ : L2.St} {P : Post} {i : Nat} {a : Addr} {ds : List PyData}
def lkOff (O : Lk) (a : Addr) : Lk := fun b => if b = a then none else O b
theorem lkOff_at : lkOff O a a = none := if_pos rfl
theorem lkOff_ne {b : Addr} (h : b ≠ a) : lkOff O a b = O b := if_neg h
theorem lkOff_inv {b : Addr} {o : HO} (h : lkOff O a b = some o) : b ≠ a ∧ O b = some o := by
  by_cases z : b = a
  · subst z; rw [lkOff_at] at h; cases h
  · exact ⟨z, (lkOff_ne z).symm.trans h⟩
theorem lkOff_w {b : Addr} (w : ¬ (B.lock O).W b) : ¬ (B.lock (lkOff O a)).W b := fun z => w (z.elim .inl fun x => .inr fun y => x (by
  by_cases q : b = a
  · subst q; exact lkOff_at
  · rw [lkOff_ne q]; exact y))
theorem lkOff_J (j : (B.lock O).J H) : (B.lock (lkOff O a)).J H := ⟨j.1, fun b o q => j.2 b o (lkOff_inv q).2⟩
theorem lkOff_slots (j : (B.lock O).J H) (s : Slots (B.lock O).W O H σ env) (hi : env[i]? = some (.own a ds)) (no : owned (env.set i (.dat (.list ds))) = []) :
    Slots (B.lock (lkOff O a)).W (lkOff O a) H σ (env.set i (.dat (.list ds))) := by
  obtain ⟨c, e1, e2, vs, e3, k⟩ := s.get hi
  subst e2
  have mv : ∀ b o, ¬ (B.lock O).W b → H b = some o → ¬ (B.lock (lkOff O a)).W b ∧ H b = some o := fun b o w q => ⟨lkOff_w w, q⟩
  have wa : ¬ (B.lock (lkOff O a)).W a := fun w => w.elim (j.2 a _ e3).1 fun x => x lkOff_at
  have kk : Dq (B.lock (lkOff O a)).W H (.ref a) (.list ds) := .lst wa (j.2 a _ e3).2 (DqA.to mv ds vs k)
  have es : σ.set i (some (.ref a)) = σ := by
    obtain ⟨hl, he⟩ := List.getElem?_eq_some_iff.mp e1
    conv => rhs; rw [← List.set_getElem_self hl]
    rw [he]
  have q0 : Slots (B.lock (lkOff O a)).W O H σ env := s.to mv fun _ _ => rfl
  have q1 := q0.set i (s := some (.ref a)) (e := .dat (.list ds)) ⟨_, rfl, kk⟩
  rw [es] at q1
  exact q1.to (fun b o w q => ⟨w, q⟩) fun b hb => absurd hb (by rw [no]; exact List.not_mem_nil)
theorem lkOff_back {xs : List V} (ea : O a = some (.lst xs)) (j : (B.lock O).J H) (g : Gro (B.lock (lkOff O a)) H H2) : Gro (B.lock O) H H2 :=
  ⟨fun b o w e => g.1 b o (lkOff_w w) e, g.2.1, fun b o q => by
    by_cases z : b = a
    · subst z
      rw [ea] at q
      cases q
      exact ⟨(j.2 b _ ea).1, g.1 b _ (fun w => w.elim (j.2 b _ ea).1 fun x => x lkOff_at) (j.2 b _ ea).2⟩
    · exact g.2.2 b o (by rw [lkOff_ne z]; exact q)⟩
theorem tw_lend (i : Nat) {a : Addr} {ds : List PyData} (hi : env[i]? = some (.own a ds)) (no : owned (env.set i (.dat (.list ds))) = []) {tt : TT} {Q : Bool → Prop} (h : TW B (env.set i (.dat (.list ds))) tt Q) : TW B env tt Q := fun O σ H j s R r => by
  obtain ⟨c, e1, e2, vs, e3, k⟩ := s.get hi
  exact h _ σ H (lkOff_J (a := a) j) (lkOff_slots j s hi no) R fun b H2 q g => r b H2 q (lkOff_back e3 j g)
theorem ew_lend (i : Nat) {a : Addr} {ds : List PyData} (hi : env[i]? = some (.own a ds)) (no : owned (env.set i (.dat (.list ds))) = []) {te : TE} {Q : PyData → Prop} (h : EW B (env.set i (.dat (.list ds))) te fun d => LF d = true ∧ Q d) : EW B env te Q := fun O σ H j s R r => by
  obtain ⟨c, e1, e2, vs, e3, k⟩ := s.get hi
  refine h _ σ H (lkOff_J (a := a) j) (lkOff_slots j s hi no) R fun d v H2 ⟨lf, q⟩ g kd => ?_
  have g2 := lkOff_back e3 j g
  refine r d v H2 q g2 (kd.toLF' lf fun b o w e n => ⟨fun z => ?_, e⟩)
  rcases z with z | z
  · exact w (.inl z)
  · by_cases y : b = a
    · subst y
      have := (g2.2.2 b _ e3).2
      rw [e] at this
      exact n _ (Option.some.inj this)
    · exact w (.inr (by rw [lkOff_ne y]; exact z))
/-- x = x, x a list of one's own -/
theorem sw_self (hi : env[i]? = some (.own a ds)) (h : P.N env) : SW B env (tAsg (tVar i) (gName i)) P := fun Z H0 U O σ H D s e => by
  obtain ⟨c, e1, e2, vs, e3, k⟩ := s.sl.get hi
  subst e2
  refine ⟨_, e1, ?_⟩
  have es : σ.set i (some (.ref a)) = σ := by
    obtain ⟨hl, he⟩ := List.getElem?_eq_some_iff.mp e1
    conv => rhs; rw [← List.set_getElem_self hl]
    rw [he]
  show D.nx (σ.set i (some (.ref a))) H
  rw [es]
  exact e.nx _ O _ _ h s
/-- x = e if t else f -/
theorem sw_ifE {tt : TT} {ta tb : TE} {g : TG} (h : TW B env tt fun b => if b = true then SW B env (tAsg ta g) P else SW B env (tAsg tb g) P) : SW B env (tAsg (tIf tt ta tb) g) P := fun Z H0 U O σ H D s e =>
  h O σ H s.j s.sl _ fun b H2 q g => by
    cases b with
    | true => exact q Z H0 U O σ H2 D (s.gro g) e
    | false => exact q Z H0 U O σ H2 D (s.gro g) e
/-- a list of one's own is handed to a def that is told what it holds -/
theorem ea_ownR {tr : TA} {Q : List Ent → Prop} (hi : env[i]? = some (.own a ds)) (h : EA B env tr fun es => Q (.raw (.ref a) :: es)) : EA B env (tCons (tVar i) tr) Q := fun O σ H j s R r => by
  obtain ⟨c, e1, e2, vs, e3, k⟩ := s.get hi
  subst e2
  exact ⟨_, e1, h O σ H j s _ fun es vs H3 q3 g3 k3 => r _ _ H3 q3 g3 ⟨rfl, k3⟩⟩
abbrev noLk : Lk := fun _ => none
theorem lock_noLk : (B.lock noLk).W = B.W := by
  funext x
  exact propext ⟨fun w => w.elim id fun z => absurd rfl z, .inl⟩
theorem ew_callO (i : Nat) {a : Addr} {ns : List Int} (hi : env[i]? = some (.own a (ns.map .int))) {t : TA} {m : Fr → List Ent → (PyData → Prop) → Prop} {E : XK} {Q : PyData → Prop}
    (h : EA B env t fun es => owned es = [] ∧ ∀ B2 : Fr, (∀ H, B2.J H → H a = some (.lst (ns.map V.int))) → m B2 es Q) : EW B env (tCall (spG m) [] E t) Q := fun O σ H j s R r => by
  obtain ⟨c, e1, e2, vs, e3, k⟩ := s.get hi
  have ev := DqA.ints k
  subst ev
  refine h O σ H j s _ fun es vs H2 ⟨no, hm⟩ g k => ?_
  show spG m (vs ++ []) H2 R E
  rw [List.append_nil]
  have gg : ∀ H3, Gro ((B.lock O).lock noLk) H2 H3 → Gro (B.lock O) H2 H3 := fun H3 g3 => ⟨fun x o w e => g3.1 x o (by rw [lock_noLk]; exact w) e, g3.2.1⟩
  refine ⟨B.lock O, noLk, es, Q, hm (B.lock O) fun H3 j3 => (j3.2 a _ e3).2, no, ⟨g.2, fun _ _ z => nomatch z⟩, ?_, fun d v H3 q3 g3 k3 => r d v H3 q3 (g.trans (gg H3 g3)) (by rw [lock_noLk] at k3; exact k3)⟩
  rw [lock_noLk]
  exact k.to (fun _ _ w e => ⟨w, e⟩) fun x hx => absurd hx (by rw [no]; exact List.not_mem_nil)
theorem od_neSame {K : PySem.W.Frag} {x : PyData} {Q : PyData → Prop} (hx : SeqAt.shaped x = true) (q : Q (.bool false)) : OD (rNeA K) x x Q := od_neD' ⟨hx, hx, by
  have : PyData.eqv x x = true := PySem.SeqAt.eqv_refl x (by unfold SeqAt.shaped at hx; exact (Bool.and_eq_true_iff.mp hx).1)
  rw [this]; exact q⟩
theorem nonNo : ∀ a ds, Ent.non ≠ .own a ds := fun _ _ h => nomatch h
/-- what names held before is forgotten -/
theorem sw_blank (i : Nat) {ts : TS} (h : SW B (env.set i .non) ts P) : SW B env ts P := fun Z H0 U O σ H D s e =>
  h Z H0 U O σ H D ⟨s.j, slots_blank i s.sl, owned_set_nd i nonNo s.nd, fun a o q => ⟨(s.z a o q).1, fun m => (s.z a o q).2 (owned_set_sub i nonNo a m)⟩, s.keep, s.dom⟩ e
theorem sw_wipe {ts : TS} : ∀ vs : List Nat, SW B (wipeE env vs) ts P → SW B env ts P
  | [], h => h
  | v :: vs, h => sw_wipe vs (sw_blank v h)
end
end Dl
namespace Xo
open PySem L2 PySem.Spec PyProof.Rows Dl
theorem kXg {X : Cx} {K : PySem.W.Frag} (hK : X.K = K) {e : Expr} {te : TE} {pos : Pos} {f : Str} (he : PE X e te) (hb : attributeBase e f X.env (eval e X.env) = eval e X.env := by rfl) : PE X (.Attribute e f pos) (tXg K f te) := hK ▸ pe_xg he hb
end Xo
end
section
set_option Elab.async false
set_option linter.all false
set_option maxRecDepth 100000
namespace Ev
open PySem L2 PySem.Spec PyProof.Rows Dl RZ
/-! from K01a -/
/-! ### the source of draws -/
abbrev kCells : Key := Sum.inr "cells"
abbrev kLeft : Key := Sum.inr "left"
abbrev kMixed : Key := Sum.inr "mixed"
abbrev kTurn : Key := Sum.inr "turn"
theorem k1 : ¬ kCells = kLeft := by decide +kernel
theorem k2 : ¬ kMixed = kLeft := by decide +kernel
theorem k3 : ¬ kTurn = kLeft := by decide +kernel
theorem k4 : ¬ kCells = kTurn := by decide +kernel
theorem k5 : ¬ kLeft = kTurn := by decide +kernel
theorem k6 : ¬ kMixed = kTurn := by decide +kernel
theorem k7 : ¬ kCells = kMixed := by decide +kernel
theorem k8 : ¬ kLeft = kMixed := by decide +kernel
theorem k9 : ¬ kTurn = kMixed := by decide +kernel
structure SrcC (p l : Addr) (H : Hp) (kvs : List (Key × V)) (cells : List Int) (x m t : Int) : Prop where
  hd : H p = some (.dK kvs)
  hn : kvs.length ≤ 100
  hc : valV kvs kCells = some (.ref l)
  hx : valV kvs kLeft = some (.int x)
  hm : valV kvs kMixed = some (.int m)
  ht : valV kvs kTurn = some (.int t)
  hl : H l = some (.lst (cells.map V.int))
  hb : -(2 ^ 64) < m ∧ m < 2 ^ 64
def Src (p l : Addr) (H : Hp) : Prop := ∃ kvs cells x m t, SrcC p l H kvs cells x m t
def Fsrc (p l : Addr) : Fr where
  W := fun a => a = p ∨ a = l
  J := Src p l
  loc := fun H H' e ⟨kvs, cells, x, m, t, s⟩ => ⟨kvs, cells, x, m, t, by rw [e p (.inl rfl)]; exact s.hd, s.hn, s.hc, s.hx, s.hm, s.ht, by rw [e l (.inr rfl)]; exact s.hl, s.hb⟩
  dom := fun H a ⟨kvs, cells, x, m, t, s⟩ w => by
    rcases w with w | w
    · rw [w, s.hd]; exact nofun
    · rw [w, s.hl]; exact nofun
/-- the source has been drawn from, all else is as it was -/
def Drw (p l : Addr) (H H' : Hp) : Prop := ∀ a o, a ≠ p → a ≠ l → H a = some o → H' a = some o
theorem Drw.gro {p l : Addr} {O : Lk} {H H' : Hp} (d : Drw p l H H') (j : ((Fsrc p l).lock O).J H) (s : Src p l H') : Gro ((Fsrc p l).lock O) H H' :=
  ⟨fun a o w e => d a o (fun z => w (.inl (.inl z))) (fun z => w (.inl (.inr z))) e, s, fun a o e => ⟨(j.2 a o e).1, d a o (fun z => (j.2 a o e).1 (.inl z)) (fun z => (j.2 a o e).1 (.inr z)) (j.2 a o e).2⟩⟩
theorem putK_len {kvs : List (Key × V)} {k : Key} {v w : V} (h : valV kvs k = some w) : (putK kvs k v).length = kvs.length := by
  unfold putK
  rw [valV_any, h]
  simp
theorem SrcC.put {p l : Addr} {H : Hp} {kvs : List (Key × V)} {cells : List Int} {x m t : Int} (s : SrcC p l H kvs cells x m t) : p ≠ l := ne_of s.hd s.hl (by intro z; cases z)
theorem SrcC.gL {p l : Addr} {H : Hp} {kvs : List (Key × V)} {cells : List Int} {x m t : Int} (s : SrcC p l H kvs cells x m t) : DGet H p (.str "left") (some (.int x)) := by
  have e := DGet.k (k := kLeft) s.hd
  rw [s.hx] at e
  exact e
theorem SrcC.gC {p l : Addr} {H : Hp} {kvs : List (Key × V)} {cells : List Int} {x m t : Int} (s : SrcC p l H kvs cells x m t) : DGet H p (.str "cells") (some (.ref l)) := by
  have e := DGet.k (k := kCells) s.hd
  rw [s.hc] at e
  exact e
theorem SrcC.gM {p l : Addr} {H : Hp} {kvs : List (Key × V)} {cells : List Int} {x m t : Int} (s : SrcC p l H kvs cells x m t) : DGet H p (.str "mixed") (some (.int m)) := by
  have e := DGet.k (k := kMixed) s.hd
  rw [s.hm] at e
  exact e
theorem SrcC.gT {p l : Addr} {H : Hp} {kvs : List (Key × V)} {cells : List Int} {x m t : Int} (s : SrcC p l H kvs cells x m t) : DGet H p (.str "turn") (some (.int t)) := by
  have e := DGet.k (k := kTurn) s.hd
  rw [s.ht] at e
  exact e
theorem SrcC.pL {p l : Addr} {H : Hp} {kvs : List (Key × V)} {cells : List Int} {x m t : Int} (s : SrcC p l H kvs cells x m t) (y : Int) : SrcC p l (upd H p (.dK (putK kvs kLeft (.int y)))) (putK kvs kLeft (.int y)) cells y m t :=
  ⟨upd_same, by rw [putK_len s.hx]; exact s.hn, by rw [valV_put, if_neg k1]; exact s.hc, by rw [valV_put, if_pos rfl], by rw [valV_put, if_neg k2]; exact s.hm, by rw [valV_put, if_neg k3]; exact s.ht, by rw [upd_ne s.put.symm]; exact s.hl, s.hb⟩
theorem SrcC.pT {p l : Addr} {H : Hp} {kvs : List (Key × V)} {cells : List Int} {x m t : Int} (s : SrcC p l H kvs cells x m t) (y : Int) : SrcC p l (upd H p (.dK (putK kvs kTurn (.int y)))) (putK kvs kTurn (.int y)) cells x m y :=
  ⟨upd_same, by rw [putK_len s.ht]; exact s.hn, by rw [valV_put, if_neg k4]; exact s.hc, by rw [valV_put, if_neg k5]; exact s.hx, by rw [valV_put, if_neg k6]; exact s.hm, by rw [valV_put, if_pos rfl], by rw [upd_ne s.put.symm]; exact s.hl, s.hb⟩
theorem SrcC.pM {p l : Addr} {H : Hp} {kvs : List (Key × V)} {cells : List Int} {x m t : Int} (s : SrcC p l H kvs cells x m t) (y : Int) (hy : -(2 ^ 64) < y ∧ y < 2 ^ 64) : SrcC p l (upd H p (.dK (putK kvs kMixed (.int y)))) (putK kvs kMixed (.int y)) cells x y t :=
  ⟨upd_same, by rw [putK_len s.hm]; exact s.hn, by rw [valV_put, if_neg k7]; exact s.hc, by rw [valV_put, if_neg k8]; exact s.hx, by rw [valV_put, if_pos rfl], by rw [valV_put, if_neg k9]; exact s.ht, by rw [upd_ne s.put.symm]; exact s.hl, hy⟩
theorem SrcC.pop {p l : Addr} {H : Hp} {kvs : List (Key × V)} {cells : List Int} {x m t : Int} (s : SrcC p l H kvs cells x m t) : SrcC p l (upd H l (.lst (cells.map V.int).dropLast)) kvs cells.dropLast x m t :=
  ⟨by rw [upd_ne s.put]; exact s.hd, s.hn, s.hc, s.hx, s.hm, s.ht, by rw [upd_same, List.map_dropLast], s.hb⟩
theorem Drw.put {p l : Addr} {H H1 : Hp} {o : HO} (d : Drw p l H H1) : Drw p l H (upd H1 p o) := fun a u h1 h2 e => by rw [upd_ne h1]; exact d a u h1 h2 e
theorem Drw.putl {p l : Addr} {H H1 : Hp} {o : HO} (d : Drw p l H H1) : Drw p l H (upd H1 l o) := fun a u h1 h2 e => by rw [upd_ne h2]; exact d a u h1 h2 e
theorem len100 {kvs : List (Key × V)} (h : kvs.length ≤ 100) : kvs.length < sizeLine := Nat.lt_of_le_of_lt h (by decide)
theorem max_eq {many : Int} : (if many > 1 then many else 1) = max 1 many := by
  rw [Int.max_def]; split <;> split <;> omega
theorem while_at {c : TT} {tb : TS} {D : Ends} {σ : L2.St} {H : Hp} (W : Nat → Hp → Prop) (h0 : ∃ m, W m H) (after : ∀ H1, (∃ m, W m H1) → D.nx σ H1)
    (turn : (∀ H1, (∃ m, W m H1) → D.nx σ H1) → ∀ m H1, W m H1 → c σ H1 fun b H2 => if b = true then tb { D with nx := fun σ' H' => σ' = σ ∧ ∃ m', m' < m ∧ W m' H', ct := fun σ' H' => σ' = σ ∧ ∃ m', m' < m ∧ W m' H', bk := D.nx } σ H2 else D.nx σ H2)
    (mono : ∀ σ H Q Q', (∀ b H1, Q b H1 → Q' b H1) → c σ H Q → c σ H Q') : tWhile c tb D σ H := by
  refine ⟨fun m σ' H' => σ' = σ ∧ W m H', ?_, ?_⟩
  · obtain ⟨m, w⟩ := h0
    exact ⟨m, rfl, w⟩
  · rintro m σ' H1 ⟨rfl, w⟩
    refine mono _ _ _ _ (fun b H2 q => ?_) (turn after m H1 w)
    cases b with
    | true =>
      rw [if_pos rfl] at q
      rw [if_pos rfl]
      exact ⟨_, fun σ2 H2 ⟨e, m', hm, w2⟩ => ⟨m', hm, e, w2⟩, q⟩
    | false => exact q
def mPick (B : Fr) (es : List Ent) (R : PyData → Prop) : Prop := ∃ (p l : Addr) (many : Int), B = Fsrc p l ∧ es = [.raw (.ref p), .dat (.int many)] ∧ many.natAbs < 2 ^ 64 ∧ ∀ r : Int, 0 ≤ r → r < max 1 many → R (.int r)
section
variable {P : Program} {w : World} {K : PySem.W.Frag} {mg : Str → Option Value} {base : Heap}
end
/-! from K01b -/
section
variable {P : Program} {w : World} {K : PySem.W.Frag} {mg : Str → Option Value} {base : Heap}
def spSource (K : PySem.W.Frag) : Sp := fun vs H Q _ => ∃ (a : Addr) (ns : List Int), vs = [.ref a] ∧ SqL K H a (ns.map V.int) ∧ ns.length ≤ 63 ∧ ∀ p l H', Same H H' → H p = none → H l = none → Src p l H' → Q (.ref p) H'
theorem merge4 {v1 v2 v3 v4 : V} : mergeK [] [(kCells, v1), (kLeft, v2), (kMixed, v3), (kTurn, v4)] = [(kCells, v1), (kLeft, v2), (kMixed, v3), (kTurn, v4)] := by
  show putK (putK (putK (putK [] kCells v1) kLeft v2) kMixed v3) kTurn v4 = _
  have n0 : valV ([] : List (Key × V)) kCells = none := rfl
  have n1 : valV [(kCells, v1)] kLeft = none := by rw [valV_neg k1]; rfl
  have n2 : valV [(kCells, v1), (kLeft, v2)] kMixed = none := by rw [valV_neg k7, valV_neg k8]; rfl
  have n3 : valV [(kCells, v1), (kLeft, v2), (kMixed, v3)] kTurn = none := by rw [valV_neg k4, valV_neg k5, valV_neg k6]; rfl
  rw [putK_new _ n0]
  show putK (putK (putK [(kCells, v1)] kLeft v2) kMixed v3) kTurn v4 = _
  rw [putK_new _ n1]
  show putK (putK [(kCells, v1), (kLeft, v2)] kMixed v3) kTurn v4 = _
  rw [putK_new _ n2]
  show putK [(kCells, v1), (kLeft, v2), (kMixed, v3)] kTurn v4 = _
  rw [putK_new _ n3]
  rfl
end
/-! from K01c -/
theorem ex_b {b : Bool} {Q : Bool → Prop} (q : Q b) : ∃ c, PyData.bool b = .bool c ∧ Q c := ⟨b, rfl, q⟩
theorem ex_i {b : Int} {Q : Int → Prop} (q : Q b) : ∃ c, PyData.int b = .int c ∧ Q c := ⟨b, rfl, q⟩
theorem ex_t {b : List PyData} {Q : List PyData → Prop} (q : Q b) : ∃ c, PyData.tuple b = .tuple c ∧ Q c := ⟨b, rfl, q⟩
theorem ex_l {b : List PyData} {Q : List PyData → Prop} (q : Q b) : ∃ c, PyData.list b = .list c ∧ Q c := ⟨b, rfl, q⟩
theorem ex_2 {a b : PyData} {Q : PyData → PyData → Prop} (q : Q a b) : ∃ c d, [a, b] = [c, d] ∧ Q c d := ⟨a, b, rfl, q⟩
theorem len_and {ds : List PyData} {A : Prop} (h : ds.length ≤ 100000) (a : A) : ds.length ≤ 100000 ∧ A := ⟨h, a⟩
theorem own_and {es : List Ent} {A : Prop} (h : owned es = []) (a : A) : owned es = [] ∧ A := ⟨h, a⟩

/-! ### sizes -/
def Bit (n : Nat) (x : Int) : Prop := x.natAbs < 2 ^ n
theorem Bit.mono {n m : Nat} {x : Int} (h : Bit n x) (l : n ≤ m) : Bit m x := Nat.lt_of_lt_of_le h (Nat.pow_le_pow_right (by decide) l)
theorem Bit.mul {n m : Nat} {x y : Int} (h : Bit n x) (g : Bit m y) : Bit (n + m) (x * y) := wide_lt h g
theorem Bit.add {n : Nat} {x y : Int} (h : Bit n x) (g : Bit n y) : Bit (n + 1) (x + y) := by
  unfold Bit at *
  rw [Nat.pow_succ]
  omega
theorem Bit.sub {n : Nat} {x y : Int} (h : Bit n x) (g : Bit n y) : Bit (n + 1) (x - y) := by
  unfold Bit at *
  rw [Nat.pow_succ]
  omega
theorem Bit.neg {n : Nat} {x : Int} (h : Bit n x) : Bit n (-x) := by
  unfold Bit at *
  omega
theorem Bit.mulOk {n m : Nat} {x y : Int} (h : Bit n x) (g : Bit m y) (l : n + m ≤ 900000) : CMulA x y := by
  refine .inl (wide_mul (a := n + 1) (b := m + 1) (h.mono (Nat.le_succ n)) (g.mono (Nat.le_succ m)) (Nat.succ_pos _) (Nat.succ_pos _) (by omega))
theorem Bit.divOk {n : Nat} {x y : Int} (h : Bit n y) (h0 : y ≠ 0) (l : n ≤ 8999) : CDivG x y := ⟨h0, by
  have e : y.natAbs.log2 < n + 1 := PySem.Flt.log2_lt_of (Nat.succ_pos n) (h.mono (Nat.le_succ n))
  omega⟩
theorem Bit.log {n m : Nat} {x : Int} (h : Bit n x) (l : n < m) : x.natAbs.log2 < m := by
  have e : x.natAbs.log2 < n + 1 := PySem.Flt.log2_lt_of (Nat.succ_pos n) (h.mono (Nat.le_succ n))
  omega

/-! ### fractions -/
abbrev frD (x : Int × Int) : PyData := .tuple [.int x.1, .int x.2]
def gc (a b : Int) : Int := ((Nat.gcd a.natAbs b.natAbs : Nat) : Int)
def lst (a b : Int) : Int × Int := (a.fdiv (if 0 < b then gc a b else 0 - gc a b), b.fdiv (if 0 < b then gc a b else 0 - gc a b))
structure Fq (n : Nat) (x : Int × Int) : Prop where
  pos : 0 < x.2
  b1 : Bit n x.1
  b2 : Bit n x.2
theorem Fq.mono {n m : Nat} {x : Int × Int} (h : Fq n x) (l : n ≤ m) : Fq m x := ⟨h.pos, h.b1.mono l, h.b2.mono l⟩
theorem gc_pos {a b : Int} (h : b ≠ 0) : 0 < gc a b := by
  unfold gc
  have : 0 < Nat.gcd a.natAbs b.natAbs := Nat.gcd_pos_of_pos_right _ (by omega)
  omega
theorem gc_dvd1 (a b : Int) : gc a b ∣ a := by
  unfold gc
  exact Int.ofNat_dvd_left.mpr (Nat.gcd_dvd_left _ _)
theorem gc_dvd2 (a b : Int) : gc a b ∣ b := by
  unfold gc
  exact Int.ofNat_dvd_left.mpr (Nat.gcd_dvd_right _ _)
theorem gc_neg (a b : Int) : gc (-a) (-b) = gc a b := by
  unfold gc
  rw [Int.natAbs_neg, Int.natAbs_neg]
theorem gc_bit {n : Nat} {a b : Int} (h : b ≠ 0) (hb : Bit n b) : Bit n (gc a b) := by
  unfold Bit gc at *
  have := Nat.gcd_le_right a.natAbs (show 0 < b.natAbs by omega)
  omega
theorem fdiv_of {g c : Int} (h : g ≠ 0) : (g * c).fdiv g = c := Int.mul_fdiv_cancel_left c h
theorem fdiv_of' {g c : Int} (h : g ≠ 0) : (g * c).fdiv (0 - g) = -c := by
  have e : g * c = (0 - g) * (-c) := by
    rw [Int.zero_sub, Int.neg_mul_neg]
  rw [e]
  exact Int.mul_fdiv_cancel_left _ (by omega)
/-- what both ways make -/
theorem lst_neg {p q : Int} (h : q < 0) : ((-p).fdiv (gc (-p) (-q)), (-q).fdiv (gc (-p) (-q))) = lst p q := by
  have g0 : gc p q ≠ 0 := by have := gc_pos (a := p) (b := q) (by omega); omega
  obtain ⟨c, hc⟩ := gc_dvd1 p q
  obtain ⟨d, hd⟩ := gc_dvd2 p q
  unfold lst
  rw [gc_neg, if_neg (show ¬ (0 < q) by omega)]
  generalize gc p q = g at *
  subst hc
  subst hd
  rw [fdiv_of' g0, fdiv_of' g0, ← Int.mul_neg, ← Int.mul_neg, fdiv_of g0, fdiv_of g0]
theorem lst_pos {p q : Int} (h : 0 < q) : lst p q = (p.fdiv (gc p q), q.fdiv (gc p q)) := by
  unfold lst
  rw [if_pos h]
theorem pos_right {g d : Int} (hg : 0 < g) (h : 0 < g * d) : 0 < d := by
  by_cases hd : 0 < d
  · exact hd
  · have e := Int.mul_le_mul_of_nonneg_left (show d ≤ 0 by omega) (show 0 ≤ g by omega)
    rw [Int.mul_zero] at e
    omega
theorem lst_fq {n : Nat} {p q : Int} (h0 : q ≠ 0) (h1 : Bit n p) (h2 : Bit n q) : Fq n (lst p q) := by
  have g0 := gc_pos (a := p) (b := q) h0
  obtain ⟨c, hc⟩ := gc_dvd1 p q
  obtain ⟨d, hd⟩ := gc_dvd2 p q
  have key : ∀ g c n : Int, 0 < g → n = g * c → c.natAbs ≤ n.natAbs := by
    intro g c n hg e
    rw [e, Int.natAbs_mul]
    exact Nat.le_mul_of_pos_left _ (by omega)
  have b1 := key _ _ _ g0 hc
  have b2 := key _ _ _ g0 hd
  have dpos : 0 < q → 0 < d := fun h => by
    rw [hd] at h
    exact pos_right g0 h
  have dneg : q < 0 → d < 0 := fun h => by
    have : 0 < gc p q * (-d) := by rw [Int.mul_neg, ← hd]; omega
    have := pos_right g0 this
    omega
  unfold lst
  by_cases hq : 0 < q
  · rw [if_pos hq]
    have e1 : p.fdiv (gc p q) = c := by
      conv => lhs; lhs; rw [hc]
      exact fdiv_of (by omega)
    have e2 : q.fdiv (gc p q) = d := by
      conv => lhs; lhs; rw [hd]
      exact fdiv_of (by omega)
    rw [e1, e2]
    exact ⟨dpos hq, Nat.lt_of_le_of_lt b1 h1, Nat.lt_of_le_of_lt b2 h2⟩
  · rw [if_neg hq]
    have e1 : p.fdiv (0 - gc p q) = -c := by
      conv => lhs; lhs; rw [hc]
      exact fdiv_of' (by omega)
    have e2 : q.fdiv (0 - gc p q) = -d := by
      conv => lhs; lhs; rw [hd]
      exact fdiv_of' (by omega)
    rw [e1, e2]
    have := dneg (by omega)
    refine ⟨by show 0 < -d; omega, ?_, ?_⟩
    · unfold Bit at *; show (-c).natAbs < _; omega
    · unfold Bit at *; show (-d).natAbs < _; omega
/-! ### one step of a reading -/
section
variable {P : Program} {w : World} {K : PySem.W.Frag} {mg : Str → Option Value} {base : Heap}
def mFr (_ : Fr) (es : List Ent) (R : PyData → Prop) : Prop := ∃ p q : Int, es = [.dat (.int p), .dat (.int q)] ∧ q ≠ 0 ∧ Bit 8999 q ∧ R (frD (lst p q))
end
/-! from K01d -/
section
variable {P : Program} {w : World} {K : PySem.W.Frag} {mg : Str → Option Value} {base : Heap}
def pl (x y : Int × Int) : Int × Int := lst (x.1 * y.2 + y.1 * x.2) (x.2 * y.2)
def mi (x y : Int × Int) : Int × Int := lst (x.1 * y.2 - y.1 * x.2) (x.2 * y.2)
def tm (x y : Int × Int) : Int × Int := lst (x.1 * y.1) (x.2 * y.2)
def ov (x y : Int × Int) : PyData := if y.1 = 0 then .none else frD (lst (x.1 * y.2) (x.2 * y.1))
def lessF (x y : Int × Int) : Bool := decide (x.1 * y.2 < y.1 * x.2)
def mBin (f : Int × Int → Int × Int → Int × Int) (_ : Fr) (es : List Ent) (R : PyData → Prop) : Prop := ∃ x y : Int × Int, es = [.dat (frD x), .dat (frD y)] ∧ Fq 4000 x ∧ Fq 4000 y ∧ R (frD (f x y))
def mOver (_ : Fr) (es : List Ent) (R : PyData → Prop) : Prop := ∃ x y : Int × Int, es = [.dat (frD x), .dat (frD y)] ∧ Fq 4000 x ∧ Fq 4000 y ∧ R (ov x y)
def mLess (_ : Fr) (es : List Ent) (R : PyData → Prop) : Prop := ∃ x y : Int × Int, es = [.dat (frD x), .dat (frD y)] ∧ Fq 4000 x ∧ Fq 4000 y ∧ R (.bool (lessF x y))
def mFloor (_ : Fr) (es : List Ent) (R : PyData → Prop) : Prop := ∃ x : Int × Int, es = [.dat (frD x)] ∧ Fq 4000 x ∧ R (.int (x.1.fdiv x.2))
def mCeil (_ : Fr) (es : List Ent) (R : PyData → Prop) : Prop := ∃ x : Int × Int, es = [.dat (frD x)] ∧ Fq 4000 x ∧ R (.int (-((-x.1).fdiv x.2)))
theorem fr_at {p q : Int} {R : PyData → Prop} {B : Fr} (h0 : q ≠ 0) (h9 : Bit 8999 q) (r : R (frD (lst p q))) : mFr B [.dat (.int p), .dat (.int q)] R := ⟨p, q, rfl, h0, h9, r⟩
theorem mul_ne {a b : Int} (h : 0 < a) (g : b ≠ 0) : a * b ≠ 0 := Int.mul_ne_zero (by omega) g
end
/-! from K01e -/
section
variable {P : Program} {w : World} {K : PySem.W.Frag} {mg : Str → Option Value} {base : Heap}
/-! ### lists of fractions -/
def sq (b : Bool) (xs : List (Int × Int)) : PyData := if b = true then .tuple (xs.map frD) else .list (xs.map frD)
def totF (xs : List (Int × Int)) : Int × Int := xs.foldl pl (0, 1)
def lowF (a : Int × Int) (b : Int × Int) : Int × Int := if lessF b a = true then b else a
def higF (a : Int × Int) (b : Int × Int) : Int × Int := if lessF a b = true then b else a
theorem lowF_t {a b : Int × Int} (h : lessF b a = true) : lowF a b = b := if_pos h
theorem lowF_f {a b : Int × Int} (h : ¬ lessF b a = true) : lowF a b = a := if_neg h
theorem higF_t {a b : Int × Int} (h : lessF a b = true) : higF a b = b := if_pos h
theorem higF_f {a b : Int × Int} (h : ¬ lessF a b = true) : higF a b = a := if_neg h
def extF (h : Bool) (xs : List (Int × Int)) : Int × Int := xs.foldl (if h = true then higF else lowF) (xs.headD (0, 1))
def mTotal (_ : Fr) (es : List Ent) (R : PyData → Prop) : Prop := ∃ b xs, es = [.dat (sq b xs)] ∧ (∀ x, x ∈ xs → Fq 160 x) ∧ xs.length ≤ 24 ∧ R (frD (totF xs))
def mExt (h : Bool) (_ : Fr) (es : List Ent) (R : PyData → Prop) : Prop := ∃ b xs, es = [.dat (sq b xs)] ∧ (∀ x, x ∈ xs → Fq 160 x) ∧ xs.length ≤ 24 ∧ xs ≠ [] ∧ R (frD (extF h xs))
theorem pl_fq {n m : Nat} {x y : Int × Int} (hx : Fq n x) (hy : Fq m y) : Fq (n + m + 1) (pl x y) := by
  refine lst_fq (mul_ne hx.pos (by have := hy.pos; omega)) (Bit.add (hx.b1.mul hy.b2) ?_) ((hx.b2.mul hy.b2).mono (Nat.le_succ _))
  have := hy.b1.mul hx.b2
  rw [Nat.add_comm] at this
  exact this
theorem tot_fq : ∀ (xs : List (Int × Int)) (a : Int × Int) (n : Nat), Fq n a → (∀ x, x ∈ xs → Fq 160 x) → Fq (n + 161 * xs.length) (xs.foldl pl a)
  | [], a, n, ha, _ => ha
  | x :: xs, a, n, ha, h => by
    have e := tot_fq xs (pl a x) (n + 160 + 1) (pl_fq ha (h x List.mem_cons_self)) fun y hy => h y (List.mem_cons_of_mem _ hy)
    refine e.mono ?_
    rw [List.length_cons]
    omega
theorem fq01 : Fq 1 ((0, 1) : Int × Int) := ⟨by decide, by unfold Bit; decide, by unfold Bit; decide⟩
theorem take_map {xs : List (Int × Int)} {i : Nat} {d : PyData} (e : (xs.map frD)[i]? = some d) : ∃ x, xs[i]? = some x ∧ d = frD x ∧ xs.take (i + 1) = xs.take i ++ [x] ∧ x ∈ xs := by
  rw [List.getElem?_map] at e
  cases q : xs[i]? with
  | none => rw [q] at e; cases e
  | some x =>
    rw [q] at e
    cases e
    exact ⟨x, rfl, rfl, by rw [List.take_add_one, q]; rfl, List.mem_of_getElem? q⟩
end
/-! from K01f -/
theorem pick_atE {p l : Addr} {many : Int} {R : PyData → Prop} (h : many.natAbs < 2 ^ 64 ∧ ∀ r : Int, 0 ≤ r → r < max 1 many → R (.int r)) : mPick (Fsrc p l) [.raw (.ref p), .dat (.int many)] R := ⟨p, l, many, rfl, rfl, h.1, h.2⟩
theorem pick_at {p l : Addr} {many : Int} {R : PyData → Prop} (hm : many.natAbs < 2 ^ 64) (h : ∀ r : Int, 0 ≤ r → r < max 1 many → R (.int r)) : mPick (Fsrc p l) [.raw (.ref p), .dat (.int many)] R := ⟨p, l, many, rfl, rfl, hm, h⟩
def mGreat (B : Fr) (es : List Ent) (R : PyData → Prop) : Prop := ∃ (p l : Addr) (k : Nat), B = Fsrc p l ∧ es = [.raw (.ref p), .dat (.int k)] ∧ 1 ≤ k ∧ k ≤ 1000 ∧ ∀ n : Int, 0 ≤ n → Bit (4 * k) n → R (.int n)
theorem great_atE {p l : Addr} {z : Int} {R : PyData → Prop} (h : ∃ k : Nat, z = (k : Int) ∧ 1 ≤ k ∧ k ≤ 1000 ∧ ∀ n : Int, 0 ≤ n → Bit (4 * k) n → R (.int n)) : mGreat (Fsrc p l) [.raw (.ref p), .dat (.int z)] R := by
  obtain ⟨k, e, h1, h2, h⟩ := h
  subst e
  exact ⟨p, l, k, rfl, rfl, h1, h2, h⟩
theorem great_at {p l : Addr} {k : Nat} {z : Int} {R : PyData → Prop} (e : z = (k : Int)) (h1 : 1 ≤ k) (h2 : k ≤ 1000) (h : ∀ n : Int, 0 ≤ n → Bit (4 * k) n → R (.int n)) : mGreat (Fsrc p l) [.raw (.ref p), .dat (.int z)] R := ⟨p, l, k, rfl, by rw [e], h1, h2, h⟩
section
variable {P : Program} {w : World} {K : PySem.W.Frag} {mg : Str → Option Value} {base : Heap}
theorem atD {xs : List PyData} {z : Int} {j : Nat} {v : PyData} (e : z = (j : Int)) (h : xs[j]? = some v) : atI xs z = some v := by
  subst e
  exact atI_nat h
theorem abs_eq (a : Int) : (if a < 0 then -a else a) = ((a.natAbs : Nat) : Int) := by split <;> omega
def mLeast (_ : Fr) (es : List Ent) (R : PyData → Prop) : Prop := ∃ p q : Int, es = [.dat (.int p), .dat (.int q)] ∧ q ≠ 0 ∧ Bit 8999 q ∧ R (frD (lst p q))
theorem least_at {p q : Int} {R : PyData → Prop} {B : Fr} (h0 : q ≠ 0) (h9 : Bit 8999 q) (r : R (frD (lst p q))) : mLeast B [.dat (.int p), .dat (.int q)] R := ⟨p, q, rfl, h0, h9, r⟩
theorem Bit.divOk' {n : Nat} {x y z : Int} (h : Bit n y) (h0 : z ≠ 0) (e : z = y) (l : n ≤ 8999) : CDivG x z := by
  subst e
  exact h.divOk h0 l
def mOf (B : Fr) (es : List Ent) (R : PyData → Prop) : Prop := ∃ (p l : Addr) (ds : List PyData), B = Fsrc p l ∧ es = [.raw (.ref p), .dat (.list ds)] ∧ ds ≠ [] ∧ ds.length ≤ 10000 ∧ ∀ d, d ∈ ds → R d
theorem of_atE {p l : Addr} {ds : List PyData} {R : PyData → Prop} (h : ds ≠ [] ∧ ds.length ≤ 10000 ∧ ∀ d, d ∈ ds → R d) : mOf (Fsrc p l) [.raw (.ref p), .dat (.list ds)] R := ⟨p, l, ds, rfl, rfl, h.1, h.2.1, h.2.2⟩
theorem of_at {p l : Addr} {ds : List PyData} {R : PyData → Prop} (h0 : ds ≠ []) (h1 : ds.length ≤ 10000) (h : ∀ d, d ∈ ds → R d) : mOf (Fsrc p l) [.raw (.ref p), .dat (.list ds)] R := ⟨p, l, ds, rfl, rfl, h0, h1, h⟩
def mDrawn (B : Fr) (es : List Ent) (R : PyData → Prop) : Prop := ∃ (p l : Addr), B = Fsrc p l ∧ es = [.raw (.ref p)] ∧ ∀ x : Int × Int, Fq 160 x → R (frD x)
theorem drawn_at {p l : Addr} {R : PyData → Prop} (h : ∀ x : Int × Int, Fq 160 x → R (frD x)) : mDrawn (Fsrc p l) [.raw (.ref p)] R := ⟨p, l, rfl, rfl, h⟩
theorem sgn_bit {k : Nat} {r n : Int} (h0 : 0 ≤ r) (h1 : r < max 1 2) (h : Bit k n) : Bit k ((1 - 2 * r) * n) := by
  have : r = 0 ∨ r = 1 := by omega
  rcases this with e | e
  · subst e; rw [show (1 - 2 * 0 : Int) = 1 by decide, Int.one_mul]; exact h
  · subst e; rw [show (1 - 2 * 1 : Int) = -1 by decide, Int.neg_one_mul]; exact h.neg
theorem one_bit {k : Nat} {n : Int} (h0 : 0 ≤ n) (h : Bit k n) : Bit (k + 1) (1 + n) := by
  unfold Bit at *
  have := Nat.one_le_two_pow (n := k)
  rw [Nat.pow_succ]
  omega
theorem small_bit {n : Nat} {x : Int} (h : x.natAbs < 2 ^ 8) (l : 8 ≤ n) : Bit n x := Bit.mono (n := 8) h l
end
/-! from K01g -/
section
variable {P : Program} {w : World} {K : PySem.W.Frag} {mg : Str → Option Value} {base : Heap}
def mMixed (B : Fr) (es : List Ent) (R : PyData → Prop) : Prop := ∃ (p l : Addr) (ds : List PyData), B = Fsrc p l ∧ es = [.raw (.ref p), .dat (.list ds)] ∧ ds.length ≤ 10000 ∧ ∀ es' : List PyData, es'.Perm ds → R (.list es')
theorem mixed_at {p l : Addr} {ds : List PyData} {R : PyData → Prop} (h1 : ds.length ≤ 10000) (h : ∀ es' : List PyData, es'.Perm ds → R (.list es')) : mMixed (Fsrc p l) [.raw (.ref p), .dat (.list ds)] R := ⟨p, l, ds, rfl, rfl, h1, h⟩
theorem perm_step {da dv : List PyData} {k : Nat} {d : PyData} (h : dv[k]? = some d) : ((da ++ [d]) ++ dv.eraseIdx k).Perm (da ++ dv) := by
  obtain ⟨hk, e⟩ := List.getElem?_eq_some_iff.mp h
  have q : (dv[k] :: dv.eraseIdx k).Perm dv := by
    rw [List.eraseIdx_eq_take_drop_succ]
    have := List.take_append_drop k dv
    conv => rhs; rw [← this, List.drop_eq_getElem_cons hk]
    exact List.perm_middle.symm
  rw [e] at q
  rw [List.append_assoc]
  exact List.Perm.append_left da q
end
/-! from K01i -/
/-! ### what repr asks, told by bounds -/
structure Sh (k m : Nat) (d : PyData) : Prop where
  shw : Shw d
  dep : d.depth ≤ k
  len : d.shown.length ≤ m
theorem Sh.mono {k m k' m' : Nat} {d : PyData} (h : Sh k m d) (a : k ≤ k') (b : m ≤ m') : Sh k' m' d := ⟨h.shw, Nat.le_trans h.dep a, Nat.le_trans h.len b⟩
theorem shownAll_eq : ∀ xs : List PyData, PyData.shownAll xs = xs.map PyData.shown
  | [] => by rw [PyData.shownAll]; rfl
  | x :: xs => by rw [PyData.shownAll, shownAll_eq xs]; rfl
theorem depthAll_le {k : Nat} : ∀ xs : List PyData, (∀ x, x ∈ xs → x.depth ≤ k) → PyData.depthAll xs ≤ k
  | [], _ => by rw [PyData.depthAll]; exact Nat.zero_le _
  | x :: xs, h => by
    rw [PyData.depthAll]
    exact Nat.max_le.mpr ⟨h x List.mem_cons_self, depthAll_le xs fun y hy => h y (List.mem_cons_of_mem _ hy)⟩
theorem piled_le {m : Nat} : ∀ ts : List Str, (∀ t, t ∈ ts → t.length ≤ m) → piled ts ≤ ts.length * (m + 2)
  | [], _ => Nat.zero_le _
  | t :: ts, h => by
    rw [piled_cons, List.length_cons, Nat.succ_mul]
    have h1 := h t List.mem_cons_self
    have h2 := piled_le ts fun y hy => h y (List.mem_cons_of_mem _ hy)
    omega
theorem listText_le (ts : List Str) : (listText ts).length ≤ piled ts + 2 := by
  have hX : (listText ts).length = (textFrom 0 "[" ts).length + 1 := by
    show (textFrom 0 "[" ts ++ "]").length = _
    rw [strLen_append]; rfl
  cases ts with
  | nil => rw [hX]; exact Nat.le_refl _
  | cons t r =>
    have h := textFrom_length_pos r 1 (("[" : Str) ++ (if (0 : Nat) > 0 then ", " else "" : String) ++ t) (Nat.succ_pos 0)
    have e : ((("[" : Str) ++ (if (0 : Nat) > 0 then ", " else "" : String) ++ t)).length = 1 + t.length := by
      rw [strLen_append, strLen_append]; rfl
    rw [hX, show textFrom 0 "[" (t :: r) = textFrom 1 (("[" : Str) ++ (if (0 : Nat) > 0 then ", " else "" : String) ++ t) r from rfl, h, e, piled_cons]
    omega
theorem join_le : ∀ ts : List Str, (Str.join ", " ts).length ≤ piled ts
  | [] => Nat.zero_le _
  | [x] => by
    rw [piled_cons]
    show x.length ≤ _
    omega
  | x :: y :: r => by
    have h := join_le (y :: r)
    show (x ++ ", " ++ Str.join ", " (y :: r)).length ≤ _
    rw [strLen_append, strLen_append, piled_cons]
    have e : (Str.ofString ", ").length = 2 := by decide
    rw [e]
    omega
theorem tupleText_le (ts : List Str) : (tupleText ts).length ≤ piled ts + 3 := by
  have h := join_le ts
  unfold tupleText
  rw [strLen_append, strLen_append]
  have e : (Str.ofString "(").length = 1 := by decide
  have e2 : ∀ b : Bool, (Str.ofString (if b = true then ",)" else ")")).length ≤ 2 := by decide
  rw [e]
  have e3 := e2 (decide (ts.length = 1))
  first
    | (split <;> simp_all <;> omega)
    | omega
theorem Sh.int {i : Int} (h : Bit 12000 i) : Sh 1 13000 (.int i) := by
  refine ⟨?_, ?_, ?_⟩
  · unfold Shw
    exact h.log (by decide)
  · rw [PyData.depth]
    decide
  · rw [PyData.shown]
    have e := int_text_length_le (a := i) (k := 12900) (by decide) (h.log (by decide))
    show (Str.ofString (toString i)).length ≤ _
    rw [PySem.ofString_length]
    omega
theorem Sh.none : Sh 1 13000 .none := ⟨by unfold Shw; trivial, by rw [PyData.depth]; decide, by rw [PyData.shown]; decide⟩
theorem Sh.bool (b : Bool) : Sh 1 13000 (.bool b) := ⟨by unfold Shw; trivial, by rw [PyData.depth]; decide, by rw [PyData.shown]; cases b <;> decide⟩
theorem Sh.list {k m : Nat} {xs : List PyData} (h : ∀ x, x ∈ xs → Sh k m x) : Sh (k + 1) (xs.length * (m + 2) + 2) (.list xs) := by
  refine ⟨?_, ?_, ?_⟩
  · unfold Shw
    exact fun x hx => (h x hx).shw
  · rw [PyData.depth]
    have := depthAll_le xs fun x hx => (h x hx).dep
    omega
  · rw [PyData.shown, shownAll_eq]
    refine Nat.le_trans (listText_le _) ?_
    have := piled_le (m := m) (xs.map PyData.shown) fun t ht => by
      obtain ⟨x, hx, rfl⟩ := List.mem_map.mp ht
      exact (h x hx).len
    rw [List.length_map] at this
    omega
theorem Sh.tuple {k m : Nat} {xs : List PyData} (h : ∀ x, x ∈ xs → Sh k m x) : Sh (k + 1) (xs.length * (m + 2) + 3) (.tuple xs) := by
  refine ⟨?_, ?_, ?_⟩
  · unfold Shw
    exact fun x hx => (h x hx).shw
  · rw [PyData.depth]
    have := depthAll_le xs fun x hx => (h x hx).dep
    omega
  · rw [PyData.shown, shownAll_eq]
    refine Nat.le_trans (tupleText_le _) ?_
    have := piled_le (m := m) (xs.map PyData.shown) fun t ht => by
      obtain ⟨x, hx, rfl⟩ := List.mem_map.mp ht
      exact (h x hx).len
    rw [List.length_map] at this
    omega
theorem Sh.fr {x : Int × Int} (h1 : Bit 12000 x.1) (h2 : Bit 12000 x.2) : Sh 2 27000 (frD x) := by
  refine (Sh.tuple (k := 1) (m := 13000) fun y hy => ?_).mono (by decide) (by show 2 * (13000 + 2) + 3 ≤ 27000; decide)
  rcases List.mem_cons.mp hy with e | hy
  · subst e; exact .int h1
  · rcases List.mem_cons.mp hy with e | hy
    · subst e; exact .int h2
    · cases hy
theorem Fq.sh {n : Nat} {x : Int × Int} (h : Fq n x) (l : n ≤ 12000) : Sh 2 27000 (frD x) := .fr (h.b1.mono l) (h.b2.mono l)
/-- repr of a list of such -/
theorem rp_atE {K : PySem.W.Frag} {Q : PyData → Prop} {xs : List PyData} (h : (∀ x, x ∈ xs → Sh 2 27000 x) ∧ xs.length ≤ 500 ∧ Q (.str (PyData.shown (.list xs)))) : CD (rReprB K) [.list xs] Q := by
  have e := Sh.list h.1
  have e2 : xs.length * (27000 + 2) + 2 ≤ sizeLine := Nat.le_trans (Nat.add_le_add_right (Nat.mul_le_mul_right _ h.2.1) 2) (by decide)
  exact cd_repr ⟨_, rfl, ⟨xs, .inl rfl⟩, e.shw, Nat.le_trans e.dep (by decide), Nat.le_trans e.len e2, h.2.2⟩
theorem rp_at {K : PySem.W.Frag} {Q : PyData → Prop} {xs : List PyData} (h : ∀ x, x ∈ xs → Sh 2 27000 x) (hl : xs.length ≤ 500) (q : Q (.str (PyData.shown (.list xs)))) : CD (rReprB K) [.list xs] Q := by
  have e := Sh.list h
  have e2 : xs.length * (27000 + 2) + 2 ≤ sizeLine := Nat.le_trans (Nat.add_le_add_right (Nat.mul_le_mul_right _ hl) 2) (by decide)
  exact cd_repr ⟨_, rfl, ⟨xs, .inl rfl⟩, e.shw, Nat.le_trans e.dep (by decide), Nat.le_trans e.len e2, q⟩
/-! from K01j -/
theorem bin_at {f : Int × Int → Int × Int → Int × Int} {a b c d : Int} {B : Fr} {R : PyData → Prop} (hx : Fq 4000 (a, b)) (hy : Fq 4000 (c, d)) (r : R (frD (f (a, b) (c, d)))) : mBin f B [.dat (.tuple [.int a, .int b]), .dat (.tuple [.int c, .int d])] R := ⟨(a, b), (c, d), rfl, hx, hy, r⟩
theorem over_at {a b c d : Int} {B : Fr} {R : PyData → Prop} (hx : Fq 4000 (a, b)) (hy : Fq 4000 (c, d)) (r : R (ov (a, b) (c, d))) : mOver B [.dat (.tuple [.int a, .int b]), .dat (.tuple [.int c, .int d])] R := ⟨(a, b), (c, d), rfl, hx, hy, r⟩
theorem less_at {a b c d : Int} {B : Fr} {R : PyData → Prop} (hx : Fq 4000 (a, b)) (hy : Fq 4000 (c, d)) (r : R (.bool (lessF (a, b) (c, d)))) : mLess B [.dat (.tuple [.int a, .int b]), .dat (.tuple [.int c, .int d])] R := ⟨(a, b), (c, d), rfl, hx, hy, r⟩
theorem floor_at {a b : Int} {B : Fr} {R : PyData → Prop} (hx : Fq 4000 (a, b)) (r : R (.int (a.fdiv b))) : mFloor B [.dat (.tuple [.int a, .int b])] R := ⟨(a, b), rfl, hx, r⟩
theorem ceil_at {a b : Int} {B : Fr} {R : PyData → Prop} (hx : Fq 4000 (a, b)) (r : R (.int (-((-a).fdiv b)))) : mCeil B [.dat (.tuple [.int a, .int b])] R := ⟨(a, b), rfl, hx, r⟩
section
variable {P : Program} {w : World} {K : PySem.W.Frag} {mg : Str → Option Value} {base : Heap}
def mPair (_ : Fr) (es : List Ent) (R : PyData → Prop) : Prop := ∃ (v : V) (x y : Int × Int), es = [.raw v, .dat (frD x), .dat (frD y)] ∧ Fq 160 x ∧ Fq 160 y ∧ R (.bool true)
theorem ew_ifv {B : Fr} {env : List Ent} {tt : TT} {ta tb : TE} {Q : PyData → Prop} (d : PyData) (h : TW B env tt fun b => if b = true then EW B env ta (fun z => z = d) else EW B env tb (fun z => z = d)) (q : Q d) : EW B env (tIf tt ta tb) Q := by
  refine ew_if (h.mono fun b hb => ?_)
  cases b with
  | true => exact hb.mono fun z hz => by rw [hz]; exact q
  | false => exact hb.mono fun z hz => by rw [hz]; exact q
theorem neF {α : Type} [DecidableEq α] {A B : α} {p q : Prop} (h : A = B) (r : q) : if (!decide (A = B)) = true then p else q := by
  rw [decide_eq_true h]
  exact iteF r
theorem fdiv_bit {n : Nat} {a b : Int} (h : 0 < b) (ha : Bit n a) : Bit n (a.fdiv b) := by
  have h1 := Int.mul_fdiv_add_fmod a b
  have h2 := Int.fmod_nonneg_of_pos a h
  have h3 := Int.fmod_lt_of_pos a h
  unfold Bit at *
  generalize a.fdiv b = q at *
  generalize a.fmod b = r at *
  by_cases hq : 0 ≤ q
  · have := Int.mul_le_mul_of_nonneg_right (show 1 ≤ b by omega) hq
    omega
  · have h4 := Int.mul_le_mul_of_nonneg_right (show 1 ≤ b by omega) (show 0 ≤ -q - 1 by omega)
    have h5 : b * (-q - 1) = - (b * q) - b := by
      rw [Int.mul_sub, Int.mul_neg, Int.mul_one]
    omega
theorem sh3 {k m : Nat} {a b c : PyData} (ha : Sh k m a) (hb : Sh k m b) (hc : Sh k m c) : ∀ z, z ∈ [a, b, c] → Sh k m z := by
  intro z hz
  rcases List.mem_cons.mp hz with e | hz
  · rw [e]; exact ha
  rcases List.mem_cons.mp hz with e | hz
  · rw [e]; exact hb
  rcases List.mem_cons.mp hz with e | hz
  · rw [e]; exact hc
  · cases hz
theorem isTup : kitB "tuple" "tuple" = some true := by decide +kernel
theorem mi_eq (x y : Int × Int) : mi x y = pl x (0 - y.1, y.2) := by
  unfold mi pl
  show lst (x.1 * y.2 - y.1 * x.2) (x.2 * y.2) = lst (x.1 * y.2 + (0 - y.1) * x.2) (x.2 * y.2)
  rw [Int.zero_sub, Int.neg_mul, ← Int.sub_eq_add_neg]
end
/-! from K01k -/
section
variable {P : Program} {w : World} {K : PySem.W.Frag} {mg : Str → Option Value} {base : Heap}
theorem lst_is {p q g c d : Int} (h : 0 < q) (hg : gc p q = g) (h1 : p = g * c) (h2 : q = g * d) : lst p q = (c, d) := by
  have g0 : g ≠ 0 := by
    have := gc_pos (a := p) (b := q) (by omega)
    omega
  rw [lst_pos h, hg]
  have e1 : p.fdiv g = c := by rw [h1]; exact fdiv_of g0
  have e2 : q.fdiv g = d := by rw [h2]; exact fdiv_of g0
  rw [e1, e2]
theorem lst_flip {p q : Int} (h : q < 0) : lst p q = lst (-p) (-q) := by
  rw [← lst_neg h, lst_pos (show 0 < -q by omega)]
theorem lst_scale {p q b : Int} (h : 0 < q) (hb : 0 < b) : lst (p * b) (q * b) = lst p q := by
  obtain ⟨c, hc⟩ := gc_dvd1 p q
  obtain ⟨d, hd⟩ := gc_dvd2 p q
  have e : gc (p * b) (q * b) = gc p q * b := by
    unfold gc
    rw [Int.natAbs_mul, Int.natAbs_mul, Nat.gcd_mul_right]
    have e : ((b.natAbs : Nat) : Int) = b := by omega
    rw [Int.natCast_mul, e]
  rw [lst_is h rfl hc hd]
  refine lst_is (Int.mul_pos h hb) e ?_ ?_
  · rw [Int.mul_right_comm, ← hc]
  · rw [Int.mul_right_comm, ← hd]
theorem lst_m1 {p q b : Int} (h : 0 < q) (hb : 0 < b) : lst (0 - p * b) (0 - q * b) = lst p q := by
  have := Int.mul_pos h hb
  rw [lst_flip (by omega), Int.zero_sub, Int.zero_sub, Int.neg_neg, Int.neg_neg, lst_scale h hb]
theorem lst_m2 {p q b : Int} (h : 0 < q) (hb : 0 < b) : lst (p * b) (0 - q * b) = lst (0 - p) q := by
  have := Int.mul_pos h hb
  rw [lst_flip (by omega), Int.zero_sub, Int.neg_neg, ← Int.neg_mul, lst_scale h hb, Int.zero_sub]
theorem lst_m3 {q : Int} (h : 0 < q) : lst 0 (0 - q) = (0, 1) := by
  rw [lst_flip (by omega), Int.zero_sub, Int.neg_neg]
  refine lst_is h (g := q) ?_ ?_ ?_
  · unfold gc
    simp
    omega
  · simp
  · rw [Int.mul_one]
theorem lst_m4 {m : Int} (h : 0 < m) : lst m m = (1, 1) := by
  refine lst_is h (g := m) ?_ ?_ ?_
  · unfold gc
    simp
    omega
  · rw [Int.mul_one]
  · rw [Int.mul_one]
def mSrc (B : Fr) (es : List Ent) (R : PyData → Prop) : Prop := ∃ (p l : Addr), B = Fsrc p l ∧ es = [.raw (.ref p)] ∧ R (.bool true)
theorem src_at {p l : Addr} {R : PyData → Prop} (h : R (.bool true)) : mSrc (Fsrc p l) [.raw (.ref p)] R := ⟨p, l, rfl, rfl, h⟩
def frOf (d : PyData) : PyData := match d with
  | .tuple [.int a, .int b] => frD (lst a b)
  | d => d
end
/-! from K01l -/
section
variable {P : Program} {w : World} {K : PySem.W.Frag} {mg : Str → Option Value} {base : Heap}
def IsF (d : PyData) : Prop := ∃ x : Int × Int, Fq 160 x ∧ d = frD x
theorem isF_list : ∀ (ds : List PyData), (∀ d, d ∈ ds → IsF d) → ∃ xs : List (Int × Int), ds = xs.map frD ∧ ∀ x, x ∈ xs → Fq 160 x
  | [], _ => ⟨[], rfl, fun _ h => by cases h⟩
  | d :: ds, h => by
    obtain ⟨xs, e, hx⟩ := isF_list ds fun y hy => h y (List.mem_cons_of_mem _ hy)
    obtain ⟨x, fx, e2⟩ := h d List.mem_cons_self
    refine ⟨x :: xs, by rw [e, e2]; rfl, fun y hy => ?_⟩
    rcases List.mem_cons.mp hy with q | q
    · exact q ▸ fx
    · exact hx y q
def optF (h : Bool) (xs : List (Int × Int)) : PyData := match xs with
  | [] => .none
  | y :: ys => frD (extF h (y :: ys))
theorem low_self (y : Int × Int) : lowF y y = y := by
  unfold lowF
  split <;> rfl
theorem hig_self (y : Int × Int) : higF y y = y := by
  unfold higF
  split <;> rfl
theorem ext_fq (h : Bool) (xs : List (Int × Int)) (hne : xs ≠ []) (hx : ∀ x, x ∈ xs → Fq 160 x) : Fq 160 (extF h xs) := by
  have gen : ∀ (l : List (Int × Int)) (a : Int × Int), Fq 160 a → (∀ x, x ∈ l → Fq 160 x) → Fq 160 (l.foldl (if h = true then higF else lowF) a) := by
    intro l
    induction l with
    | nil => intro a ha _; exact ha
    | cons c l ih =>
      intro a ha hl
      refine ih _ ?_ fun x hx => hl x (List.mem_cons_of_mem _ hx)
      cases h with
      | true =>
        show Fq 160 (higF a c)
        unfold higF
        split
        · exact hl c List.mem_cons_self
        · exact ha
      | false =>
        show Fq 160 (lowF a c)
        unfold lowF
        split
        · exact hl c List.mem_cons_self
        · exact ha
  cases xs with
  | nil => exact absurd rfl hne
  | cons y ys => exact gen _ _ (hx y List.mem_cons_self) hx
theorem ext_app (h : Bool) (y : Int × Int) (ys : List (Int × Int)) (x : Int × Int) : extF h ((y :: ys) ++ [x]) = (if h = true then higF else lowF) (extF h (y :: ys)) x := by
  unfold extF
  rw [List.foldl_append]
  rfl
theorem ext_one (h : Bool) (x : Int × Int) : extF h [x] = x := by
  cases h with
  | true => exact hig_self x
  | false => exact low_self x
theorem ew_low {B : Fr} {env : List Ent} {R : PyData → Prop} {l : List (Int × Int)} {x : Int × Int} (i7 : env[7]? = some (.dat (frD x))) (i5 : env[5]? = some (.dat (optF false l))) (hx : Fq 160 x) (hl : ∀ y, y ∈ l → Fq 160 y) (q : R (optF false (l ++ [x]))) : EW B env (tIf (tOr (tB (tIsN (tVar 5))) (tTest (tOp (rI0 fun i j => V.bl (decide (i < j))) (tOp (rMulA K) (tOp (rIx K) (tVar 7) (tC (V.int 0))) (tOp (rIx K) (tVar 5) (tC (V.int 1)))) (tOp (rMulA K) (tOp (rIx K) (tVar 5) (tC (V.int 0))) (tOp (rIx K) (tVar 7) (tC (V.int 1))))))) (tVar 7) (tVar 5)) R := by
  cases l with
  | nil =>
    refine ew_if (tw_or (tw_B (ew_isN (ew_var i5 ⟨true, rfl, ?_⟩))))
    refine ew_var i7 ?_
    have e : optF false ([] ++ [x]) = frD x := congrArg frD (ext_one false x)
    rw [← e]
    exact q
  | cons y ys =>
    have hv := ext_fq false (y :: ys) (by simp) hl
    have e : optF false ((y :: ys) ++ [x]) = frD (lowF (extF false (y :: ys)) x) := congrArg frD (ext_app false y ys x)
    rw [e] at q
    have i5' : env[5]? = some (.dat (frD (extF false (y :: ys)))) := i5
    generalize extF false (y :: ys) = v at hv q i5'
    refine ew_if (tw_or (tw_B (ew_isN (ew_var i5' ⟨false, rfl, ?_⟩))))
    refine tw_test (ew_op (ew_op (ew_op (ew_var i7 (ew_int (od_ix ⟨_, _, _, rfl, rfl, rfl, ?_⟩))))))
    refine ew_op (ew_var i5' (ew_int (od_ix ⟨_, _, _, rfl, rfl, rfl, ?_⟩)))
    refine od_mulI ⟨_, _, rfl, rfl, hx.b1.mulOk hv.b2 (by decide), ?_⟩
    refine ew_op (ew_op (ew_var i5' (ew_int (od_ix ⟨_, _, _, rfl, rfl, rfl, ?_⟩))))
    refine ew_op (ew_var i7 (ew_int (od_ix ⟨_, _, _, rfl, rfl, rfl, ?_⟩)))
    refine od_mulI ⟨_, _, rfl, rfl, hv.b1.mulOk hx.b2 (by decide), ?_⟩
    refine od_B0 ⟨_, _, rfl, rfl, ?_⟩
    refine ⟨_, rfl, ?_⟩
    by_cases hc : lessF x v = true
    · rw [lowF_t hc] at q
      rw [if_pos (show decide (x.1 * v.2 < v.1 * x.2) = true from hc)]
      exact ew_var i7 q
    · rw [lowF_f hc] at q
      rw [if_neg (show ¬ decide (x.1 * v.2 < v.1 * x.2) = true from hc)]
      exact ew_var i5' q
theorem ew_hig {B : Fr} {env : List Ent} {R : PyData → Prop} {l : List (Int × Int)} {x : Int × Int} (i7 : env[7]? = some (.dat (frD x))) (i6 : env[6]? = some (.dat (optF true l))) (hx : Fq 160 x) (hl : ∀ y, y ∈ l → Fq 160 y) (q : R (optF true (l ++ [x]))) : EW B env (tIf (tOr (tB (tIsN (tVar 6))) (tTest (tOp (rI0 fun i j => V.bl (decide (i < j))) (tOp (rMulA K) (tOp (rIx K) (tVar 6) (tC (V.int 0))) (tOp (rIx K) (tVar 7) (tC (V.int 1)))) (tOp (rMulA K) (tOp (rIx K) (tVar 7) (tC (V.int 0))) (tOp (rIx K) (tVar 6) (tC (V.int 1))))))) (tVar 7) (tVar 6)) R := by
  cases l with
  | nil =>
    refine ew_if (tw_or (tw_B (ew_isN (ew_var i6 ⟨true, rfl, ?_⟩))))
    refine ew_var i7 ?_
    have e : optF true ([] ++ [x]) = frD x := congrArg frD (ext_one true x)
    rw [← e]
    exact q
  | cons y ys =>
    have hv := ext_fq true (y :: ys) (by simp) hl
    have e : optF true ((y :: ys) ++ [x]) = frD (higF (extF true (y :: ys)) x) := congrArg frD (ext_app true y ys x)
    rw [e] at q
    have i6' : env[6]? = some (.dat (frD (extF true (y :: ys)))) := i6
    generalize extF true (y :: ys) = v at hv q i6'
    refine ew_if (tw_or (tw_B (ew_isN (ew_var i6' ⟨false, rfl, ?_⟩))))
    refine tw_test (ew_op (ew_op (ew_op (ew_var i6' (ew_int (od_ix ⟨_, _, _, rfl, rfl, rfl, ?_⟩))))))
    refine ew_op (ew_var i7 (ew_int (od_ix ⟨_, _, _, rfl, rfl, rfl, ?_⟩)))
    refine od_mulI ⟨_, _, rfl, rfl, hv.b1.mulOk hx.b2 (by decide), ?_⟩
    refine ew_op (ew_op (ew_var i7 (ew_int (od_ix ⟨_, _, _, rfl, rfl, rfl, ?_⟩))))
    refine ew_op (ew_var i6' (ew_int (od_ix ⟨_, _, _, rfl, rfl, rfl, ?_⟩)))
    refine od_mulI ⟨_, _, rfl, rfl, hx.b1.mulOk hv.b2 (by decide), ?_⟩
    refine od_B0 ⟨_, _, rfl, rfl, ?_⟩
    refine ⟨_, rfl, ?_⟩
    by_cases hc : lessF v x = true
    · rw [higF_t hc] at q
      rw [if_pos (show decide (v.1 * x.2 < x.1 * v.2) = true from hc)]
      exact ew_var i7 q
    · rw [higF_f hc] at q
      rw [if_neg (show ¬ decide (v.1 * x.2 < x.1 * v.2) = true from hc)]
      exact ew_var i6' q
theorem rt_at {Q : PyData → Prop} {n : Nat} {x : Int × Int} (h : Fq n x) (l : n ≤ 12000) (q : Q (.str (PyData.shown (frD x)))) : CD (rReprB K) [frD x] Q := by
  have e := h.sh l
  exact cd_repr ⟨_, rfl, ⟨_, .inr rfl⟩, e.shw, Nat.le_trans e.dep (by decide), Nat.le_trans e.len (by decide), q⟩
theorem ne_same {a b : Str} {p q : Prop} (h : a = b) (r : q) : OD (rNeA K) (.str a) (.str b) (fun d => ∃ c, d = .bool c ∧ if c = true then p else q) := od_neS' ⟨_, rfl, neF h r⟩
theorem lay_frs : ∀ xs : List (Int × Int), PyData.canLayAll0 (xs.map frD) = true
  | [] => by rw [List.map_nil, PyData.canLayAll0]
  | x :: xs => by
    rw [List.map_cons, PyData.canLayAll0, lay_frs xs]
    simp [frD, PyData.canLay0, PyData.canLayAll0]
theorem shp_frs {xs : List (Int × Int)} (h : (PyData.list (xs.map frD)).depth ≤ 64) : SeqAt.shaped (.list (xs.map frD)) = true := by
  unfold SeqAt.shaped
  rw [PyData.canLay0, lay_frs xs, decide_eq_true h]
  rfl
theorem cut_mem {xs : List PyData} {a b : Option Int} {d : PyData} (h : d ∈ Dl.cutD xs a b) : d ∈ xs := List.mem_of_mem_drop (List.mem_of_mem_take h)
theorem cut_len {xs : List PyData} {k : Int} (h0 : 0 ≤ k) (h1 : k < max 1 3) : (Dl.cutD xs none (some k)).length ≤ 2 := by
  unfold Dl.cutD
  rw [List.length_take]
  have : k = 0 ∨ k = 1 ∨ k = 2 := by omega
  rcases this with e | e | e
  all_goals
    subst e
    show min (HT.sIx xs.length xs.length _ - HT.sIx xs.length 0 none) _ ≤ 2
    refine Nat.le_trans (Nat.min_le_left _ _) ?_
    simp [HT.sIx]
    try omega
end
/-! from K01m -/
section
variable {P : Program} {w : World} {K : PySem.W.Frag} {mg : Str → Option Value} {base : Heap}
def spLaw (K : PySem.W.Frag) : Sp := fun vs H Q _ => ∃ (a : Addr) (ns : List Int), vs = [.ref a] ∧ SqL K H a (ns.map V.int) ∧ ns.length ≤ 63 ∧ ∀ H', Q (.bl true) H'
theorem pair_at {v : V} {x1 x2 y1 y2 : Int} {B : Fr} {R : PyData → Prop} (hx : Fq 160 (x1, x2)) (hy : Fq 160 (y1, y2)) (r : R (.bool true)) : mPair B [.raw v, .dat (.tuple [.int x1, .int x2]), .dat (.tuple [.int y1, .int y2])] R := ⟨v, (x1, x2), (y1, y2), rfl, hx, hy, r⟩
theorem msrc_at {p l : Addr} {R : PyData → Prop} (r : R (.bool true)) : mSrc (Fsrc p l) [.raw (.ref p)] R := ⟨p, l, rfl, rfl, r⟩
theorem tot_at {b : Bool} {B : Fr} {R : PyData → Prop} (r : R (frD (0, 1))) : mTotal B [.dat (sq b [])] R := ⟨b, [], rfl, (fun _ h => by cases h), (by decide), r⟩
theorem tot_atL {B : Fr} {R : PyData → Prop} (r : R (frD (0, 1))) : mTotal B [.dat (.list [])] R := tot_at (b := false) r
theorem tot_atT {B : Fr} {R : PyData → Prop} (r : R (frD (0, 1))) : mTotal B [.dat (.tuple [])] R := tot_at (b := true) r
/-- from the source on, by data -/
theorem law_in {p l a : Addr} {H : Hp} {Q : VK} {ts : TS} {n : Nat} (j : Src p l H) (hQ : ∀ H', Q (.bl true) H')
    (hw : SW (Fsrc p l) ([.non, .raw (.ref p)] ++ List.replicate (n - 2) .non) ts ⟨fun _ => False, fun d => d = .bool true, fun _ => False, fun _ => False⟩) : ts { nx := fun _ H' => Q .non H', rt := Q } ([some (.ref a), some (.ref p)] ++ List.replicate (n - 2) none) H := by
  refine hw (fun _ => none) H (fun _ => False) (fun _ => none) _ H _ ⟨⟨j, fun _ _ e => (nomatch e)⟩, ⟨trivial, rfl, ?_⟩, ?_, fun _ _ e => (nomatch e), fun _ _ _ _ _ e => e, fun _ e => absurd rfl e⟩ ⟨fun _ _ _ _ z _ => z.elim, fun d v H2 e _ k => ?_, fun _ _ _ _ z => z.elim, fun _ _ _ _ z => z.elim⟩
  · induction n - 2 with
    | zero => trivial
    | succ m ih => exact ⟨trivial, ih⟩
  · have e : ∀ m, owned (List.replicate m Ent.non) = [] := fun m => by
      induction m with
      | zero => rfl
      | succ m ih => exact ih
    show (owned (List.replicate (n - 2) Ent.non)).Nodup
    rw [e]
    exact List.nodup_nil
  · subst e
    cases k
    exact hQ H2
theorem law_start {a : Addr} {H : Hp} {Q : VK} {ts : TS} {n : Nat} {ns : List Int} (hS : SqL K H a (ns.map V.int)) (hn : ns.length ≤ 63) (hQ : ∀ H', Q (.bl true) H')
    (hw : ∀ p l, SW (Fsrc p l) ([.non, .raw (.ref p)] ++ List.replicate n .non) ts ⟨fun _ => False, fun d => d = .bool true, fun _ => False, fun _ => False⟩) :
    tSeq (tAsg (tCall (spSource K) [] E0 (tCons (tVar 0) tNil)) (gName 1)) ts { nx := fun _ H' => Q .non H', rt := Q } ([some (.ref a), none] ++ List.replicate n none) H :=
  ⟨_, rfl, a, ns, rfl, hS, hn, fun p l H' _ _ _ sj => law_in (a := a) (n := n + 2) sj hQ (hw p l)⟩
end
section
variable {P : Program} {w : World} {K : PySem.W.Frag} {mg : Str → Option Value} {base : Heap}
end
/-! from K01n -/
theorem law_callG {P : Program} {w : World} {K : PySem.W.Frag} {mg mb : Str → Option Value} {k : Nat} {fa a : Addr} {fd : FuncData} {x : Str} {sp : Sp} {st : Shared} {us : List Value} {ms : List Int}
    (inK : K.In st.heap) (main : st.heap.Ns mainGlobals mg) (bi : st.heap.Ns builtinsNs mb) (boot : ∀ y : Str, y ≠ "__name__" → mb y = bootBuiltins y)
    (lim : st.heap.NoLimit) (dig : NoDig st.heap) (idle : st.gens = #[]) (at0 : st.heap.get? a = some { cls := .type "list", data := .seq us.toArray })
    (wholes : IntsAre us ms) (long : ms.length ≤ sizeLine) (room : Room k callerA)
    (F : ∀ base : Heap, K.In base → base.Ns mainGlobals mg → NoDig base → FnG P w K mg base k fa fd [x] sp)
    (binds : ∀ (s : Shared) (u : Value), BindsTo s fd ⟨[u], []⟩ [(x, u)])
    (told : ∀ H : Hp, SqL K H a (ms.map V.int) → sp [.ref a] H (fun v _ => v = .bl true) E0) :
    codeAny (model P w) callerA (.call (.ref fa) ⟨[.ref a], []⟩) (fun r t => r = .ok (.ret (.bool true)) ∧ OldK st.heap t.heap ∧ t.os = st.os ∧ AllBare t.gens) st := by
  have shut := vals_ints wholes
  have size := wholes.length
  let ob : Obj := { cls := .type "list", data := .seq us.toArray }
  let H : Hp := fun b => if b = a ∧ K.lookup a = none then some (.frz ob (.lst (ms.map V.int))) else none
  have one : ∀ b u, H b = some u → b = a ∧ K.lookup a = none ∧ u = .frz ob (.lst (ms.map V.int)) := fun b u e => by
    by_cases q : b = a ∧ K.lookup a = none
    · have e2 : H b = some (.frz ob (.lst (ms.map V.int))) := if_pos q
      rw [e2] at e
      cases e
      exact ⟨q.1, q.2, rfl⟩
    · have e2 : H b = none := if_neg q
      rw [e2] at e
      cases e
  have stay : ∀ b o, st.heap.get? b = some o → H b = none → (hidT st.heap H).get? b = some o := fun b o e n => hidT_get e n
  have spaces : ∀ b m, st.heap.Ns b m → (hidT st.heap H).Ns b m := fun b m ⟨o, es, ep, e, d, r⟩ => by
    refine ⟨o, es, ep, stay b o e ?_, d, r⟩
    cases q : H b with
    | none => rfl
    | some u =>
      obtain ⟨rfl, _⟩ := one b u q
      rw [at0] at e
      cases e
      have d2 : Data.seq us.toArray _ = Data.dict es ep := d
      cases d2
  have inB : K.In (hidT st.heap H) := fun b o e => stay b o (inK b o e) (by
    cases q : H b with
    | none => rfl
    | some u =>
      obtain ⟨rfl, n, _⟩ := one b u q
      rw [n] at e
      cases e)
  have digB : NoDig (hidT st.heap H) := by
    obtain ⟨mc, d1, d2⟩ := dig
    exact ⟨mc, spaces _ _ d1, d2⟩
  have modB : Mod K mg (hidT st.heap H) := ⟨inB, spaces _ _ main, ⟨mb, spaces _ _ bi, boot⟩, by
    obtain ⟨mc, l1, l2⟩ := lim
    exact ⟨mc, spaces _ _ l1, l2⟩⟩
  have okH : HOk P w H st.heap := fun b u e => by
    obtain ⟨rfl, _, rfl⟩ := one b u e
    exact ⟨at0, by rw [List.length_map]; exact long, us, _, shut, at0⟩
  have env : Env0 P w K mg (hidT st.heap H) callerA [] st H :=
    ⟨rfl, modB, fun b o e => of_hidT e, Nat.le_of_eq (hidT_size _ _), trivial, fun b z => absurd (show b ∈ ([] : List Addr) from z) (by simp), okH, .of_eq idle⟩
  have seen : SqL K H a (ms.map V.int) := by
    cases q : K.lookup a with
    | none => exact .inl (.inr ⟨ob, if_pos ⟨rfl, q⟩⟩)
    | some o =>
      have e := inK a o q
      rw [at0] at e
      cases e
      exact .inr ⟨_, us.toArray, _, q, rfl, rfl, rfl, by rw [List.size_toArray, size]; exact long, by simpa using shut⟩
  refine codeAny_mono ((F _ inB (spaces _ _ main) digB).go callerA [] st H ⟨[.ref a], []⟩ [.ref a] [.ref a] _ _ room rfl env (binds st (.ref a)) (.cons rfl .nil) (told H seen)) fun r t h => ?_
  cases r with
  | error e => exact h.elim
  | ok fl =>
    cases fl with
    | next => exact h.elim
    | brk => exact h.elim
    | cont => exact h.elim
    | ret u =>
      obtain ⟨v, H2, os, bare, un, ok2, rv, q⟩ := h
      have q2 : v = .bl true := q
      subst q2
      obtain rfl : u = Value.bool true := rv
      refine ⟨rfl, OldK.of_keep fun b o e => ?_, os, bare⟩
      cases z : H b with
      | none => exact un.keep b o e z (by intro y; exact absurd (show b ∈ ([] : List Addr) from y) (by simp)) (by simp)
      | some u =>
        obtain ⟨rfl, _, rfl⟩ := one b u z
        have z2 := un.frzs b ob _ z
        obtain ⟨e1, _⟩ := okH b _ z
        obtain ⟨e2, _⟩ := ok2 b _ z2
        rw [e] at e1
        cases e1
        exact e2
theorem walk_ofG {l : PySem.W.OpenLaw} {n k : Nat} {q : Program} {loose : List Str} {XP : (Str → Option Value) → Heap → Prop} {YP : World → Heap → Prop} {d : DefRec} {K : Params → PySem.W.Frag} {sp : PySem.W.Frag → Sp} {x : Str}
    (most : l.most = some n) (few : n ≤ sizeLine) (plainD : d.params.defaults = []) (room : Room k callerA) (hY : ∀ (w : World) (h : Heap), YP w h → (K w.params).In h)
    (F : ∀ (w : World) (mg : Str → Option Value) (fa : Addr) (h : Heap), (K w.params).In h → h.Ns mainGlobals mg → mg d.name = some (.ref fa) → ∃ fd : FuncData, (∀ (s : Shared) (u : Value), BindsTo s fd ⟨[u], []⟩ [(x, u)]) ∧
      ∀ base : Heap, (K w.params).In base → base.Ns mainGlobals mg → NoDig base → FnG l.prog w (K w.params) mg base k fa fd [x] (sp (K w.params)))
    (told : ∀ (K : PySem.W.Frag) (H : Hp) (a : Addr) (ns : List Int), ns.length ≤ n → SqL K H a (ns.map V.int) → sp K [.ref a] H (fun v _ => v = .bl true) E0) :
    PySem.W.WalkO q loose XP YP l.row.toRowW d [] (fun f vs => PySem.call f vs) := by
  refine Att.attach_call most plainD fun w s₀ st mg mb fa o pm cd doc a us ms G Y ho hd hcd named at0 wholes short idle => ?_
  have inK := hY w _ Y
  obtain ⟨fd, bs, each⟩ := F w mg fa _ inK G.T.g named
  exact law_callG inK G.T.g G.T.b G.T.builtins G.T.nolimit G.T.nodigits idle at0 wholes (Nat.le_trans short few) room each bs fun H z => told _ H a ms short z

/-! ### sums of products, divisors, common denominators -/
def dotI (a b : List Int) : Int := (List.zipWith (· * ·) a b).sum
def gcdL (ns : List Int) : Int := ns.foldl gc 0
def lcmI (a b : Int) : Int := ((Nat.lcm a.natAbs b.natAbs : Nat) : Int)
def lcmF (m : Int) (xs : List (Int × Int)) : Int := xs.foldl (fun m x => lcmI m x.2) m
def lcmL (xs : List (Int × Int)) : Int := lcmF 1 xs
def overN (L : Int) (xs : List (Int × Int)) : List Int := xs.map fun x => x.1 * L.fdiv x.2
def wholeN (xs : List (Int × Int)) : List Int := overN (lcmL xs) xs
theorem gc_one (n : Int) : gc 1 n = 1 := by
  unfold gc
  rw [show (1 : Int).natAbs = 1 from rfl, Nat.gcd_one_left]
  rfl
theorem gcdF_one : ∀ ns : List Int, ns.foldl gc 1 = 1
  | [] => rfl
  | n :: ns => by rw [List.foldl_cons, gc_one]; exact gcdF_one ns
theorem gcdL_take {ns : List Int} {i : Nat} (h : gcdL (ns.take i) = 1) : gcdL ns = 1 := by
  have e : ns = ns.take i ++ ns.drop i := (List.take_append_drop i ns).symm
  unfold gcdL at *
  rw [e, List.foldl_append, h]
  exact gcdF_one _
theorem gc_bit' {n : Nat} {a b : Int} (ha : Bit n a) (hb : Bit n b) : Bit n (gc a b) := by
  by_cases h : b = 0
  · subst h
    unfold gc Bit at *
    rw [show (0 : Int).natAbs = 0 from rfl, Nat.gcd_zero_right]
    omega
  · exact gc_bit h hb
theorem Bit.zero (n : Nat) : Bit n 0 := by
  unfold Bit
  exact Nat.two_pow_pos n
theorem gcdF_bit {n : Nat} : ∀ (ns : List Int) (g : Int), Bit n g → (∀ x, x ∈ ns → Bit n x) → Bit n (ns.foldl gc g)
  | [], g, h, _ => h
  | x :: ns, g, h, hn => gcdF_bit ns _ (gc_bit' h (hn x List.mem_cons_self)) fun y hy => hn y (List.mem_cons_of_mem _ hy)
theorem gcdL_bit {n : Nat} {ns : List Int} (h : ∀ x, x ∈ ns → Bit n x) : Bit n (gcdL ns) := gcdF_bit ns 0 (Bit.zero n) h
theorem gc_nonneg (a b : Int) : 0 ≤ gc a b := Int.natCast_nonneg _
theorem gcdF_dvd : ∀ (ns : List Int) (g : Int), (ns.foldl gc g ∣ g) ∧ ∀ x, x ∈ ns → ns.foldl gc g ∣ x
  | [], g => ⟨Int.dvd_refl _, fun _ h => by cases h⟩
  | n :: ns, g => by
    have e := gcdF_dvd ns (gc g n)
    refine ⟨Int.dvd_trans e.1 (gc_dvd1 g n), fun x hx => ?_⟩
    rcases List.mem_cons.mp hx with h | h
    · subst h; exact Int.dvd_trans e.1 (gc_dvd2 g x)
    · exact e.2 x h
theorem gcdL_dvd {ns : List Int} {x : Int} (h : x ∈ ns) : gcdL ns ∣ x := (gcdF_dvd ns 0).2 x h
theorem gcdF_nonneg : ∀ (ns : List Int) (g : Int), 0 ≤ g → 0 ≤ ns.foldl gc g
  | [], g, h => h
  | n :: ns, g, _ => gcdF_nonneg ns _ (gc_nonneg g n)
theorem gcdL_pos {ns : List Int} {x : Int} (h : x ∈ ns) (h0 : x ≠ 0) : 0 < gcdL ns := by
  have a := gcdF_nonneg ns 0 (Int.le_refl 0)
  have b := gcdL_dvd h
  rcases Int.lt_or_eq_of_le a with c | c
  · exact c
  · have z : gcdL ns = 0 := c.symm
    rw [z] at b
    exact absurd (Int.zero_dvd.mp b) h0
theorem lcmI_pos {a b : Int} (ha : 0 < a) (hb : 0 < b) : 0 < lcmI a b := by
  unfold lcmI
  have := Nat.lcm_pos (show 0 < a.natAbs by omega) (show 0 < b.natAbs by omega)
  omega
theorem lcmI_dvd1 (a b : Int) : a ∣ lcmI a b := by
  unfold lcmI
  exact Int.natAbs_dvd.mp (Int.ofNat_dvd.mpr (Nat.dvd_lcm_left _ _))
theorem lcmI_dvd2 (a b : Int) : b ∣ lcmI a b := by
  unfold lcmI
  exact Int.natAbs_dvd.mp (Int.ofNat_dvd.mpr (Nat.dvd_lcm_right _ _))
theorem lcmI_bit {n m : Nat} {a b : Int} (ha : Bit n a) (hb : Bit m b) : Bit (n + m) (lcmI a b) := by
  unfold Bit lcmI at *
  rw [Int.natAbs_natCast, Nat.pow_add]
  refine Nat.lt_of_le_of_lt ?_ (Nat.mul_lt_mul'' ha hb)
  unfold Nat.lcm
  exact Nat.div_le_self _ _
theorem lcmF_all : ∀ (xs : List (Int × Int)) (m : Int), 0 < m → (∀ x, x ∈ xs → 0 < x.2) → 0 < lcmF m xs ∧ m ∣ lcmF m xs ∧ ∀ x, x ∈ xs → x.2 ∣ lcmF m xs
  | [], m, h, _ => ⟨h, Int.dvd_refl _, fun _ h => by cases h⟩
  | x :: xs, m, h, hx => by
    have e := lcmF_all xs (lcmI m x.2) (lcmI_pos h (hx x List.mem_cons_self)) fun y hy => hx y (List.mem_cons_of_mem _ hy)
    refine ⟨e.1, Int.dvd_trans (lcmI_dvd1 m x.2) e.2.1, fun y hy => ?_⟩
    rcases List.mem_cons.mp hy with q | q
    · subst q; exact Int.dvd_trans (lcmI_dvd2 m y.2) e.2.1
    · exact e.2.2 y q
theorem lcmL_pos {xs : List (Int × Int)} (h : ∀ x, x ∈ xs → 0 < x.2) : 0 < lcmL xs := (lcmF_all xs 1 (by decide) h).1
theorem lcmL_dvd {xs : List (Int × Int)} (h : ∀ x, x ∈ xs → 0 < x.2) {x : Int × Int} (hx : x ∈ xs) : x.2 ∣ lcmL xs := (lcmF_all xs 1 (by decide) h).2.2 x hx
theorem lcmF_bit {k : Nat} : ∀ (xs : List (Int × Int)) (m : Int) (n : Nat), Bit n m → (∀ x, x ∈ xs → Bit k x.2) → Bit (n + k * xs.length) (lcmF m xs)
  | [], m, n, h, _ => h
  | x :: xs, m, n, h, hx => by
    have e := lcmF_bit xs (lcmI m x.2) (n + k) (lcmI_bit h (hx x List.mem_cons_self)) fun y hy => hx y (List.mem_cons_of_mem _ hy)
    refine e.mono ?_
    rw [List.length_cons, Nat.mul_add]
    omega
theorem bit1 : Bit 1 1 := by unfold Bit; decide
theorem lcmL_bit {k : Nat} {xs : List (Int × Int)} (h : ∀ x, x ∈ xs → Bit k x.2) : Bit (1 + k * xs.length) (lcmL xs) := lcmF_bit xs 1 1 bit1 h
theorem fdiv_eq {L q : Int} (hq : 0 < q) (h : q ∣ L) : L = q * L.fdiv q := by
  obtain ⟨c, rfl⟩ := h
  rw [fdiv_of (by omega)]
theorem fdiv_bit' {n : Nat} {L q : Int} (hq : 0 < q) (h : q ∣ L) (hb : Bit n L) : Bit n (L.fdiv q) := by
  have e := fdiv_eq hq h
  unfold Bit at *
  refine Nat.lt_of_le_of_lt ?_ hb
  generalize L.fdiv q = c at *
  rw [e, Int.natAbs_mul]
  exact Nat.le_mul_of_pos_left _ (by omega)
theorem overN_bit {k n : Nat} {L : Int} {xs : List (Int × Int)} (hL : Bit n L) (h0 : ∀ x, x ∈ xs → 0 < x.2) (hd : ∀ x, x ∈ xs → x.2 ∣ L) (h : ∀ x, x ∈ xs → Bit k x.1) : ∀ y, y ∈ overN L xs → Bit (k + n) y := fun y hy => by
  obtain ⟨x, hx, rfl⟩ := List.mem_map.mp hy
  exact (h x hx).mul (fdiv_bit' (h0 x hx) (hd x hx) hL)
theorem sum_bit {k : Nat} : ∀ (zs : List Int), (∀ z, z ∈ zs → Bit k z) → Bit (k + zs.length) zs.sum
  | [], _ => Bit.zero _
  | z :: zs, h => by
    have e := sum_bit zs fun y hy => h y (List.mem_cons_of_mem _ hy)
    rw [List.sum_cons, List.length_cons]
    exact Bit.add ((h z List.mem_cons_self).mono (Nat.le_add_right _ _)) e
theorem dot_bit {m n : Nat} {a b : List Int} (ha : ∀ x, x ∈ a → Bit m x) (hb : ∀ x, x ∈ b → Bit n x) : Bit (m + n + a.length) (dotI a b) := by
  refine (sum_bit (k := m + n) (List.zipWith (· * ·) a b) fun z hz => ?_).mono ?_
  · obtain ⟨i, hi⟩ := List.getElem?_of_mem hz
    rw [List.getElem?_zipWith] at hi
    cases e1 : a[i]? with
    | none => rw [e1] at hi; cases b[i]? <;> cases hi
    | some x =>
      cases e2 : b[i]? with
      | none => rw [e1, e2] at hi; cases hi
      | some y =>
        rw [e1, e2] at hi
        cases hi
        exact (ha x (List.mem_of_getElem? e1)).mul (hb y (List.mem_of_getElem? e2))
  · rw [List.length_zipWith]
    omega
/-! made plain -/
def anyI (a : List Int) : Bool := a.any fun n => n != 0
def plainR (a : List Int) (b : Int) : List Int × Int := if anyI a = true then (a.map (·.fdiv (gcdL (a ++ [b]))), b.fdiv (gcdL (a ++ [b]))) else (a, if 0 ≤ b then 0 else -1)
theorem anyI_ex {a : List Int} (h : anyI a = true) : ∃ x, x ∈ a ∧ x ≠ 0 := by
  unfold anyI at h
  obtain ⟨x, hx, h⟩ := List.any_eq_true.mp h
  exact ⟨x, hx, by simpa using h⟩
theorem anyI_no {a : List Int} (h : ¬ anyI a = true) : ∀ x, x ∈ a → x = 0 := fun x hx => by
  by_cases z : x = 0
  · exact z
  · exact absurd (List.any_eq_true.mpr ⟨x, hx, by simpa using z⟩) h
theorem gcdAB_pos {a : List Int} {b : Int} (h : anyI a = true) : 0 < gcdL (a ++ [b]) := by
  obtain ⟨x, hx, h0⟩ := anyI_ex h
  exact gcdL_pos (List.mem_append_left _ hx) h0
theorem fdiv_dvd_bit {n : Nat} {x g : Int} (hg : 0 < g) (hd : g ∣ x) (h : Bit n x) : Bit n (x.fdiv g) := fdiv_bit' hg hd h
theorem plainR_bit {n : Nat} {a : List Int} {b : Int} (hn : 1 ≤ n) (ha : ∀ x, x ∈ a → Bit n x) (hb : Bit n b) : (∀ x, x ∈ (plainR a b).1 → Bit n x) ∧ Bit n (plainR a b).2 ∧ (plainR a b).1.length = a.length := by
  unfold plainR
  split
  · rename_i h
    have g := gcdAB_pos (b := b) h
    refine ⟨fun x hx => ?_, fdiv_dvd_bit g (gcdL_dvd (List.mem_append_right _ (List.mem_singleton.mpr rfl))) hb, List.length_map _⟩
    obtain ⟨y, hy, rfl⟩ := List.mem_map.mp hx
    exact fdiv_dvd_bit g (gcdL_dvd (List.mem_append_left _ hy)) (ha y hy)
  · refine ⟨ha, ?_, rfl⟩
    show Bit n (if 0 ≤ b then 0 else -1)
    split
    · exact Bit.zero _
    · exact Bit.mono (n := 1) (show (1 : Nat) < 2 ^ 1 by decide) hn
/-! what a row reaches -/
def pl' (x y : Int × Int) : Int × Int := lst (x.1 * y.2 + y.1 * x.2) (x.2 * y.2)
theorem lst_mk {p q : Int} (h : 0 < q) : ∃ g, 0 < g ∧ p = (lst p q).1 * g ∧ q = (lst p q).2 * g ∧ 0 < (lst p q).2 := by
  obtain ⟨c, hc⟩ := gc_dvd1 p q
  obtain ⟨d, hd⟩ := gc_dvd2 p q
  have g := gc_pos (a := p) (b := q) (by omega)
  refine ⟨gc p q, g, ?_, ?_, ?_⟩
  · rw [lst_is h rfl hc hd, Int.mul_comm]; exact hc
  · rw [lst_is h rfl hc hd, Int.mul_comm]; exact hd
  · rw [lst_is h rfl hc hd]
    exact pos_right g (by rw [← hd]; exact h)
theorem pl_lst {a b c d : Int} (hb : 0 < b) (hd : 0 < d) : pl' (lst a b) (lst c d) = lst (a * d + c * b) (b * d) := by
  obtain ⟨g, g0, ea, eb, b0⟩ := lst_mk (p := a) hb
  obtain ⟨f, f0, ec, ed, d0⟩ := lst_mk (p := c) hd
  unfold pl'
  generalize lst a b = x at *
  generalize lst c d = y at *
  have e1 : a * d + c * b = (x.1 * y.2 + y.1 * x.2) * (g * f) := by rw [ea, eb, ec, ed]; grind
  have e2 : b * d = (x.2 * y.2) * (g * f) := by rw [eb, ed]; grind
  rw [e1, e2, lst_scale (Int.mul_pos b0 d0) (Int.mul_pos g0 f0)]
theorem lst_zero {L : Int} (h : 0 < L) : lst 0 L = (0, 1) := by
  refine lst_is h (g := L) ?_ ?_ ?_
  · unfold gc
    simp
    omega
  · simp
  · rw [Int.mul_one]
def reachF (f : Int × Int) (l : List (Int × Int × Int)) : Int × Int := l.foldl (fun f z => pl' f (lst (z.1 * z.2.1) z.2.2)) f
theorem reach_eq : ∀ (a : List Int) (xs : List (Int × Int)) (L s : Int), 0 < L → (∀ x, x ∈ xs → 0 < x.2) → (∀ x, x ∈ xs → x.2 ∣ L) → reachF (lst s L) (List.zip a xs) = lst (s + dotI a (overN L xs)) L
  | [], xs, L, s, _, _, _ => by
    show lst s L = lst (s + 0) L
    rw [Int.add_zero]
  | c :: a, [], L, s, _, _, _ => by
    show lst s L = lst (s + 0) L
    rw [Int.add_zero]
  | c :: a, x :: xs, L, s, hL, h0, hd => by
    have hq := h0 x List.mem_cons_self
    have e := fdiv_eq hq (hd x List.mem_cons_self)
    show reachF (pl' (lst s L) (lst (c * x.1) x.2)) (List.zip a xs) = lst (s + (c * (x.1 * L.fdiv x.2) + dotI a (overN L xs))) L
    rw [pl_lst hL hq]
    have e1 : s * x.2 + c * x.1 * L = (s + c * (x.1 * L.fdiv x.2)) * x.2 := by
      generalize L.fdiv x.2 = k at *
      subst e
      grind
    rw [e1, lst_scale hL hq, reach_eq a xs L _ hL (fun y hy => h0 y (List.mem_cons_of_mem _ hy)) (fun y hy => hd y (List.mem_cons_of_mem _ hy)), Int.add_assoc]
def reachR (a : List Int) (xs : List (Int × Int)) : Int × Int := lst (dotI a (wholeN xs)) (lcmL xs)
def slackR (a : List Int) (b : Int) (xs : List (Int × Int)) : Int × Int := lst (b * lcmL xs - dotI a (wholeN xs)) (lcmL xs)
theorem reach_is {a : List Int} {xs : List (Int × Int)} (h : ∀ x, x ∈ xs → 0 < x.2) : reachF (0, 1) (List.zip a xs) = reachR a xs := by
  have hL := lcmL_pos h
  have e := reach_eq a xs (lcmL xs) 0 hL h fun x hx => lcmL_dvd h hx
  rw [lst_zero hL, Int.zero_add] at e
  exact e
theorem over_is {a : List Int} {b : Int} {xs : List (Int × Int)} (h : ∀ x, x ∈ xs → 0 < x.2) : lst (b * (reachR a xs).2 - (reachR a xs).1) (reachR a xs).2 = slackR a b xs := by
  unfold reachR slackR
  have hL := lcmL_pos h
  obtain ⟨g, g0, e1, e2, b0⟩ := lst_mk (p := dotI a (wholeN xs)) hL
  generalize lst (dotI a (wholeN xs)) (lcmL xs) = x at *
  have e3 : b * lcmL xs - dotI a (wholeN xs) = (b * x.2 - x.1) * g := by rw [e1, e2]; grind
  rw [e3]
  conv => rhs; rw [e2]
  rw [lst_scale b0 g0]
theorem lst_sign {p q : Int} (h : 0 < q) : ((lst p q).1 = 0 ↔ p = 0) ∧ ((lst p q).1 < 0 ↔ p < 0) := by
  obtain ⟨g, g0, e1, e2, b0⟩ := lst_mk (p := p) h
  generalize (lst p q).1 = y at *
  subst e1
  constructor
  · constructor
    · intro z; rw [z, Int.zero_mul]
    · intro z
      rcases Int.mul_eq_zero.mp z with q | q
      · exact q
      · omega
  · constructor
    · intro z; exact Int.mul_neg_of_neg_of_pos z g0
    · intro z
      by_cases c : y < 0
      · exact c
      · have := Int.mul_nonneg (show 0 ≤ y by omega) (show 0 ≤ g by omega)
        omega
def tightB (a : List Int) (b : Int) (xs : List (Int × Int)) : Bool := decide (dotI a (wholeN xs) = b * lcmL xs)
def brokenB (a : List Int) (b : Int) (xs : List (Int × Int)) : Bool := decide (b * lcmL xs < dotI a (wholeN xs))
theorem tight_is {a : List Int} {b : Int} {xs : List (Int × Int)} (h : ∀ x, x ∈ xs → 0 < x.2) : tightB a b xs = decide ((slackR a b xs).1 = 0) := by
  unfold tightB slackR
  rw [decide_eq_decide, (lst_sign (lcmL_pos h)).1]
  omega
theorem broken_is {a : List Int} {b : Int} {xs : List (Int × Int)} (h : ∀ x, x ∈ xs → 0 < x.2) : brokenB a b xs = decide ((slackR a b xs).1 < 0) := by
  unfold brokenB slackR
  rw [decide_eq_decide, (lst_sign (lcmL_pos h)).2]
  omega
theorem dot_zero : ∀ (a b : List Int), (∀ x, x ∈ a → x = 0) → dotI a b = 0
  | [], _, _ => rfl
  | _ :: _, [], _ => rfl
  | x :: a, y :: b, h => by
    show x * y + dotI a b = 0
    rw [h x List.mem_cons_self, dot_zero a b fun z hz => h z (List.mem_cons_of_mem _ hz), Int.zero_mul, Int.zero_add]
theorem dot_scale {g : Int} : ∀ (a b : List Int), dotI (a.map (g * ·)) b = g * dotI a b
  | [], _ => by simp [dotI]
  | _ :: _, [] => by simp [dotI]
  | x :: a, y :: b => by
    show g * x * y + dotI (a.map (g * ·)) b = g * (x * y + dotI a b)
    rw [dot_scale a b]
    grind
theorem broken_plain {a : List Int} {b : Int} {xs : List (Int × Int)} (h : ∀ x, x ∈ xs → 0 < x.2) : brokenB (plainR a b).1 (plainR a b).2 xs = brokenB a b xs := by
  have hL := lcmL_pos h
  unfold plainR
  split
  · rename_i ha
    have g := gcdAB_pos (b := b) ha
    have hd : ∀ x, x ∈ a ++ [b] → gcdL (a ++ [b]) ∣ x := fun x hx => gcdL_dvd hx
    generalize gcdL (a ++ [b]) = k at *
    have ea : a = (a.map (·.fdiv k)).map (k * ·) := by
      rw [List.map_map]
      conv => lhs; rw [← List.map_id a]
      refine List.map_congr_left fun x hx => ?_
      exact fdiv_eq g (hd x (List.mem_append_left _ hx))
    have eb : b = k * b.fdiv k := fdiv_eq g (hd b (List.mem_append_right _ (List.mem_singleton.mpr rfl)))
    unfold brokenB
    rw [decide_eq_decide]
    show b.fdiv k * lcmL xs < dotI (a.map (·.fdiv k)) (wholeN xs) ↔ b * lcmL xs < dotI a (wholeN xs)
    have ed : dotI a (wholeN xs) = k * dotI (a.map (·.fdiv k)) (wholeN xs) := by
      conv => lhs; rw [ea]
      exact dot_scale _ _
    rw [ed]
    generalize b.fdiv k = c at *
    rw [eb, Int.mul_assoc]
    exact (Int.mul_lt_mul_left g).symm
  · rename_i ha
    have hz := anyI_no ha
    unfold brokenB
    rw [decide_eq_decide]
    show (if 0 ≤ b then 0 else -1) * lcmL xs < dotI a (wholeN xs) ↔ _
    rw [dot_zero a _ hz]
    split
    · rename_i hb
      have := Int.mul_nonneg hb (show 0 ≤ lcmL xs by omega)
      omega
    · rename_i hb
      have := Int.mul_neg_of_neg_of_pos (show b < 0 by omega) hL
      omega
/-! the row of fractions -/
theorem lcm_way {m q : Int} (hm : 0 < m) (hq : 0 < q) : m * q.fdiv (gcdL [m, q]) = lcmI m q := by
  have e : gcdL [m, q] = gc m q := by
    show gc (gc 0 m) q = gc m q
    unfold gc
    simp
  rw [e]
  have g := gc_pos (a := m) (b := q) (by omega)
  have eq := fdiv_eq g (gc_dvd2 m q)
  generalize q.fdiv (gc m q) = c at *
  have h1 : ((Nat.gcd m.natAbs q.natAbs : Nat) : Int) * lcmI m q = m * q := by
    unfold lcmI
    rw [← Int.natCast_mul, Nat.gcd_mul_lcm, Int.natCast_mul]
    have a1 : ((m.natAbs : Nat) : Int) = m := by omega
    have a2 : ((q.natAbs : Nat) : Int) = q := by omega
    rw [a1, a2]
  have h2 : gc m q * lcmI m q = gc m q * (m * c) := by
    show ((Nat.gcd m.natAbs q.natAbs : Nat) : Int) * lcmI m q = _
    rw [h1]
    conv => lhs; rw [eq]
    grind
  exact (Int.eq_of_mul_eq_mul_left (by omega) h2).symm
def rowOfR (xs : List (Int × Int)) (y : Int × Int) : List Int × Int := plainR (overN (lcmL (xs ++ [y])) xs) (y.1 * (lcmL (xs ++ [y])).fdiv y.2)


/-! ### made plain once more -/
theorem gcdF_great : ∀ (ns : List Int) (g d : Int), d ∣ g → (∀ x, x ∈ ns → d ∣ x) → d ∣ ns.foldl gc g
  | [], g, d, h, _ => h
  | x :: ns, g, d, h, hn => by
    refine gcdF_great ns (gc g x) d ?_ fun y hy => hn y (List.mem_cons_of_mem _ hy)
    have hx := hn x List.mem_cons_self
    unfold gc
    exact Int.natAbs_dvd.mp (Int.ofNat_dvd.mpr (Nat.dvd_gcd (Int.natAbs_dvd_natAbs.mpr h) (Int.natAbs_dvd_natAbs.mpr hx)))
theorem gcdL_great {ns : List Int} {d : Int} (h : ∀ x, x ∈ ns → d ∣ x) : d ∣ gcdL ns := gcdF_great ns 0 d (Int.dvd_zero d) h
theorem gcdL_quot {ns : List Int} (h : 0 < gcdL ns) : gcdL (ns.map (·.fdiv (gcdL ns))) = 1 := by
  have hd : ∀ x, x ∈ ns → gcdL ns ∣ x := fun x hx => gcdL_dvd hx
  have n0 : 0 ≤ gcdL (ns.map (·.fdiv (gcdL ns))) := gcdF_nonneg _ 0 (Int.le_refl 0)
  have hq : ∀ y, y ∈ ns.map (·.fdiv (gcdL ns)) → gcdL (ns.map (·.fdiv (gcdL ns))) ∣ y := fun y hy => gcdL_dvd hy
  have all : ∀ x, x ∈ ns → gcdL ns * gcdL (ns.map (·.fdiv (gcdL ns))) ∣ x := fun x hx => by
    have e := fdiv_eq h (hd x hx)
    have e2 := hq _ (List.mem_map.mpr ⟨x, hx, rfl⟩)
    generalize gcdL (ns.map (·.fdiv (gcdL ns))) = k at *
    obtain ⟨c, hc⟩ := e2
    exact ⟨c, by rw [Int.mul_assoc, ← hc]; exact e⟩
  have big := gcdL_great all
  generalize gcdL (ns.map (·.fdiv (gcdL ns))) = k at *
  generalize gcdL ns = g at *
  obtain ⟨c, hc⟩ := big
  have e : g * (k * c) = g * 1 := by rw [← Int.mul_assoc, ← hc, Int.mul_one]
  have e2 : k * c = 1 := Int.eq_of_mul_eq_mul_left (by omega) e
  have : k ∣ 1 := ⟨c, e2.symm⟩
  have := Int.le_of_dvd (by decide) this
  have : k ≠ 0 := fun z => by rw [z, Int.zero_mul] at e2; cases e2
  omega
theorem fdiv_one (x : Int) : x.fdiv 1 = x := by
  have := fdiv_of (g := 1) (c := x) (by decide)
  rw [Int.one_mul] at this
  exact this
theorem anyI_quot {a : List Int} {g : Int} (h : 0 < g) (hd : ∀ x, x ∈ a → g ∣ x) (ha : anyI a = true) : anyI (a.map (·.fdiv g)) = true := by
  obtain ⟨x, hx, h0⟩ := anyI_ex ha
  unfold anyI
  refine List.any_eq_true.mpr ⟨_, List.mem_map.mpr ⟨x, hx, rfl⟩, ?_⟩
  have e := fdiv_eq h (hd x hx)
  have : x.fdiv g ≠ 0 := fun z => by rw [z, Int.mul_zero] at e; exact h0 e
  simpa using this
theorem plainR_idem (a : List Int) (b : Int) : plainR (plainR a b).1 (plainR a b).2 = plainR a b := by
  by_cases ha : anyI a = true
  · have e : plainR a b = (a.map (·.fdiv (gcdL (a ++ [b]))), b.fdiv (gcdL (a ++ [b]))) := by unfold plainR; rw [if_pos ha]
    have g0 := gcdAB_pos (b := b) ha
    rw [e]
    have e2 : a.map (·.fdiv (gcdL (a ++ [b]))) ++ [b.fdiv (gcdL (a ++ [b]))] = (a ++ [b]).map (·.fdiv (gcdL (a ++ [b]))) := by rw [List.map_append]; rfl
    show plainR (a.map (·.fdiv (gcdL (a ++ [b])))) (b.fdiv (gcdL (a ++ [b]))) = _
    unfold plainR
    rw [if_pos (anyI_quot g0 (fun x hx => gcdL_dvd (List.mem_append_left _ hx)) ha), e2, gcdL_quot g0, List.map_map, fdiv_one]
    have : ((fun x => Int.fdiv x 1) ∘ fun x => Int.fdiv x (gcdL (a ++ [b]))) = fun x => Int.fdiv x (gcdL (a ++ [b])) := by
      funext x
      exact fdiv_one _
    rw [this]
  · have e : plainR a b = (a, if 0 ≤ b then 0 else -1) := by unfold plainR; rw [if_neg ha]
    rw [e]
    show plainR a (if 0 ≤ b then 0 else -1) = _
    unfold plainR
    rw [if_neg ha]
    by_cases hb : 0 ≤ b
    · rw [if_pos hb]; rfl
    · rw [if_neg hb]; rfl
theorem zero_rep {a : List Int} {n : Nat} (h : ¬ anyI a = true) (hl : a.length = n) : a = List.replicate n 0 := List.eq_replicate_iff.mpr ⟨hl, anyI_no h⟩
theorem any_rep (n : Nat) : anyI (List.replicate n 0) = false := by
  unfold anyI
  rw [List.any_replicate]
  simp
theorem plain_any {a : List Int} {b : Int} : anyI (plainR a b).1 = anyI a := by
  by_cases ha : anyI a = true
  · have g0 := gcdAB_pos (b := b) ha
    have e : plainR a b = (a.map (·.fdiv (gcdL (a ++ [b]))), b.fdiv (gcdL (a ++ [b]))) := by unfold plainR; rw [if_pos ha]
    rw [e, ha]
    exact anyI_quot g0 (fun x hx => gcdL_dvd (List.mem_append_left _ hx)) ha
  · unfold plainR
    rw [if_neg ha]
def alwaysB (a : List Int) (b : Int) : Bool := !anyI a && decide (0 ≤ b)
def neverB (a : List Int) (b : Int) : Bool := !anyI a && decide (b < 0)
theorem always_is {a : List Int} {b : Int} {n : Nat} (hl : a.length = n) : decide (plainR a b = (List.replicate n 0, 0)) = alwaysB a b := by
  unfold alwaysB
  by_cases ha : anyI a = true
  · rw [ha]
    have : plainR a b ≠ (List.replicate n 0, 0) := fun z => by
      have := plain_any (a := a) (b := b)
      rw [z, any_rep, ha] at this
      cases this
    rw [decide_eq_false this]
    rfl
  · have e := zero_rep ha hl
    have e2 : plainR a b = (a, if 0 ≤ b then 0 else -1) := by unfold plainR; rw [if_neg ha]
    rw [e2, Bool.eq_false_iff.mpr ha, ← e]
    by_cases hb : 0 ≤ b <;> simp [hb]
theorem never_is {a : List Int} {b : Int} {n : Nat} (hl : a.length = n) : decide (plainR a b = (List.replicate n 0, -1)) = neverB a b := by
  unfold neverB
  by_cases ha : anyI a = true
  · rw [ha]
    have : plainR a b ≠ (List.replicate n 0, -1) := fun z => by
      have := plain_any (a := a) (b := b)
      rw [z, any_rep, ha] at this
      cases this
    rw [decide_eq_false this]
    rfl
  · have e := zero_rep ha hl
    have e2 : plainR a b = (a, if 0 ≤ b then 0 else -1) := by unfold plainR; rw [if_neg ha]
    rw [e2, Bool.eq_false_iff.mpr ha, ← e]
    by_cases hb : 0 ≤ b
    · simp [hb]
    · simp [hb]
      omega
theorem plainR_len (a : List Int) (b : Int) : (plainR a b).1.length = a.length := by
  unfold plainR
  split <;> simp

end Ev
end
section
set_option Elab.async false
set_option linter.all false
set_option maxRecDepth 100000
namespace Ev
open PySem L2 PySem.Spec PyProof.Rows Dl RZ
/-! ### what may be compared -/
theorem clA {xs : List PyData} (h : ∀ x, x ∈ xs → PyData.canLay0 x = true) : PyData.canLayAll0 xs = true := by
  induction xs with
  | nil => rw [PyData.canLayAll0]
  | cons x xs ih =>
    rw [PyData.canLayAll0, h x List.mem_cons_self, ih fun y hy => h y (List.mem_cons_of_mem _ hy)]
    rfl
theorem cl_tup {xs : List PyData} (h : ∀ x, x ∈ xs → PyData.canLay0 x = true) : PyData.canLay0 (.tuple xs) = true := by
  rw [PyData.canLay0]
  exact clA h
theorem cl_lst {xs : List PyData} (h : ∀ x, x ∈ xs → PyData.canLay0 x = true) : PyData.canLay0 (.list xs) = true := by
  rw [PyData.canLay0]
  exact clA h
theorem cl_int (i : Int) : PyData.canLay0 (.int i) = true := by rw [PyData.canLay0]
theorem shp {k m : Nat} {d : PyData} (h : Sh k m d) (c : PyData.canLay0 d = true) (l : k ≤ 64) : SeqAt.shaped d = true := by
  unfold SeqAt.shaped
  rw [c, decide_eq_true (Nat.le_trans h.dep l)]
  rfl
theorem cl_ints {a : List Int} : ∀ x, x ∈ a.map PyData.int → PyData.canLay0 x = true := fun x hx => by
  obtain ⟨i, _, rfl⟩ := List.mem_map.mp hx
  exact cl_int i
theorem sh_ints {n : Nat} {a : List Int} (h : ∀ x, x ∈ a → Bit n x) (l : n ≤ 12000) : ∀ x, x ∈ a.map PyData.int → Sh 1 13000 x := fun x hx => by
  obtain ⟨i, hi, rfl⟩ := List.mem_map.mp hx
  exact Sh.int ((h i hi).mono l)
/-! equal data -/
mutual
theorem eqv_refl : ∀ d : PyData, PyData.canLay0 d = true → PyData.eqv d d = true
  | .none, _ => by rw [PyData.eqv]
  | .bool b, _ => by rw [PyData.eqv]; simp
  | .int i, _ => by rw [PyData.eqv]; simp
  | .str x, _ => by rw [PyData.eqv]; simp
  | .list xs, h => by rw [PyData.eqv]; rw [PyData.canLay0] at h; exact eqvA_refl xs h
  | .tuple xs, h => by rw [PyData.eqv]; rw [PyData.canLay0] at h; exact eqvA_refl xs h
  | .dict _, h => by rw [PyData.canLay0] at h; cases h
theorem eqvA_refl : ∀ xs : List PyData, PyData.canLayAll0 xs = true → PyData.eqvAll xs xs = true
  | [], _ => by rw [PyData.eqvAll]
  | x :: xs, h => by
    rw [PyData.canLayAll0] at h
    have h2 := Bool.and_eq_true_iff.mp h
    rw [PyData.eqvAll, eqv_refl x h2.1, eqvA_refl xs h2.2]
    rfl
end
theorem eqv_tuple {xs ys : List PyData} : PyData.eqv (.tuple xs) (.tuple ys) = PyData.eqvAll xs ys := by rw [PyData.eqv]
theorem eqv_list {xs ys : List PyData} : PyData.eqv (.list xs) (.list ys) = PyData.eqvAll xs ys := by rw [PyData.eqv]
theorem eqv_int {i j : Int} : PyData.eqv (.int i) (.int j) = (i == j) := by rw [PyData.eqv]
theorem eqvA_cons {x y : PyData} {xs ys : List PyData} : PyData.eqvAll (x :: xs) (y :: ys) = (PyData.eqv x y && PyData.eqvAll xs ys) := by rw [PyData.eqvAll]
theorem eqvA_nil : PyData.eqvAll [] [] = true := by rw [PyData.eqvAll]
theorem eqvA_nc {y : PyData} {ys : List PyData} : PyData.eqvAll [] (y :: ys) = false := by rw [PyData.eqvAll]
theorem eqvA_cn {y : PyData} {ys : List PyData} : PyData.eqvAll (y :: ys) [] = false := by rw [PyData.eqvAll]
theorem eqvA_ints : ∀ {a b : List Int}, PyData.eqvAll (a.map PyData.int) (b.map PyData.int) = decide (a = b)
  | [], [] => by rw [List.map_nil, eqvA_nil]; rfl
  | [], y :: b => by rw [List.map_nil, List.map_cons, eqvA_nc]; rfl
  | x :: a, [] => by rw [List.map_nil, List.map_cons, eqvA_cn]; rfl
  | x :: a, y :: b => by
    rw [List.map_cons, List.map_cons, eqvA_cons, eqv_int, eqvA_ints]
    by_cases h : x = y <;> by_cases g : a = b <;> simp [h, g]
/-! drawn ints -/
def IsI (n : Nat) (d : PyData) : Prop := ∃ x : Int, Bit n x ∧ d = .int x
theorem isI_list {n : Nat} : ∀ (ds : List PyData), (∀ d, d ∈ ds → IsI n d) → ∃ xs : List Int, ds = xs.map PyData.int ∧ ∀ x, x ∈ xs → Bit n x
  | [], _ => ⟨[], rfl, fun _ h => by cases h⟩
  | d :: ds, h => by
    obtain ⟨xs, e, hx⟩ := isI_list ds fun y hy => h y (List.mem_cons_of_mem _ hy)
    obtain ⟨x, fx, e2⟩ := h d List.mem_cons_self
    refine ⟨x :: xs, by rw [e, e2]; rfl, fun y hy => ?_⟩
    rcases List.mem_cons.mp hy with q | q
    · exact q ▸ fx
    · exact hx y q
def nzF (d : PyData) : Option PyData := match d with
  | .int x => if x != 0 then some (.int x) else none
  | _ => none
theorem nz_is : ∀ a : List Int, (a.map PyData.int).filterMap nzF = (a.filter (· != 0)).map PyData.int
  | [] => rfl
  | x :: a => by
    rw [List.map_cons, List.filterMap_cons, List.filter_cons]
    unfold nzF
    by_cases h : (x != 0) = true
    · simp only [h, if_true, List.map_cons]
      rw [← nz_is a]
      rfl
    · simp only [h]
      exact nz_is a
theorem nz_any (a : List Int) : (a.filter (· != 0)) = [] ↔ ¬ anyI a = true := by
  unfold anyI
  rw [List.filter_eq_nil_iff, List.any_eq_true]
  constructor
  · rintro h ⟨x, hx, h2⟩
    exact h x hx h2
  · intro h x hx h2
    exact h ⟨x, hx, h2⟩
theorem odI_eq {K : PySem.W.Frag} {x y : PyData} {Q : PyData → Prop} (b : Bool) (hx : SeqAt.shaped x = true) (hy : SeqAt.shaped y = true) (e : PyData.eqv x y = b) (q : Q (.bool b)) : OD (rEqA K) x y Q := od_eqD' ⟨hx, hy, by rw [e]; exact q⟩
theorem ge_mul {n m : Nat} {i j : Int} (h : Bit n i) (g : Bit m j) (l : n + m ≤ 900000 := by decide) : CMulA i j := h.mulOk g l
theorem sm {x : Int} (h : x.natAbs < 2 ^ 8 := by omega) : Bit 8 x := h
theorem pl_eq : pl' = pl := rfl
/-! what the law's own reckoning comes to -/
theorem zip_snoc {α β : Type} : ∀ {a : List α} {b : List β} {i : Nat} {x : α} {y : β}, a[i]? = some x → b[i]? = some y → List.zip (a.take (i + 1)) (b.take (i + 1)) = List.zip (a.take i) (b.take i) ++ [(x, y)]
  | [], _, _, _, _, h, _ => by simp at h
  | _ :: _, [], _, _, _, _, h => by simp at h
  | x :: a, y :: b, 0, u, v, h, g => by simp at h g; subst h; subst g; rfl
  | x :: a, y :: b, i + 1, u, v, h, g => by
    have := zip_snoc (a := a) (b := b) (i := i) (x := u) (y := v) (by simpa using h) (by simpa using g)
    simp only [List.take_succ_cons, List.zip_cons_cons, this]
    rfl
theorem reach_step {a : List Int} {xs : List (Int × Int)} {i : Nat} {c : Int} {x : Int × Int} (h : ∀ x, x ∈ xs → 0 < x.2) (ha : a[i]? = some c) (hx : xs[i]? = some x) : pl (reachR (a.take i) (xs.take i)) (lst (c * x.1) x.2) = reachR (a.take (i + 1)) (xs.take (i + 1)) := by
  have hp : ∀ j, ∀ y, y ∈ xs.take j → 0 < y.2 := fun j y hy => h y (List.mem_of_mem_take hy)
  rw [← reach_is (hp i), ← reach_is (hp (i + 1)), zip_snoc ha hx]
  unfold reachF
  rw [List.foldl_append]
  rfl
theorem lcm_step {xs : List (Int × Int)} {i : Nat} {x : Int × Int} (h : ∀ x, x ∈ xs → 0 < x.2) (hx : xs[i]? = some x) : lcmL (xs.take i) * x.2.fdiv (gcdL [lcmL (xs.take i), x.2]) = lcmL (xs.take (i + 1)) := by
  have hp : ∀ y, y ∈ xs.take i → 0 < y.2 := fun y hy => h y (List.mem_of_mem_take hy)
  rw [lcm_way (lcmL_pos hp) (h x (List.mem_of_getElem? hx)), List.take_add_one, hx]
  unfold lcmL lcmF
  rw [List.foldl_append]
  rfl
end Ev
end
section
set_option Elab.async false
set_option linter.all false
set_option maxRecDepth 100000
namespace Ev
open PySem L2 PySem.Spec PyProof.Rows Dl RZ

/-! ### rows and points moved -/
theorem gc_scale {g a b : Int} (h : 0 < g) : gc (g * a) (g * b) = g * gc a b := by
  unfold gc
  rw [Int.natAbs_mul, Int.natAbs_mul, Nat.gcd_mul_left, Int.natCast_mul]
  have : ((g.natAbs : Nat) : Int) = g := by omega
  rw [this]
theorem gcdF_scale {g : Int} (h : 0 < g) : ∀ (ns : List Int) (k : Int), (ns.map (g * ·)).foldl gc (g * k) = g * ns.foldl gc k
  | [], _ => rfl
  | n :: ns, k => by
    rw [List.map_cons, List.foldl_cons, List.foldl_cons, gc_scale h]
    exact gcdF_scale h ns _
theorem gcdL_scale {g : Int} (h : 0 < g) (ns : List Int) : gcdL (ns.map (g * ·)) = g * gcdL ns := by
  have := gcdF_scale h ns 0
  rw [Int.mul_zero] at this
  exact this
theorem anyI_scale {g : Int} (h : 0 < g) (a : List Int) : anyI (a.map (g * ·)) = anyI a := by
  unfold anyI
  rw [List.any_map]
  congr 1
  funext x
  show (g * x != 0) = (x != 0)
  by_cases z : x = 0
  · subst z; rw [Int.mul_zero]
  · have : g * x ≠ 0 := Int.mul_ne_zero (by omega) z
    rw [bne_iff_ne.mpr this, bne_iff_ne.mpr z]
theorem fdiv_scale {g x k : Int} (h : 0 < g) (hk : 0 < k) (hd : k ∣ x) : (g * x).fdiv (g * k) = x.fdiv k := by
  obtain ⟨c, rfl⟩ := hd
  rw [← Int.mul_assoc, fdiv_of (Int.ne_of_gt (Int.mul_pos h hk)), fdiv_of (by omega)]
theorem plainR_scale {g : Int} (h : 0 < g) (a : List Int) (b : Int) : plainR (a.map (g * ·)) (g * b) = plainR a b := by
  unfold plainR
  rw [anyI_scale h]
  have e : a.map (g * ·) ++ [g * b] = (a ++ [b]).map (g * ·) := by rw [List.map_append]; rfl
  rw [e, gcdL_scale h]
  by_cases ha : anyI a = true
  · rw [if_pos ha, if_pos ha]
    have g0 := gcdAB_pos (b := b) ha
    have hd : ∀ x, x ∈ a ++ [b] → gcdL (a ++ [b]) ∣ x := fun x hx => gcdL_dvd hx
    rw [fdiv_scale h g0 (hd b (List.mem_append_right _ (List.mem_singleton.mpr rfl))), List.map_map]
    congr 1
    refine List.map_congr_left fun x hx => ?_
    exact fdiv_scale h g0 (hd x (List.mem_append_left _ hx))
  · rw [if_neg ha, if_neg ha]
    have z := anyI_no ha
    have e1 : a.map (g * ·) = a := by
      conv => rhs; rw [← List.map_id a]
      refine List.map_congr_left fun x hx => ?_
      rw [z x hx, Int.mul_zero]
      rfl
    rw [e1]
    congr 1
    by_cases hb : 0 ≤ b
    · rw [if_pos hb, if_pos (Int.mul_nonneg (by omega) hb)]
    · rw [if_neg hb, if_neg (show ¬ 0 ≤ g * b by have := Int.mul_neg_of_pos_of_neg h (show b < 0 by omega); omega)]
theorem lst_idem {p q : Int} (h : 0 < q) : lst (lst p q).1 (lst p q).2 = lst p q := by
  obtain ⟨g, g0, e1, e2, b0⟩ := lst_mk (p := p) h
  generalize hz : lst p q = z at *
  have e : lst p q = lst z.1 z.2 := by
    rw [e1, e2, lst_scale b0 g0]
  exact e.symm.trans hz
/-- told without a common divisor -/
def Nf (x : Int × Int) : Prop := lst x.1 x.2 = x
theorem lst_nf {p q : Int} (h : 0 < q) : Nf (lst p q) := lst_idem h
theorem lcmI_one {q : Int} (h : 0 < q) : lcmI 1 q = q := by
  unfold lcmI
  rw [show (1 : Int).natAbs = 1 from rfl]
  have : Nat.lcm 1 q.natAbs = q.natAbs := by simp [Nat.lcm]
  rw [this]
  omega
def onesF (a : List Int) : List (Int × Int) := a.map fun x => (x, 1)
theorem lcmF_ones : ∀ (a : List Int) (y : Int × Int), 0 < y.2 → lcmF 1 (onesF a ++ [y]) = y.2
  | [], y, h => lcmI_one h
  | x :: a, y, h => by
    show lcmF (lcmI 1 1) (onesF a ++ [y]) = y.2
    rw [lcmI_one (by decide)]
    exact lcmF_ones a y h
theorem lcmL_ones {a : List Int} {y : Int × Int} (h : 0 < y.2) : lcmL (onesF a ++ [y]) = y.2 := lcmF_ones a y h
theorem fdiv_self {q : Int} (h : 0 < q) : q.fdiv q = 1 := by
  have := fdiv_of (g := q) (c := 1) (by omega)
  rw [Int.mul_one] at this
  exact this
theorem rowOf_ones {a : List Int} {y : Int × Int} (h : 0 < y.2) : rowOfR (onesF a) y = plainR (a.map (· * y.2)) y.1 := by
  unfold rowOfR
  rw [lcmL_ones h, fdiv_self h, Int.mul_one]
  congr 1
  unfold overN onesF
  rw [List.map_map]
  refine List.map_congr_left fun x _ => ?_
  show x * y.2.fdiv 1 = x * y.2
  rw [fdiv_one]
/-- a row by a made fraction -/
theorem rowOf_lst {a : List Int} {p q : Int} (h : 0 < q) : rowOfR (onesF a) (lst p q) = plainR (a.map (· * q)) p := by
  obtain ⟨g, g0, e1, e2, b0⟩ := lst_mk (p := p) h
  rw [rowOf_ones b0]
  generalize lst p q = z at *
  rw [show plainR (a.map (· * q)) p = plainR ((a.map (· * z.2)).map (g * ·)) (g * z.1) by
    congr 1
    · rw [List.map_map]
      refine List.map_congr_left fun x _ => ?_
      show x * q = g * (x * z.2)
      rw [e2]; grind
    · rw [e1, Int.mul_comm]]
  exact (plainR_scale g0 _ _).symm
/-! sums -/
theorem dot_nil (b : List Int) : dotI [] b = 0 := rfl
theorem dot_cons (x y : Int) (a b : List Int) : dotI (x :: a) (y :: b) = x * y + dotI a b := rfl
theorem dot_add : ∀ (a u v : List Int), u.length = v.length → dotI a (List.zipWith (· + ·) u v) = dotI a u + dotI a v
  | [], _, _, _ => rfl
  | _ :: _, [], [], _ => rfl
  | x :: a, y :: u, z :: v, h => by
    show x * (y + z) + dotI a (List.zipWith (· + ·) u v) = x * y + dotI a u + (x * z + dotI a v)
    rw [dot_add a u v (by simpa using h)]
    grind
theorem dot_scaleR {g : Int} : ∀ (a b : List Int), dotI a (b.map (g * ·)) = g * dotI a b
  | [], _ => by simp [dotI]
  | _ :: _, [] => by simp [dotI]
  | x :: a, y :: b => by
    show x * (g * y) + dotI a (b.map (g * ·)) = g * (x * y + dotI a b)
    rw [dot_scaleR a b]
    grind
theorem dot_app : ∀ (a b u v : List Int), a.length = u.length → dotI (a ++ b) (u ++ v) = dotI a u + dotI b v
  | [], b, [], v, _ => by rw [dot_nil, Int.zero_add]; rfl
  | x :: a, b, y :: u, v, h => by
    show x * y + dotI (a ++ b) (u ++ v) = x * y + dotI a u + dotI b v
    rw [dot_app a b u v (by simpa using h)]
    omega
theorem dot_neg2 : ∀ (a u : List Int), dotI (a.map (- ·)) (u.map (- ·)) = dotI a u
  | [], _ => rfl
  | _ :: _, [] => rfl
  | x :: a, y :: u => by
    show -x * -y + dotI (a.map (- ·)) (u.map (- ·)) = x * y + dotI a u
    rw [dot_neg2 a u, Int.neg_mul_neg]
theorem sum_perm {l m : List Int} (h : l.Perm m) : l.sum = m.sum := by
  induction h with
  | nil => rfl
  | cons x _ ih => rw [List.sum_cons, List.sum_cons, ih]
  | swap x y l => rw [List.sum_cons, List.sum_cons, List.sum_cons, List.sum_cons]; omega
  | trans _ _ a b => exact a.trans b
theorem dot_pick (o : List Nat) (a u : List Int) : dotI (o.map (a.getD · 0)) (o.map (u.getD · 0)) = (o.map fun k => a.getD k 0 * u.getD k 0).sum := by
  induction o with
  | nil => rfl
  | cons k o ih =>
    rw [List.map_cons, List.map_cons, List.map_cons, dot_cons, List.sum_cons, ih]
theorem dot_range : ∀ (a u : List Int), a.length = u.length → dotI a u = ((List.range a.length).map fun k => a.getD k 0 * u.getD k 0).sum
  | [], [], _ => rfl
  | x :: a, y :: u, h => by
    rw [dot_cons, dot_range a u (by simpa using h), List.length_cons, List.range_succ_eq_map, List.map_cons, List.sum_cons, List.map_map]
    rfl
theorem dot_perm {o : List Nat} {a u : List Int} (hl : a.length = u.length) (h : o.Perm (List.range a.length)) : dotI (o.map (a.getD · 0)) (o.map (u.getD · 0)) = dotI a u := by
  rw [dot_pick, dot_range a u hl]
  exact sum_perm (h.map _)
/-! which points a row bars, by any denominator for all -/
theorem overN_mul {L c : Int} : ∀ {xs : List (Int × Int)}, (∀ x, x ∈ xs → 0 < x.2) → (∀ x, x ∈ xs → x.2 ∣ L) → overN (c * L) xs = (overN L xs).map (c * ·)
  | [], _, _ => rfl
  | x :: xs, h, hd => by
    have e := fdiv_eq (h x List.mem_cons_self) (hd x List.mem_cons_self)
    show x.1 * (c * L).fdiv x.2 :: overN (c * L) xs = c * (x.1 * L.fdiv x.2) :: (overN L xs).map (c * ·)
    rw [overN_mul (fun y hy => h y (List.mem_cons_of_mem _ hy)) fun y hy => hd y (List.mem_cons_of_mem _ hy)]
    congr 1
    have e2 : (c * L).fdiv x.2 = c * L.fdiv x.2 := by
      generalize L.fdiv x.2 = k at *
      rw [e, show c * (x.2 * k) = x.2 * (c * k) by grind]
      exact fdiv_of (by have := h x List.mem_cons_self; omega)
    rw [e2]
    grind
theorem lcmF_least {M : Int} : ∀ (xs : List (Int × Int)) (m : Int), m ∣ M → (∀ x, x ∈ xs → x.2 ∣ M) → lcmF m xs ∣ M
  | [], _, h, _ => h
  | x :: xs, m, h, hx => by
    refine lcmF_least xs (lcmI m x.2) ?_ fun y hy => hx y (List.mem_cons_of_mem _ hy)
    unfold lcmI
    exact Int.natAbs_dvd.mp (Int.natAbs_dvd_natAbs.mp (by rw [Int.natAbs_natCast]; simpa using Nat.lcm_dvd (Int.natAbs_dvd_natAbs.mpr h) (Int.natAbs_dvd_natAbs.mpr (hx x List.mem_cons_self))))
theorem broken_at {a : List Int} {b M : Int} {xs : List (Int × Int)} (h : ∀ x, x ∈ xs → 0 < x.2) (hM : 0 < M) (hd : ∀ x, x ∈ xs → x.2 ∣ M) : brokenB a b xs = decide (b * M < dotI a (overN M xs)) := by
  have hL := lcmL_pos h
  obtain ⟨c, hc⟩ := lcmF_least xs 1 (Int.one_dvd M) hd
  have hc' : M = c * lcmL xs := by rw [Int.mul_comm]; exact hc
  have c0 : 0 < c := by
    refine pos_right hL (d := c) ?_
    rw [Int.mul_comm, ← hc']
    exact hM
  unfold brokenB
  rw [decide_eq_decide, hc', overN_mul h fun x hx => lcmL_dvd h hx, dot_scaleR]
  show b * lcmL xs < dotI a (wholeN xs) ↔ b * (c * lcmL xs) < c * dotI a (wholeN xs)
  rw [show b * (c * lcmL xs) = c * (b * lcmL xs) by grind]
  exact (Int.mul_lt_mul_left c0).symm
def plF (x y : List (Int × Int)) : List (Int × Int) := List.zipWith pl' x y
theorem lst_dvd {p q M : Int} (h : 0 < q) (hd : q ∣ M) : (lst p q).2 ∣ M := by
  obtain ⟨g, g0, e1, e2, b0⟩ := lst_mk (p := p) h
  generalize lst p q = z at *
  exact Int.dvd_trans ⟨g, e2⟩ hd
theorem lst_over {p q M : Int} (h : 0 < q) (hd : q ∣ M) : (lst p q).1 * M.fdiv (lst p q).2 = p * M.fdiv q := by
  obtain ⟨g, g0, e1, e2, b0⟩ := lst_mk (p := p) h
  have hd2 := lst_dvd (p := p) h hd
  generalize lst p q = z at *
  have e3 := fdiv_eq h hd
  have e4 := fdiv_eq b0 hd2
  generalize M.fdiv q = k at *
  generalize M.fdiv z.2 = j at *
  have : z.2 * (g * k) = z.2 * j := by rw [← e4, e3, e2]; grind
  have := Int.eq_of_mul_eq_mul_left (by omega) this
  rw [e1, ← this]
  grind
theorem overN_pl {M : Int} : ∀ {x y : List (Int × Int)}, (∀ z, z ∈ x → 0 < z.2) → (∀ z, z ∈ y → 0 < z.2) → (∀ z, z ∈ x → ∀ u, u ∈ y → z.2 * u.2 ∣ M) → overN M (plF x y) = List.zipWith (· + ·) (overN M x) (overN M y)
  | [], _, _, _, _ => rfl
  | _ :: _, [], _, _, _ => rfl
  | z :: x, u :: y, hx, hy, hd => by
    have z0 := hx z List.mem_cons_self
    have u0 := hy u List.mem_cons_self
    have d0 := hd z List.mem_cons_self u List.mem_cons_self
    show (pl' z u).1 * M.fdiv (pl' z u).2 :: overN M (plF x y) = (z.1 * M.fdiv z.2 + u.1 * M.fdiv u.2) :: List.zipWith (· + ·) (overN M x) (overN M y)
    rw [overN_pl (fun v hv => hx v (List.mem_cons_of_mem _ hv)) (fun v hv => hy v (List.mem_cons_of_mem _ hv)) fun v hv w hw => hd v (List.mem_cons_of_mem _ hv) w (List.mem_cons_of_mem _ hw)]
    congr 1
    unfold pl'
    rw [lst_over (Int.mul_pos z0 u0) d0]
    have e := fdiv_eq (Int.mul_pos z0 u0) d0
    have e1 := fdiv_eq z0 (Int.dvd_trans (Int.dvd_mul_right _ _) d0)
    have e2 := fdiv_eq u0 (Int.dvd_trans (Int.dvd_mul_left _ _) d0)
    generalize M.fdiv (z.2 * u.2) = k at *
    generalize M.fdiv z.2 = j at *
    generalize M.fdiv u.2 = l at *
    have j0 : z.2 * j = z.2 * (u.2 * k) := by rw [← e1, e]; grind
    have l0 : u.2 * l = u.2 * (z.2 * k) := by rw [← e2, e]; grind
    have j1 := Int.eq_of_mul_eq_mul_left (by omega) j0
    have l1 := Int.eq_of_mul_eq_mul_left (by omega) l0
    rw [j1, l1]
    grind
theorem overN_len (M : Int) (xs : List (Int × Int)) : (overN M xs).length = xs.length := List.length_map _
theorem plF_pos {x y : List (Int × Int)} (hx : ∀ z, z ∈ x → 0 < z.2) (hy : ∀ z, z ∈ y → 0 < z.2) : ∀ z, z ∈ plF x y → 0 < z.2 ∧ ∃ u, u ∈ x ∧ ∃ v, v ∈ y ∧ z = pl' u v := fun z hz => by
  obtain ⟨i, hi⟩ := List.getElem?_of_mem hz
  unfold plF at hi
  rw [List.getElem?_zipWith] at hi
  cases e1 : x[i]? with
  | none => rw [e1] at hi; cases y[i]? <;> cases hi
  | some u =>
    cases e2 : y[i]? with
    | none => rw [e1, e2] at hi; cases hi
    | some v =>
      rw [e1, e2] at hi
      cases hi
      have u0 := hx u (List.mem_of_getElem? e1)
      have v0 := hy v (List.mem_of_getElem? e2)
      obtain ⟨_, _, _, _, b0⟩ := lst_mk (p := u.1 * v.2 + v.1 * u.2) (Int.mul_pos u0 v0)
      exact ⟨b0, u, List.mem_of_getElem? e1, v, List.mem_of_getElem? e2, rfl⟩
/-- (shifted) -/
theorem broken_shift {a : List Int} {b : Int} {x p : List (Int × Int)} (hx : ∀ z, z ∈ x → 0 < z.2) (hp : ∀ z, z ∈ p → 0 < z.2) (hl : x.length = p.length) :
    brokenB (a.map (· * lcmL p)) (b * lcmL p + dotI a (wholeN p)) (plF x p) = brokenB a b x := by
  have Lx := lcmL_pos hx
  have Lp := lcmL_pos hp
  have dx : ∀ z, z ∈ x → z.2 ∣ lcmL x := fun z hz => lcmL_dvd hx hz
  have dp : ∀ z, z ∈ p → z.2 ∣ lcmL p := fun z hz => lcmL_dvd hp hz
  have dxp : ∀ z, z ∈ x → ∀ u, u ∈ p → z.2 * u.2 ∣ lcmL x * lcmL p := fun z hz u hu => Int.mul_dvd_mul (dx z hz) (dp u hu)
  have M0 := Int.mul_pos Lx Lp
  rw [broken_at (fun z hz => (plF_pos hx hp z hz).1) M0 (fun z hz => by
    obtain ⟨_, u, hu, v, hv, rfl⟩ := plF_pos hx hp z hz
    exact lst_dvd (Int.mul_pos (hx u hu) (hp v hv)) (dxp u hu v hv)), broken_at hx M0 fun z hz => Int.dvd_trans (dx z hz) (Int.dvd_mul_right _ _)]
  rw [overN_pl hx hp dxp, decide_eq_decide]
  have e1 : overN (lcmL x * lcmL p) p = (wholeN p).map (lcmL x * ·) := overN_mul hp dp
  have e2 : a.map (· * lcmL p) = a.map (lcmL p * ·) := List.map_congr_left fun z _ => Int.mul_comm _ _
  rw [e2, dot_scale, dot_add _ _ _ (by rw [overN_len, overN_len]; exact hl), e1, dot_scaleR]
  generalize dotI a (overN (lcmL x * lcmL p) x) = S
  generalize dotI a (wholeN p) = D
  generalize lcmL x = u at *
  generalize lcmL p = v at *
  have e3 : (b * v + D) * (u * v) = v * (b * (u * v)) + v * (u * D) := by grind
  have e4 : v * (S + u * D) = v * S + v * (u * D) := by grind
  rw [e3, e4]
  constructor
  · intro h
    have : v * (b * (u * v)) < v * S := by omega
    exact (Int.mul_lt_mul_left Lp).mp this
  · intro h
    have := (Int.mul_lt_mul_left Lp).mpr h
    omega
def tm' (x y : Int × Int) : Int × Int := lst (x.1 * y.1) (x.2 * y.2)
/-- (scaled) -/
theorem broken_scale {a : List Int} {b : Int} {x : List (Int × Int)} {t : Int × Int} (hx : ∀ z, z ∈ x → 0 < z.2) (t1 : 0 < t.1) (t2 : 0 < t.2) :
    brokenB (a.map (· * t.2)) (b * t.1) (x.map (tm' t)) = brokenB a b x := by
  have Lx := lcmL_pos hx
  have dx : ∀ z, z ∈ x → z.2 ∣ lcmL x := fun z hz => lcmL_dvd hx hz
  have M0 := Int.mul_pos t2 Lx
  have dm : ∀ z, z ∈ x → t.2 * z.2 ∣ t.2 * lcmL x := fun z hz => Int.mul_dvd_mul (Int.dvd_refl _) (dx z hz)
  rw [broken_at (fun z hz => by
    obtain ⟨u, hu, rfl⟩ := List.mem_map.mp hz
    exact (lst_mk (Int.mul_pos t2 (hx u hu))).elim fun _ q => q.2.2.2) M0 (fun z hz => by
    obtain ⟨u, hu, rfl⟩ := List.mem_map.mp hz
    exact lst_dvd (Int.mul_pos t2 (hx u hu)) (dm u hu)), broken_at hx Lx dx, decide_eq_decide]
  have e1 : overN (t.2 * lcmL x) (x.map (tm' t)) = (overN (lcmL x) x).map (t.1 * ·) := by
    unfold overN
    rw [List.map_map, List.map_map]
    refine List.map_congr_left fun z hz => ?_
    show (tm' t z).1 * (t.2 * lcmL x).fdiv (tm' t z).2 = t.1 * (z.1 * (lcmL x).fdiv z.2)
    unfold tm'
    rw [lst_over (Int.mul_pos t2 (hx z hz)) (dm z hz), fdiv_scale t2 (hx z hz) (dx z hz)]
    grind
  have e2 : a.map (· * t.2) = a.map (t.2 * ·) := List.map_congr_left fun z _ => Int.mul_comm _ _
  rw [e1, e2, dot_scale, dot_scaleR]
  have e3 : b * t.1 * (t.2 * lcmL x) = t.2 * (t.1 * (b * lcmL x)) := by grind
  rw [e3]
  constructor
  · intro h
    exact (Int.mul_lt_mul_left t1).mp ((Int.mul_lt_mul_left t2).mp h)
  · intro h
    exact (Int.mul_lt_mul_left t2).mpr ((Int.mul_lt_mul_left t1).mpr h)
/-- (mirrored) -/
theorem broken_mirror {a : List Int} {b : Int} {x : List (Int × Int)} (hx : ∀ z, z ∈ x → 0 < z.2) : brokenB (a.map (- ·)) b (x.map fun z => (0 - z.1, z.2)) = brokenB a b x := by
  have Lx := lcmL_pos hx
  have dx : ∀ z, z ∈ x → z.2 ∣ lcmL x := fun z hz => lcmL_dvd hx hz
  rw [broken_at (fun z hz => by
    obtain ⟨u, hu, rfl⟩ := List.mem_map.mp hz
    exact hx u hu) Lx (fun z hz => by
    obtain ⟨u, hu, rfl⟩ := List.mem_map.mp hz
    exact dx u hu), broken_at hx Lx dx, decide_eq_decide]
  have e1 : overN (lcmL x) (x.map fun z => (0 - z.1, z.2)) = (overN (lcmL x) x).map (- ·) := by
    unfold overN
    rw [List.map_map, List.map_map]
    refine List.map_congr_left fun z _ => ?_
    show (0 - z.1) * (lcmL x).fdiv z.2 = -(z.1 * (lcmL x).fdiv z.2)
    rw [Int.zero_sub, Int.neg_mul]
  rw [e1, dot_neg2]
/-- (placed) -/
theorem broken_place {a : List Int} {b : Int} {x : List (Int × Int)} {o : List Nat} (hx : ∀ z, z ∈ x → 0 < z.2) (hl : a.length = x.length) (ho : o.Perm (List.range a.length)) : brokenB (o.map (a.getD · 0)) b (o.map (x.getD · (0, 1))) = brokenB a b x := by
  have Lx := lcmL_pos hx
  have dx : ∀ z, z ∈ x → z.2 ∣ lcmL x := fun z hz => lcmL_dvd hx hz
  have inx : ∀ k, k ∈ o → ∃ z, x[k]? = some z ∧ x.getD k (0, 1) = z := fun k hk => by
    have hk2 : k < x.length := by rw [← hl]; exact List.mem_range.mp (ho.mem_iff.mp hk)
    exact ⟨x[k], List.getElem?_eq_getElem hk2, by rw [List.getD_eq_getElem?_getD, List.getElem?_eq_getElem hk2]; rfl⟩
  rw [broken_at (fun z hz => by
    obtain ⟨k, hk, rfl⟩ := List.mem_map.mp hz
    obtain ⟨u, hu, e⟩ := inx k hk
    rw [e]; exact hx u (List.mem_of_getElem? hu)) Lx (fun z hz => by
    obtain ⟨k, hk, rfl⟩ := List.mem_map.mp hz
    obtain ⟨u, hu, e⟩ := inx k hk
    rw [e]; exact dx u (List.mem_of_getElem? hu)), broken_at hx Lx dx, decide_eq_decide]
  have e1 : overN (lcmL x) (o.map (x.getD · (0, 1))) = o.map ((overN (lcmL x) x).getD · 0) := by
    unfold overN
    rw [List.map_map]
    refine List.map_congr_left fun k hk => ?_
    obtain ⟨u, hu, e⟩ := inx k hk
    show (x.getD k (0, 1)).1 * (lcmL x).fdiv (x.getD k (0, 1)).2 = (x.map fun z => z.1 * (lcmL x).fdiv z.2).getD k 0
    rw [e, List.getD_eq_getElem?_getD, List.getElem?_map, hu]
    rfl
  rw [e1, dot_perm (by rw [overN_len]; exact hl) ho]
/-- (products) -/
theorem broken_front {a : List Int} {b : Int} {x y : List (Int × Int)} (hx : ∀ z, z ∈ x → 0 < z.2) (hy : ∀ z, z ∈ y → 0 < z.2) (hl : a.length = x.length) (m : Nat) : brokenB (a ++ List.replicate m 0) b (x ++ y) = brokenB a b x := by
  have Lx := lcmL_pos hx
  have Ly := lcmL_pos hy
  have M0 := Int.mul_pos Lx Ly
  have dx : ∀ z, z ∈ x → z.2 ∣ lcmL x * lcmL y := fun z hz => Int.dvd_trans (lcmL_dvd hx hz) (Int.dvd_mul_right _ _)
  have dy : ∀ z, z ∈ y → z.2 ∣ lcmL x * lcmL y := fun z hz => Int.dvd_trans (lcmL_dvd hy hz) (Int.dvd_mul_left _ _)
  rw [broken_at (fun z hz => (List.mem_append.mp hz).elim (hx z) (hy z)) M0 (fun z hz => (List.mem_append.mp hz).elim (dx z) (dy z)), broken_at hx M0 dx]
  have e1 : overN (lcmL x * lcmL y) (x ++ y) = overN (lcmL x * lcmL y) x ++ overN (lcmL x * lcmL y) y := List.map_append
  rw [e1, dot_app _ _ _ _ (by rw [overN_len]; exact hl), dot_zero (List.replicate m 0) _ fun z hz => List.eq_of_mem_replicate hz, Int.add_zero]
theorem broken_behind {a : List Int} {b : Int} {x y : List (Int × Int)} (hx : ∀ z, z ∈ x → 0 < z.2) (hy : ∀ z, z ∈ y → 0 < z.2) {m : Nat} (hl : m = x.length) : brokenB (List.replicate m 0 ++ a) b (x ++ y) = brokenB a b y := by
  have Lx := lcmL_pos hx
  have Ly := lcmL_pos hy
  have M0 := Int.mul_pos Lx Ly
  have dx : ∀ z, z ∈ x → z.2 ∣ lcmL x * lcmL y := fun z hz => Int.dvd_trans (lcmL_dvd hx hz) (Int.dvd_mul_right _ _)
  have dy : ∀ z, z ∈ y → z.2 ∣ lcmL x * lcmL y := fun z hz => Int.dvd_trans (lcmL_dvd hy hz) (Int.dvd_mul_left _ _)
  rw [broken_at (fun z hz => (List.mem_append.mp hz).elim (hx z) (hy z)) M0 (fun z hz => (List.mem_append.mp hz).elim (dx z) (dy z)), broken_at hy M0 dy]
  have e1 : overN (lcmL x * lcmL y) (x ++ y) = overN (lcmL x * lcmL y) x ++ overN (lcmL x * lcmL y) y := List.map_append
  rw [e1, dot_app _ _ _ _ (by rw [overN_len, List.length_replicate]; exact hl), dot_zero (List.replicate m 0) _ fun z hz => List.eq_of_mem_replicate hz, Int.zero_add]
/-! sums of fractions in another sequence -/
def ndF : List (Int × Int) → Int × Int
  | [] => (0, 1)
  | x :: l => (x.1 * (ndF l).2 + (ndF l).1 * x.2, x.2 * (ndF l).2)
theorem nd_pos : ∀ {l : List (Int × Int)}, (∀ z, z ∈ l → 0 < z.2) → 0 < (ndF l).2
  | [], _ => by decide
  | x :: l, h => Int.mul_pos (h x List.mem_cons_self) (nd_pos fun z hz => h z (List.mem_cons_of_mem _ hz))
theorem fold_pl : ∀ {l : List (Int × Int)} {s t : Int}, 0 < t → (∀ z, z ∈ l → 0 < z.2) → (∀ z, z ∈ l → Nf z) → l.foldl pl' (lst s t) = lst (s * (ndF l).2 + (ndF l).1 * t) (t * (ndF l).2)
  | [], s, t, _, _, _ => by
    show lst s t = lst (s * 1 + 0 * t) (t * 1)
    rw [Int.mul_one, Int.mul_one, Int.zero_mul, Int.add_zero]
  | x :: l, s, t, ht, h, hn => by
    have x0 := h x List.mem_cons_self
    have xn : lst x.1 x.2 = x := hn x List.mem_cons_self
    show l.foldl pl' (pl' (lst s t) x) = _
    conv => lhs; rw [← xn]
    rw [pl_lst ht x0, fold_pl (Int.mul_pos ht x0) (fun z hz => h z (List.mem_cons_of_mem _ hz)) fun z hz => hn z (List.mem_cons_of_mem _ hz)]
    show lst ((s * x.2 + x.1 * t) * (ndF l).2 + (ndF l).1 * (t * x.2)) (t * x.2 * (ndF l).2) = lst (s * (x.2 * (ndF l).2) + (x.1 * (ndF l).2 + (ndF l).1 * x.2) * t) (t * (x.2 * (ndF l).2))
    congr 1
    · grind
    · grind
theorem total_then {l : List (Int × Int)} {m : Int × Int} (h : ∀ z, z ∈ l → 0 < z.2) (hn : ∀ z, z ∈ l → Nf z) (m0 : 0 < m.2) (mn : Nf m) : pl' (l.foldl pl' (0, 1)) m = l.foldl pl' m := by
  have e0 : ((0, 1) : Int × Int) = lst 0 1 := (lst_zero (by decide)).symm
  have em : lst m.1 m.2 = m := mn
  rw [e0, fold_pl (by decide) h hn]
  conv => rhs; rw [← em]
  rw [fold_pl m0 h hn]
  conv => lhs; rw [← em]
  have n0 := nd_pos h
  rw [pl_lst (by omega) m0]
  congr 1
  · grind
  · grind

abbrev intsD (a : List Int) : PyData := .tuple (a.map PyData.int)
abbrev rowD (a : List Int) (b : Int) : PyData := .tuple [intsD a, .int b]
abbrev ptD (xs : List (Int × Int)) : PyData := .tuple (xs.map frD)
structure PtOk (xs : List (Int × Int)) : Prop where
  len : xs.length ≤ 7
  fq : ∀ x, x ∈ xs → Fq 200 x
structure RowOk (n : Nat) (a : List Int) (b : Int) : Prop where
  len : a.length ≤ 7
  ba : ∀ x, x ∈ a → Bit n x
  bb : Bit n b
theorem PtOk.pos {xs : List (Int × Int)} (h : PtOk xs) : ∀ x, x ∈ xs → 0 < x.2 := fun x hx => (h.fq x hx).pos
theorem PtOk.lcm {xs : List (Int × Int)} (h : PtOk xs) : Bit 1401 (lcmL xs) := (lcmL_bit (k := 200) fun x hx => (h.fq x hx).b2).mono (by have := h.len; omega)
theorem PtOk.whole {xs : List (Int × Int)} (h : PtOk xs) : ∀ y, y ∈ wholeN xs → Bit 1601 y := fun y hy => (overN_bit (k := 200) h.lcm h.pos (fun x hx => lcmL_dvd h.pos hx) (fun x hx => (h.fq x hx).b1) y hy).mono (by decide)
def mDot (_ : Fr) (es : List Ent) (R : PyData → Prop) : Prop := ∃ a b : List Int, es = [.dat (intsD a), .dat (intsD b)] ∧ a.length ≤ 1000 ∧ (∀ x, x ∈ a → Bit 4000 x) ∧ (∀ x, x ∈ b → Bit 4000 x) ∧ R (.int (dotI a b))
theorem dot_at {a b : List Int} {B : Fr} {R : PyData → Prop} (h0 : a.length ≤ 1000) (h1 : ∀ x, x ∈ a → Bit 4000 x) (h2 : ∀ x, x ∈ b → Bit 4000 x) (r : R (.int (dotI a b))) : mDot B [.dat (.tuple (a.map PyData.int)), .dat (.tuple (b.map PyData.int))] R := ⟨a, b, rfl, h0, h1, h2, r⟩
def mDivisor (_ : Fr) (es : List Ent) (R : PyData → Prop) : Prop := ∃ ns : List Int, es = [.dat (intsD ns)] ∧ R (.int (gcdL ns))
def mWhole (_ : Fr) (es : List Ent) (R : PyData → Prop) : Prop := ∃ xs : List (Int × Int), es = [.dat (ptD xs)] ∧ PtOk xs ∧ R (.tuple [intsD (wholeN xs), .int (lcmL xs)])
theorem whole_at {xs : List (Int × Int)} {B : Fr} {R : PyData → Prop} (h : PtOk xs) (r : R (.tuple [intsD (wholeN xs), .int (lcmL xs)])) : mWhole B [.dat (.tuple (xs.map frD))] R := ⟨xs, rfl, h, r⟩
def mPlain (_ : Fr) (es : List Ent) (R : PyData → Prop) : Prop := ∃ (a : List Int) (b : Int), es = [.dat (rowD a b)] ∧ RowOk 4000 a b ∧ R (rowD (plainR a b).1 (plainR a b).2)
theorem plain_at {a : List Int} {b : Int} {B : Fr} {R : PyData → Prop} (h : RowOk 4000 a b) (r : R (rowD (plainR a b).1 (plainR a b).2)) : mPlain B [.dat (.tuple [.tuple (a.map PyData.int), .int b])] R := ⟨a, b, rfl, h, r⟩
theorem divisor_at {ns : List Int} {B : Fr} {R : PyData → Prop} (r : R (.int (gcdL ns))) : mDivisor B [.dat (.tuple (ns.map PyData.int))] R := ⟨ns, rfl, r⟩
def mRowOf (_ : Fr) (es : List Ent) (R : PyData → Prop) : Prop := ∃ (xs : List (Int × Int)) (y : Int × Int), es = [.dat (ptD xs), .dat (frD y)] ∧ PtOk (xs ++ [y]) ∧ R (rowD (rowOfR xs y).1 (rowOfR xs y).2)
def mTest (t : List Int → Int → Bool) (_ : Fr) (es : List Ent) (R : PyData → Prop) : Prop := ∃ (a : List Int) (b : Int), es = [.dat (rowD a b)] ∧ R (.bool (t a b))
def mReach (h : List Int → Int → List (Int × Int) → Int × Int) (_ : Fr) (es : List Ent) (R : PyData → Prop) : Prop := ∃ (a : List Int) (b : Int) (xs : List (Int × Int)), es = [.dat (rowD a b), .dat (ptD xs)] ∧ RowOk 2200 a b ∧ PtOk xs ∧ R (frD (h a b xs))
theorem zlt {x : Int} (h : (!decide (x < 0)) = true) : 0 ≤ x := by simpa using h
theorem ints_app (a : List Int) (b : Int) : a.map PyData.int ++ [.int b] = (a ++ [b]).map PyData.int := by rw [List.map_append]; rfl
theorem dot_bit' {a : List Int} {b : Int} {xs : List (Int × Int)} (h : RowOk 2200 a b) (hx : PtOk xs) : Bit 3808 (dotI a (wholeN xs)) := (dot_bit h.ba hx.whole).mono (by have := h.len; omega)
theorem whole_bits {xs : List (Int × Int)} (h : PtOk xs) : ∀ x, x ∈ wholeN xs → Bit 4000 x := fun x hx => (h.whole x hx).mono (by decide)
theorem RowOk.ba4 {n : Nat} {a : List Int} {b : Int} (h : RowOk n a b) (l : n ≤ 4000) : ∀ x, x ∈ a → Bit 4000 x := fun x hx => (h.ba x hx).mono l
abbrev Rows := List (List Int × Int)
abbrev rowsD (rows : Rows) : PyData := .tuple (rows.map fun r => rowD r.1 r.2)
abbrev roomD (n : Int) (rows : Rows) : PyData := .tuple [.int n, rowsD rows]
structure RmOk (rows : Rows) : Prop where
  len : rows.length ≤ 100
  row : ∀ r, r ∈ rows → RowOk 2200 r.1 r.2
def tightO (rows : Rows) (xs : List (Int × Int)) (i : Nat) : Option Int := match rows[i]? with
  | some r => if tightB r.1 r.2 xs = true then some (i : Int) else none
  | none => none
def brokenO (rows : Rows) (xs : List (Int × Int)) (i : Nat) : Option Int := match rows[i]? with
  | some r => if brokenB r.1 r.2 xs = true then some (i : Int) else none
  | none => none
def tightL (rows : Rows) (xs : List (Int × Int)) : List Int := (List.range rows.length).filterMap (tightO rows xs)
def brokenL (rows : Rows) (xs : List (Int × Int)) : List Int := (List.range rows.length).filterMap (brokenO rows xs)
def firstD (rows : Rows) (xs : List (Int × Int)) : PyData := match brokenL rows xs with
  | [] => .none
  | k :: _ => .int k
def isInB (rows : Rows) (xs : List (Int × Int)) : Bool := (brokenL rows xs).isEmpty
def mRoom (h : Rows → List (Int × Int) → PyData) (_ : Fr) (es : List Ent) (R : PyData → Prop) : Prop := ∃ (n : Int) (rows : Rows) (xs : List (Int × Int)), es = [.dat (roomD n rows), .dat (ptD xs)] ∧ RmOk rows ∧ PtOk xs ∧ R (h rows xs)
theorem room_at {n : Int} {rows : Rows} {xs : List (Int × Int)} {B : Fr} {R : PyData → Prop} {h : Rows → List (Int × Int) → PyData} (h1 : RmOk rows) (h2 : PtOk xs) (r : R (h rows xs)) : mRoom h B [.dat (.tuple [.int n, .tuple (rows.map fun r => .tuple [.tuple (r.1.map PyData.int), .int r.2])]), .dat (.tuple (xs.map frD))] R := ⟨n, rows, xs, rfl, h1, h2, r⟩
theorem bL_bit {b : Int} {xs : List (Int × Int)} (hb : Bit 2200 b) (h : PtOk xs) : Bit 3601 (b * lcmL xs) := hb.mul h.lcm
theorem lcm_ne {xs : List (Int × Int)} (h : PtOk xs) : lcmL xs ≠ 0 := by have := lcmL_pos h.pos; omega
def mNumber (B : Fr) (es : List Ent) (R : PyData → Prop) : Prop := ∃ (p l : Addr), B = Fsrc p l ∧ es = [.raw (.ref p)] ∧ ∀ n : Int, Bit 160 n → R (.int n)
theorem number_at {p l : Addr} {R : PyData → Prop} (h : ∀ n : Int, Bit 160 n → R (.int n)) : mNumber (Fsrc p l) [.raw (.ref p)] R := ⟨p, l, rfl, rfl, h⟩
def mLDiv (_ : Fr) (es : List Ent) (R : PyData → Prop) : Prop := ∃ ns : List Int, es = [.dat (.list (ns.map PyData.int))] ∧ R (.int (gcdL ns))
theorem ldiv_at {ns : List Int} {B : Fr} {R : PyData → Prop} (r : R (.int (gcdL ns))) : mLDiv B [.dat (.list (ns.map PyData.int))] R := ⟨ns, rfl, r⟩
theorem ldiv2_at {a b : Int} {B : Fr} {R : PyData → Prop} (r : R (.int (gcdL [a, b]))) : mLDiv B [.dat (.list [.int a, .int b])] R := ⟨[a, b], rfl, r⟩
def mLReach (h : List Int → Int → List (Int × Int) → Int × Int) (_ : Fr) (es : List Ent) (R : PyData → Prop) : Prop := ∃ (a : List Int) (b : Int) (xs : List (Int × Int)), es = [.dat (rowD a b), .dat (ptD xs)] ∧ RowOk 2200 a b ∧ PtOk xs ∧ a.length = xs.length ∧ R (frD (h a b xs))
theorem lreach_at {h : List Int → Int → List (Int × Int) → Int × Int} {a : List Int} {b : Int} {xs : List (Int × Int)} {B : Fr} {R : PyData → Prop} (h1 : RowOk 2200 a b) (h2 : PtOk xs) (h3 : a.length = xs.length) (r : R (frD (h a b xs))) : mLReach h B [.dat (.tuple [.tuple (a.map PyData.int), .int b]), .dat (.tuple (xs.map frD))] R := ⟨a, b, xs, rfl, h1, h2, h3, r⟩
theorem reach_fq {a : List Int} {b : Int} {xs : List (Int × Int)} (h : RowOk 2200 a b) (hx : PtOk xs) : Fq 3808 (reachR a xs) := lst_fq (lcm_ne hx) (dot_bit' h hx) (hx.lcm.mono (by decide))
theorem RowOk.take {n : Nat} {a : List Int} {b : Int} (h : RowOk n a b) (i : Nat) : RowOk n (a.take i) b := ⟨by have := h.len; rw [List.length_take]; omega, fun x hx => h.ba x (List.mem_of_mem_take hx), h.bb⟩
theorem PtOk.take {xs : List (Int × Int)} (h : PtOk xs) (i : Nat) : PtOk (xs.take i) := ⟨by have := h.len; rw [List.length_take]; omega, fun x hx => h.fq x (List.mem_of_mem_take hx)⟩
theorem nat_abs_mod (x y : Nat) : (x : Int).fmod (y : Int) = ((x % y : Nat) : Int) := by rw [Int.fmod_eq_emod_of_nonneg _ (by omega), Int.natCast_emod]
def mRowAt (B : Fr) (es : List Ent) (R : PyData → Prop) : Prop := ∃ (p l : Addr) (xs : List (Int × Int)), B = Fsrc p l ∧ es = [.raw (.ref p), .dat (ptD xs)] ∧ PtOk xs ∧ ∀ (a : List Int) (b : Int), a.length = xs.length → RowOk 1800 a b → R (rowD a b)
theorem row_at {p l : Addr} {xs : List (Int × Int)} {R : PyData → Prop} (h : PtOk xs) (r : ∀ (a : List Int) (b : Int), a.length = xs.length → RowOk 1800 a b → R (rowD a b)) : mRowAt (Fsrc p l) [.raw (.ref p), .dat (.tuple (xs.map frD))] R := ⟨p, l, xs, rfl, rfl, h, r⟩
def mHalf (B : Fr) (es : List Ent) (R : PyData → Prop) : Prop := ∃ (p l : Addr) (n : Int), B = Fsrc p l ∧ es = [.raw (.ref p), .dat (.int n)] ∧ 0 ≤ n ∧ n ≤ 6 ∧ R (.bool true)
theorem half_at {p l : Addr} {n : Int} {R : PyData → Prop} (h0 : 0 ≤ n) (h1 : n ≤ 6) (r : R (.bool true)) : mHalf (Fsrc p l) [.raw (.ref p), .dat (.int n)] R := ⟨p, l, n, rfl, rfl, h0, h1, r⟩
theorem RowOk.mono {n m : Nat} {a : List Int} {b : Int} (h : RowOk n a b) (l : n ≤ m) : RowOk m a b := ⟨h.len, fun x hx => (h.ba x hx).mono l, h.bb.mono l⟩
theorem plain_ok {n : Nat} {a : List Int} {b : Int} (h : RowOk n a b) (hn : 1 ≤ n) : RowOk n (plainR a b).1 (plainR a b).2 := by
  have e := plainR_bit hn h.ba h.bb
  exact ⟨by rw [e.2.2]; exact h.len, e.1, e.2.1⟩
theorem sh_row {n : Nat} {a : List Int} {b : Int} (h : RowOk n a b) (l : n ≤ 12000) : Sh 3 182041 (rowD a b) := by
  have hl := h.len
  have e1 : Sh 2 91017 (intsD a) := (Sh.tuple (sh_ints h.ba l)).mono (by decide) (by rw [List.length_map]; omega)
  have e2 : Sh 2 91017 (.int b) := (Sh.int (h.bb.mono l)).mono (by decide) (by decide)
  refine (Sh.tuple (k := 2) (m := 91017) fun x hx => ?_).mono (by decide) (by simp)
  simp only [List.mem_cons, List.not_mem_nil, or_false] at hx
  rcases hx with rfl | rfl
  · exact e1
  · exact e2
theorem cl_row (a : List Int) (b : Int) : PyData.canLay0 (rowD a b) = true := cl_tup fun x hx => by
  simp only [List.mem_cons, List.not_mem_nil, or_false] at hx
  rcases hx with rfl | rfl
  · exact cl_tup cl_ints
  · exact cl_int b
theorem test_at {t : List Int → Int → Bool} {a : List Int} {b : Int} {B : Fr} {R : PyData → Prop} (r : R (.bool (t a b))) : mTest t B [.dat (.tuple [.tuple (a.map PyData.int), .int b])] R := ⟨a, b, rfl, r⟩
theorem rowof_at {xs : List (Int × Int)} {y : Int × Int} {B : Fr} {R : PyData → Prop} (h : PtOk (xs ++ [y])) (r : R (rowD (rowOfR xs y).1 (rowOfR xs y).2)) : mRowOf B [.dat (.tuple (xs.map frD)), .dat (.tuple [.int y.1, .int y.2])] R := ⟨xs, y, rfl, h, r⟩
theorem eqv_row {a c : List Int} {b d : Int} : PyData.eqv (rowD a b) (rowD c d) = decide ((a, b) = (c, d)) := by
  rw [eqv_tuple, eqvA_cons, eqvA_cons, eqvA_nil, eqv_tuple, eqvA_ints, eqv_int, Bool.and_true]
  by_cases h : a = c <;> by_cases g : b = d <;> simp [h, g]
theorem sh3l {k m : Nat} {a b c : PyData} (ha : Sh k m a) (hb : Sh k m b) (hc : Sh k m c) : Sh (k + 1) (3 * (m + 2) + 2) (.list [a, b, c]) := Sh.list (sh3 ha hb hc)
theorem sh2l {k m : Nat} {a b : PyData} (ha : Sh k m a) (hb : Sh k m b) : Sh (k + 1) (2 * (m + 2) + 2) (.list [a, b]) := Sh.list (xs := [a, b]) fun x hx => by
  simp only [List.mem_cons, List.not_mem_nil, or_false] at hx
  rcases hx with rfl | rfl
  · exact ha
  · exact hb
theorem ra_l {K : PySem.W.Frag} {Q : PyData → Prop} {k m : Nat} {ds : List PyData} (h : Sh k m (.list ds)) (hk : k ≤ 50 := by decide) (hm : m ≤ 16000000 := by decide) (q : Q (.str (PyData.list ds).shown)) : CD (rReprA K) [.list ds] Q := ra_list h.shw (Nat.le_trans h.dep hk) (Nat.le_trans h.len (Nat.le_trans hm (by decide))) q
theorem ra_t {K : PySem.W.Frag} {Q : PyData → Prop} {k m : Nat} {ds : List PyData} (h : Sh k m (.tuple ds)) (hk : k ≤ 50 := by decide) (hm : m ≤ 16000000 := by decide) (q : Q (.str (PyData.tuple ds).shown)) : CD (rReprA K) [.tuple ds] Q := ra_tup h.shw (Nat.le_trans h.dep hk) (Nat.le_trans h.len (Nat.le_trans hm (by decide))) q
theorem ne_sameA {K : PySem.W.Frag} {a b : Str} {p q : Prop} (h : a = b) (r : q) : OD (rNeA K) (.str a) (.str b) (fun d => ∃ c, d = .bool c ∧ if c = true then p else q) := od_neS' ⟨_, rfl, neF h r⟩
theorem eq_sameA {K : PySem.W.Frag} {a b : Str} {Q : PyData → Prop} (h : a = b) (r : Q (.bool true)) : OD (rEqA K) (.str a) (.str b) Q := od_eqS' (by rw [decide_eq_true h]; exact r)
theorem rep_ints (n : Nat) (i : Int) : List.replicate n (PyData.int i) = (List.replicate n i).map PyData.int := by rw [List.map_replicate]
theorem rep_ok {n k : Nat} {b : Int} (hk : k ≤ 7) (hb : Bit n b) : RowOk n (List.replicate k 0) b := ⟨by rw [List.length_replicate]; exact hk, fun x hx => by rw [List.eq_of_mem_replicate hx]; exact Bit.zero n, hb⟩
theorem ptOk_app {xs : List (Int × Int)} {y : Int × Int} (hl : xs.length ≤ 6) (h : ∀ x, x ∈ xs → Fq 160 x) (hy : Fq 160 y) : PtOk (xs ++ [y]) := ⟨by rw [List.length_append, List.length_singleton]; omega, fun x hx => by
  rcases List.mem_append.mp hx with q | q
  · exact (h x q).mono (by decide)
  · rw [List.mem_singleton.mp q]; exact hy.mono (by decide)⟩
theorem drawn_at' {p l : Addr} {R : PyData → Prop} (h : ∀ x : Int × Int, Fq 160 x → R (frD x)) : mDrawn (Fsrc p l) [.raw (.ref p)] R := ⟨p, l, rfl, rfl, h⟩
theorem fq01' : Fq 160 ((0, 1) : Int × Int) := ⟨by decide, Bit.zero _, bit1.mono (by decide)⟩
def IsRow (k : Nat) (d : PyData) : Prop := ∃ r : List Int × Int, (r.1.length = k ∧ RowOk 1800 r.1 r.2) ∧ d = rowD r.1 r.2
theorem isRow_list {k : Nat} : ∀ (ds : List PyData), (∀ d, d ∈ ds → IsRow k d) → ∃ rows : Rows, ds = rows.map (fun r => rowD r.1 r.2) ∧ ∀ r, r ∈ rows → r.1.length = k ∧ RowOk 1800 r.1 r.2
  | [], _ => ⟨[], rfl, fun _ h => by cases h⟩
  | d :: ds, h => by
    obtain ⟨rows, e, hx⟩ := isRow_list ds fun y hy => h y (List.mem_cons_of_mem _ hy)
    obtain ⟨x, fx, e2⟩ := h d List.mem_cons_self
    refine ⟨x :: rows, by rw [e, e2]; rfl, fun y hy => ?_⟩
    rcases List.mem_cons.mp hy with q | q
    · exact q ▸ fx
    · exact hx y q
theorem lf_ints (a : List Int) : LF (intsD a) = true := by
  rw [LF_tuple]
  refine LFA_all fun d hd => ?_
  obtain ⟨x, _, rfl⟩ := List.mem_map.mp hd
  exact LF_int
theorem lf_row (a : List Int) (b : Int) : LF (rowD a b) = true := by
  rw [LF_tuple, LFA_cons, LFA_cons, LFA_nil, lf_ints, LF_int]
  rfl
theorem lf_rows (rows : Rows) : LF (rowsD rows) = true := by
  rw [LF_tuple]
  refine LFA_all fun d hd => ?_
  obtain ⟨x, _, rfl⟩ := List.mem_map.mp hd
  exact lf_row _ _
theorem lf_room (n : Int) (rows : Rows) : LF (roomD n rows) = true := by
  rw [LF_tuple, LFA_cons, LFA_cons, LFA_nil, lf_rows, LF_int]
  rfl
theorem lf_pt (xs : List (Int × Int)) : LF (ptD xs) = true := by
  rw [LF_tuple]
  refine LFA_all fun d hd => ?_
  obtain ⟨x, _, rfl⟩ := List.mem_map.mp hd
  rw [LF_tuple, LFA_cons, LFA_cons, LFA_nil, LF_int, LF_int]
  rfl
theorem lfA_ints (a : List Int) : LFA (a.map PyData.int) = true := by have := lf_ints a; rw [LF_tuple] at this; exact this
theorem mem_tight {rows : Rows} {xs : List (Int × Int)} (h : RmOk rows) : ∀ x, x ∈ tightL rows xs → Bit 20 x := fun x hx => by
  obtain ⟨i, hi, e⟩ := List.mem_filterMap.mp hx
  have hi2 := List.mem_range.mp hi
  have hl := h.len
  unfold tightO at e
  split at e
  · split at e
    · cases e; unfold Bit; omega
    · cases e
  · cases e
theorem mem_broken {rows : Rows} {xs : List (Int × Int)} (h : rows.length ≤ 100) : ∀ x, x ∈ brokenL rows xs → Bit 20 x := fun x hx => by
  obtain ⟨i, hi, e⟩ := List.mem_filterMap.mp hx
  have hi2 := List.mem_range.mp hi
  unfold brokenO at e
  split at e
  · split at e
    · cases e; unfold Bit; omega
    · cases e
  · cases e
abbrev plainRows (rows : Rows) : Rows := rows.map fun r => plainR r.1 r.2
theorem broken_pl {rows : Rows} {xs : List (Int × Int)} (h : ∀ x, x ∈ xs → 0 < x.2) : brokenL (plainRows rows) xs = brokenL rows xs := by
  unfold brokenL
  rw [List.length_map]
  refine congrArg (fun f => (List.range rows.length).filterMap f) (funext fun i => ?_)
  unfold brokenO
  rw [List.getElem?_map]
  cases e : rows[i]? with
  | none => rfl
  | some r =>
    show (if brokenB (plainR r.1 r.2).1 (plainR r.1 r.2).2 xs = true then some (i : Int) else none) = _
    rw [broken_plain h]
theorem eqvA_rows : ∀ {r s : Rows}, PyData.eqvAll (r.map fun r => rowD r.1 r.2) (s.map fun r => rowD r.1 r.2) = true → r = s
  | [], [], _ => rfl
  | [], y :: b, h => by rw [List.map_nil, List.map_cons, eqvA_nc] at h; cases h
  | x :: a, [], h => by rw [List.map_nil, List.map_cons, eqvA_cn] at h; cases h
  | x :: a, y :: b, h => by
    rw [List.map_cons, List.map_cons, eqvA_cons, eqv_row] at h
    have h2 := Bool.and_eq_true_iff.mp h
    rw [show x = y from of_decide_eq_true h2.1, eqvA_rows h2.2]
theorem eqv_room {n m : Int} {r s : Rows} (h : PyData.eqv (roomD n r) (roomD m s) = true) : r = s := by
  rw [eqv_tuple, eqvA_cons, eqvA_cons] at h
  have h2 := (Bool.and_eq_true_iff.mp (Bool.and_eq_true_iff.mp h).2).1
  rw [eqv_tuple] at h2
  exact eqvA_rows h2
theorem cl_room (n : Int) (rows : Rows) : PyData.canLay0 (roomD n rows) = true := cl_tup fun x hx => by
  simp only [List.mem_cons, List.not_mem_nil, or_false] at hx
  rcases hx with rfl | rfl
  · exact cl_int n
  · exact cl_tup fun y hy => by
      obtain ⟨r, _, rfl⟩ := List.mem_map.mp hy
      exact cl_row _ _
theorem sh_pt {xs : List (Int × Int)} (h : PtOk xs) : Sh 3 200000 (ptD xs) := (Sh.tuple (k := 2) (m := 27000) fun x hx => by
  obtain ⟨y, hy, rfl⟩ := List.mem_map.mp hx
  exact (h.fq y hy).sh (by decide)).mono (by decide) (by have := h.len; rw [List.length_map]; omega)
theorem sh_room {n : Int} {rows : Rows} (hn : Bit 20 n) (hl : rows.length ≤ 11) (h : ∀ r, r ∈ rows → RowOk 1800 r.1 r.2) : Sh 5 4004959 (roomD n rows) := by
  have e1 : Sh 4 2002476 (rowsD rows) := (Sh.tuple (k := 3) (m := 182041) fun x hx => by
    obtain ⟨r, hr, rfl⟩ := List.mem_map.mp hx
    exact sh_row (h r hr) (by decide)).mono (by decide) (by rw [List.length_map]; omega)
  refine (Sh.tuple (k := 4) (m := 2002476) fun x hx => ?_).mono (by decide) (by simp)
  simp only [List.mem_cons, List.not_mem_nil, or_false] at hx
  rcases hx with rfl | rfl
  · exact (Sh.int (hn.mono (by decide))).mono (by decide) (by decide)
  · exact e1
theorem first_at {rows : Rows} {xs : List (Int × Int)} : atI ((brokenL rows xs).map PyData.int ++ [.none]) 0 = some (firstD rows xs) := by
  unfold firstD
  cases brokenL rows xs with
  | nil => rfl
  | cons k r => exact atI_nat (j := 0) rfl
theorem first_leaf {rows : Rows} {xs : List (Int × Int)} (h : rows.length ≤ 100) : firstD rows xs = .none ∨ (∃ b, firstD rows xs = .bool b) ∨ ∃ i : Int, firstD rows xs = .int i ∧ i.natAbs.log2 < 1920 := by
  unfold firstD
  cases e : brokenL rows xs with
  | nil => exact .inl rfl
  | cons k r =>
    refine .inr (.inr ⟨k, rfl, ?_⟩)
    have := mem_broken h k (by rw [e]; exact List.mem_cons_self)
    exact this.log (by decide)
theorem empty_is {rows : Rows} {xs : List (Int × Int)} : PyData.eqv (.list ((brokenL rows xs).map PyData.int)) (.list []) = isInB rows xs := by
  unfold isInB
  rw [eqv_list]
  cases brokenL rows xs with
  | nil => exact eqvA_nil
  | cons k r => exact eqvA_cn
theorem tl_len (rows : Rows) (xs : List (Int × Int)) : (tightL rows xs).length ≤ rows.length := by
  unfold tightL
  exact Nat.le_trans (List.length_filterMap_le _ _) (by rw [List.length_range]; exact Nat.le_refl _)
theorem bl_len (rows : Rows) (xs : List (Int × Int)) : (brokenL rows xs).length ≤ rows.length := by
  unfold brokenL
  exact Nat.le_trans (List.length_filterMap_le _ _) (by rw [List.length_range]; exact Nat.le_refl _)
theorem sh_tight {rows : Rows} {xs : List (Int × Int)} (h : RmOk rows) (hl : rows.length ≤ 11) : Sh 2 200000 (.list ((tightL rows xs).map PyData.int)) := (Sh.list (sh_ints (mem_tight h) (by decide))).mono (by decide) (by have := tl_len rows xs; rw [List.length_map]; omega)
theorem sh_broken {rows : Rows} {xs : List (Int × Int)} (hl : rows.length ≤ 11) : Sh 2 200000 (.list ((brokenL rows xs).map PyData.int)) := (Sh.list (sh_ints (mem_broken (by omega)) (by decide))).mono (by decide) (by have := bl_len rows xs; rw [List.length_map]; omega)
def ShA (d : PyData) : Prop := Shw d ∧ d.depth ≤ 50 ∧ d.shown.length ≤ sizeLine
theorem shA_of {k m : Nat} {d : PyData} (h : Sh k m d) (hk : k ≤ 50 := by decide) (hm : m ≤ 16000000 := by decide) : ShA d := ⟨h.shw, Nat.le_trans h.dep hk, Nat.le_trans h.len (Nat.le_trans hm (by decide))⟩
theorem ew_reprOwnS {B : Dl.Fr} {env : List Ent} {K : PySem.W.Frag} {Q : PyData → Prop} {i : Nat} (h : ∃ a ds, env[i]? = some (.own a ds) ∧ ShA (.list ds) ∧ Q (.str (PyData.list ds).shown)) : EW B env (tCB (rReprA K) (tCons (tVar i) tNil)) Q := by
  obtain ⟨a, ds, e, h, q⟩ := h
  exact ew_reprOwnA e h.1 h.2.1 h.2.2 q
theorem map_get {α : Type} {f : α → PyData} {xs : List α} {i : Nat} {x : α} {u : PyData} (h : xs[i]? = some x) (hu : (xs.map f)[i]? = some u) : u = f x := by
  rw [List.getElem?_map, h] at hu
  cases hu
  rfl
theorem small_row {a : List Int} {b : Int} (hl : a.length ≤ 7) (ha : ∀ x, x ∈ a → Bit 4000 x) (hb : Bit 4000 b) : RowOk 4000 a b := ⟨hl, ha, hb⟩
theorem b8 {x : Int} (h : x.natAbs < 2 ^ 8 := by decide) : Bit 4000 x := Bit.mono (n := 8) h (by decide)
theorem mem2 {a b : Int} {P : Int → Prop} (ha : P a) (hb : P b) : ∀ x, x ∈ [a, b] → P x := fun x hx => by
  simp only [List.mem_cons, List.not_mem_nil, or_false] at hx
  rcases hx with rfl | rfl
  · exact ha
  · exact hb
theorem mem1 {a : Int} {P : Int → Prop} (ha : P a) : ∀ x, x ∈ [a] → P x := fun x hx => by
  rw [List.mem_singleton.mp hx]
  exact ha
theorem mem0 {P : Int → Prop} : ∀ x, x ∈ ([] : List Int) → P x := fun x hx => by cases hx
theorem sh4l {k m : Nat} {a b c d : PyData} (ha : Sh k m a) (hb : Sh k m b) (hc : Sh k m c) (hd : Sh k m d) : Sh (k + 1) (4 * (m + 2) + 2) (.list [a, b, c, d]) := Sh.list (xs := [a, b, c, d]) fun x hx => by
  simp only [List.mem_cons, List.not_mem_nil, or_false] at hx
  rcases hx with rfl | rfl | rfl | rfl
  · exact ha
  · exact hb
  · exact hc
  · exact hd
end Ev
end
section
set_option Elab.async false
set_option linter.all false
set_option maxRecDepth 100000
set_option maxHeartbeats 0
namespace G0
open PySem L2 PySem.Spec PyProof.Rows Dl Xo
def top (i : Nat) : Stmt := PySem.Challenge.pw_everygust_k00_errors.main.body.getD i (.Pass ⟨0, 0, 0, 0⟩)
/-- the first def of a class -/
def ini (i : Nat) : Stmt := match top i with
  | .ClassDef _ _ _ b _ _ _ _ _ _ _ => b.getD 0 (.Pass ⟨0, 0, 0, 0⟩)
  | _ => .Pass ⟨0, 0, 0, 0⟩
/-- self.f = x: what such a def promises -/
theorem run_x {K : PySem.W.Frag} {f : Str} {σ : L2.St} {H : Hp} {vs : List V} {Q : VK} (hσ : σ = vs.map some) (h : spX K f vs H Q fun _ _ _ => False) :
    tXst K f (tVar 0) (tVar 1) { nx := fun _ H' => Q .non H', rt := Q } σ H := by
  obtain ⟨a, C, v, nw, bB, rfl, T, hf, ha, q⟩ := h
  subst hσ
  exact ⟨v, rfl, .ref a, rfl, a, C, nw, bB, rfl, T, hf, ha, q⟩
section
variable {P : Program} {w : World} {K : PySem.W.Frag} {mg : Str → Option Value} {base : Heap}
abbrev st_BadText : Stmt := ini 3
theorem sc_BadText : FnScope ["self", "place"] ["self", "place"] (defScope st_BadText) := ⟨rfl, rfl, rfl, by decide +kernel, rfl, by decide +kernel, by decide +kernel⟩
theorem ok_BadText {f : Addr} {fd : FuncData} (F : Fun K "__init__" "BadText.__init__" st_BadText f fd) : FnOk P w K mg base CX0 1 f fd ["self", "place"] (spX K "place") := by
  refine F.ok sc_BadText (fun vs H Q E ⟨_, _, _, _, _, e, _⟩ => by rw [e]; rfl) fun cdv A outer s H vs Q E hr h => ?_
  refine ⟨_, pss_one (ps_xst (pv 0) (pv 1)), ?_⟩
  have hv : vs.length = 2 := by obtain ⟨_, _, _, _, _, e, _⟩ := h; rw [e]; rfl
  exact run_x (by unfold L2.start; rw [hv]; simp) h
abbrev st_BadWish : Stmt := ini 7
theorem sc_BadWish : FnScope ["self", "number"] ["self", "number"] (defScope st_BadWish) := ⟨rfl, rfl, rfl, by decide +kernel, rfl, by decide +kernel, by decide +kernel⟩
theorem ok_BadWish {f : Addr} {fd : FuncData} (F : Fun K "__init__" "BadWish.__init__" st_BadWish f fd) : FnOk P w K mg base CX0 1 f fd ["self", "number"] (spX K "number") := by
  refine F.ok sc_BadWish (fun vs H Q E ⟨_, _, _, _, _, e, _⟩ => by rw [e]; rfl) fun cdv A outer s H vs Q E hr h => ?_
  refine ⟨_, pss_one (ps_xst (pv 0) (pv 1)), ?_⟩
  have hv : vs.length = 2 := by obtain ⟨_, _, _, _, _, e, _⟩ := h; rw [e]; rfl
  exact run_x (by unfold L2.start; rw [hv]; simp) h
abbrev st_BadGust : Stmt := ini 8
theorem sc_BadGust : FnScope ["self", "number"] ["self", "number"] (defScope st_BadGust) := ⟨rfl, rfl, rfl, by decide +kernel, rfl, by decide +kernel, by decide +kernel⟩
theorem ok_BadGust {f : Addr} {fd : FuncData} (F : Fun K "__init__" "BadGust.__init__" st_BadGust f fd) : FnOk P w K mg base CX0 1 f fd ["self", "number"] (spX K "number") := by
  refine F.ok sc_BadGust (fun vs H Q E ⟨_, _, _, _, _, e, _⟩ => by rw [e]; rfl) fun cdv A outer s H vs Q E hr h => ?_
  refine ⟨_, pss_one (ps_xst (pv 0) (pv 1)), ?_⟩
  have hv : vs.length = 2 := by obtain ⟨_, _, _, _, _, e, _⟩ := h; rw [e]; rfl
  exact run_x (by unfold L2.start; rw [hv]; simp) h
abbrev st_BadAct : Stmt := ini 9
theorem sc_BadAct : FnScope ["self", "word"] ["self", "word"] (defScope st_BadAct) := ⟨rfl, rfl, rfl, by decide +kernel, rfl, by decide +kernel, by decide +kernel⟩
theorem ok_BadAct {f : Addr} {fd : FuncData} (F : Fun K "__init__" "BadAct.__init__" st_BadAct f fd) : FnOk P w K mg base CX0 1 f fd ["self", "word"] (spX K "word") := by
  refine F.ok sc_BadAct (fun vs H Q E ⟨_, _, _, _, _, e, _⟩ => by rw [e]; rfl) fun cdv A outer s H vs Q E hr h => ?_
  refine ⟨_, pss_one (ps_xst (pv 0) (pv 1)), ?_⟩
  have hv : vs.length = 2 := by obtain ⟨_, _, _, _, _, e, _⟩ := h; rw [e]; rfl
  exact run_x (by unfold L2.start; rw [hv]; simp) h
abbrev st_BadAsk : Stmt := ini 10
theorem sc_BadAsk : FnScope ["self", "word"] ["self", "word"] (defScope st_BadAsk) := ⟨rfl, rfl, rfl, by decide +kernel, rfl, by decide +kernel, by decide +kernel⟩
theorem ok_BadAsk {f : Addr} {fd : FuncData} (F : Fun K "__init__" "BadAsk.__init__" st_BadAsk f fd) : FnOk P w K mg base CX0 1 f fd ["self", "word"] (spX K "word") := by
  refine F.ok sc_BadAsk (fun vs H Q E ⟨_, _, _, _, _, e, _⟩ => by rw [e]; rfl) fun cdv A outer s H vs Q E hr h => ?_
  refine ⟨_, pss_one (ps_xst (pv 0) (pv 1)), ?_⟩
  have hv : vs.length = 2 := by obtain ⟨_, _, _, _, _, e, _⟩ := h; rw [e]; rfl
  exact run_x (by unfold L2.start; rw [hv]; simp) h
abbrev st_UnknownName : Stmt := ini 13
theorem sc_UnknownName : FnScope ["self", "name"] ["self", "name"] (defScope st_UnknownName) := ⟨rfl, rfl, rfl, by decide +kernel, rfl, by decide +kernel, by decide +kernel⟩
theorem ok_UnknownName {f : Addr} {fd : FuncData} (F : Fun K "__init__" "UnknownName.__init__" st_UnknownName f fd) : FnOk P w K mg base CX0 1 f fd ["self", "name"] (spX K "name") := by
  refine F.ok sc_UnknownName (fun vs H Q E ⟨_, _, _, _, _, e, _⟩ => by rw [e]; rfl) fun cdv A outer s H vs Q E hr h => ?_
  refine ⟨_, pss_one (ps_xst (pv 0) (pv 1)), ?_⟩
  have hv : vs.length = 2 := by obtain ⟨_, _, _, _, _, e, _⟩ := h; rw [e]; rfl
  exact run_x (by unfold L2.start; rw [hv]; simp) h
end
end G0
end
section
set_option Elab.async false
set_option linter.all false
set_option maxRecDepth 100000
set_option maxHeartbeats 0
namespace G0
open PySem L2 PySem.Spec PyProof.Rows Dl Xo
/-- self.path = tuple(p) -/
def spP (K : PySem.W.Frag) : Sp := fun vs H Q _ => ∃ (a C p : Addr) (ys : List V) (nw : String) (bB : List Value), vs = [.ref a, .ref p] ∧ XCls K C nw bB ∧ PySem.W.findIn K (.ref C) "path" = some none ∧ H a = some (exo a C none) ∧
  ((SqT K H p ys ∧ ∀ e, H e = none → e ≠ a → Q .non (upd (upd H e (exd e [("path", .ref p)])) a (exo a C (some e)))) ∨
    SqL K H p ys ∧ ∀ l, H l = none → ∀ e, upd H l (.tup ys) e = none → e ≠ a → Q .non (upd (upd (upd H l (.tup ys)) e (exd e [("path", .ref l)])) a (exo a C (some e))))
abbrev st_BadShape : Stmt := ini 2
theorem sc_BadShape : FnScope ["self", "path"] ["self", "path"] (defScope st_BadShape) := ⟨rfl, rfl, rfl, by decide +kernel, rfl, by decide +kernel, by decide +kernel⟩
section
variable {P : Program} {w : World} {K : PySem.W.Frag} {mg : Str → Option Value} {base : Heap}
theorem ok_BadShape {f : Addr} {fd : FuncData} (F : Fun K "__init__" "BadShape.__init__" st_BadShape f fd) (T : mg "tuple" = none) : FnOk P w K mg base CX0 1 f fd ["self", "path"] (spP K) := by
  refine F.ok sc_BadShape (fun vs H Q E ⟨_, _, _, _, _, _, e, _⟩ => by rw [e]; rfl) fun cdv A outer s H vs Q E hr h => ?_
  refine ⟨_, pss_one (ps_xst (pv 0) (pe_callTy (kTup (K := K) rfl) (by rfl) T (by decide +kernel) (pa_cons (pv 1) pa_nil))), ?_⟩
  obtain ⟨a, C, p, ys, nw, bB, rfl, X, hf, ha, q⟩ := h
  refine ⟨.ref p, rfl, p, ys, rfl, ?_⟩
  rcases q with ⟨sq, q⟩ | ⟨sq, q⟩
  · exact .inr ⟨sq, .ref a, rfl, a, C, nw, bB, rfl, X, hf, ha, q⟩
  · refine .inl ⟨sq, fun l hl => ⟨.ref a, rfl, a, C, nw, bB, rfl, X, hf, ?_, q l hl⟩⟩
    rw [upd_ne (ne_of_none ha hl)]
    exact ha
end
/-- BadShape(p) -/
theorem ew_xP {B : Fr} {env : List Ent} {K : PySem.W.Frag} {C : Addr} {te : TE} {Q : PyData → Prop} {nw : String} {bB : List Value} (T : XCls K C nw bB) (hf : PySem.W.findIn K (.ref C) "path" = some none)
    (h : EW B env te fun d => ∃ ds, itemsOf d = some ds ∧ Q (x1D C "path" (.tuple ds))) : EW B env (tXnew C (spP K) (tCons te tNil)) Q := fun O σ H j s R r =>
  h O σ H j s _ fun d v H1 ⟨ds, hd, q⟩ g k => by
    refine ⟨Nat.le_of_ble_eq_true rfl, fun a ha => ?_⟩
    let H2 := upd H1 a (exo a C none)
    have g2 : Gro (B.lock O) H1 H2 := .new g.2 ha
    have fin : ∀ (H3 : Hp) (p e : Addr), Gro (B.lock O) H2 H3 → H3 a = some (exo a C none) → H3 e = none → e ≠ a →
        (Gro (B.lock O) H1 (upd (upd H3 e (exd e [("path", .ref p)])) a (exo a C (some e))) → Dq (B.lock O).W (upd (upd H3 e (exd e [("path", .ref p)])) a (exo a C (some e))) (.ref p) (.tuple ds)) →
        R (.ref a) (upd (upd H3 e (exd e [("path", .ref p)])) a (exo a C (some e))) := fun H3 p e g3 h3 he ne kf => by
      have old : ∀ x, x ≠ a → x ≠ e → upd (upd H3 e (exd e [("path", .ref p)])) a (exo a C (some e)) x = H3 x := fun x n1 n2 => by rw [upd_ne n1, upd_ne n2]
      have wa : ¬ (B.lock O).W a := Fr.fresh g.2 ha
      have we : ¬ (B.lock O).W e := Fr.fresh g3.2 he
      have g13 : Gro (B.lock O) H1 (upd (upd H3 e (exd e [("path", .ref p)])) a (exo a C (some e))) := by
        refine ⟨fun x o w z => ?_, (B.lock O).loc H3 _ (fun x w => old x (fun z => wa (z ▸ w)) fun z => we (z ▸ w)) g3.2⟩
        have z3 := (g2.trans g3).1 x o w z
        rw [old x (ne_of_none z ha) (ne_of_none z3 he)]
        exact z3
      exact r _ _ _ q (g.trans g13) (.exc1 wa we upd_same (by rw [upd_ne ne, upd_same]) (kf g13))
    cases k with
    | @tup p xs _ w e2 ka =>
      cases hd
      have h2 : H2 p = some (.tup xs) := g2.1 p _ w e2
      exact ⟨a, C, p, xs, nw, bB, rfl, T, hf, upd_same, .inl ⟨SqT.of h2, fun e he ne => ⟨rfl, fin H2 p e (.refl g2.2) upd_same he ne fun g13 => (Dq.tup w e2 ka).gro g13⟩⟩⟩
    | @lst p xs _ w e2 ka =>
      cases hd
      have h2 : H2 p = some (.lst xs) := g2.1 p _ w e2
      refine ⟨a, C, p, xs, nw, bB, rfl, T, hf, upd_same, .inr ⟨SqL.of h2, fun l hl e he ne => ⟨rfl, ?_⟩⟩⟩
      have la : a ≠ l := ne_of_none (show H2 a = some (exo a C none) from upd_same) hl
      have le : l ≠ e := fun z => by rw [z, upd_same] at he; cases he
      refine fin (upd H2 l (.tup xs)) l e (.new g2.2 hl) (by rw [upd_ne la]; exact upd_same) he ne fun g13 => ?_
      refine .tup (Fr.fresh g2.2 hl) ?_ (ka.gro g13)
      rw [upd_ne (Ne.symm la), upd_ne le, upd_same]
    | non => cases hd
    | bl _ => cases hd
    | int _ => cases hd
    | str _ => cases hd
    | exc0 _ _ => cases hd
    | dct _ _ => cases hd
    | exc1 _ _ _ _ _ => cases hd
end G0
end
section
set_option Elab.async false
set_option linter.all false
set_option maxRecDepth 100000
set_option maxHeartbeats 0
namespace G0
open PySem L2 PySem.Spec PyProof.Rows Dl Xo
/-- a class of the program with an __init__ of its own -/
structure HasI (P : Program) (w : World) (K : PySem.W.Frag) (mg : Str → Option Value) (base : Heap) (x : Str) (C : Addr) (ps : List Str) (sp : Sp) (nw : String) (bB : List Value) : Prop where
  m : mg x = some (.ref C)
  T : XCls K C nw bB
  ini : ∃ f fd, FnOk P w K mg base CX0 1 f fd ps sp ∧ PySem.W.findIn K (.ref C) "__init__" = some (some (.ref f)) ∧ PySem.W.typeIn K (.ref f) = some (.type "function") ∧ L2.Binds K fd ps []
theorem HasI.call {X : Cx} {x : Str} {C : Addr} {ps : List Str} {sp : Sp} {nw B initId : String} {bB : List Value} {j : Nat} {p pos : Pos} {e : Expr} {es : List Expr} {t : TA} (h : HasI X.prog X.w X.K X.mg X.base x C ps sp nw bB) (F : ExcBaseFacts B nw initId bB)
    (hr : Room j X.A) (ha : PA X (e :: es) t) (hk : 2 ≤ j := by decide) (hg : Gl X x := by rfl) (hdb : (x == ("__debug__" : Str)) = false := by decide)
    (he : starEach (e :: es) X.env = (false, eval e X.env) :: starEach es X.env := by rfl) (hpl : (backTo pos (starEach es X.env)).any (·.1) = false := by rfl) :
    PE X (.Call (.Name x p) (e :: es) [] pos) (tXnew C sp t) := by
  obtain ⟨f, fd, F1, i, ty, b⟩ := h.ini
  exact pe_xnew F h.T i ty F1 (hr.mono hk) b pass0 hg h.m ha hdb he hpl
/-- one without -/
structure Has0 (K : PySem.W.Frag) (mg : Str → Option Value) (x : Str) (C : Addr) (nw : String) (bB : List Value) : Prop where
  m : mg x = some (.ref C)
  q : PySem.W.excIn K C bB nw = true
  k : PySem.W.keepIn K (.ref C) = true
theorem Has0.call {X : Cx} {x : Str} {C : Addr} {nw B initId : String} {bB : List Value} {p pos : Pos} (h : Has0 X.K X.mg x C nw bB) (F : ExcBaseFacts B nw initId bB) (hg : Gl X x := by rfl) (hdb : (x == ("__debug__" : Str)) = false := by decide) :
    PE X (.Call (.Name x p) [] [] pos) (tX0 C) := pe_x0 F h.q h.m h.k hg hdb
end G0
end
section
set_option Elab.async false
set_option linter.all false
set_option maxRecDepth 100000
set_option maxHeartbeats 0
namespace G0
open PySem L2 PySem.Spec PyProof.Rows Dl Xo
/-- what is handed as a path: data, or a list of the caller's own -/
def PathE (B : Fr) (e0 : Ent) (ds : List PyData) : Prop := (∃ p, e0 = .dat p ∧ itemsOf p = some ds) ∨ ∃ (a : Addr) (ns : List Int), e0 = .raw (.ref a) ∧ ds = ns.map PyData.int ∧ ∀ H, B.J H → H a = some (.lst (ns.map V.int))
/-- BadShape(p) of such -/
theorem ew_xPe {B : Fr} {env : List Ent} {K : PySem.W.Frag} {C : Addr} {i : Nat} {e0 : Ent} {ds : List PyData} {Q : PyData → Prop} {nw : String} {bB : List Value} (T : XCls K C nw bB) (hf : PySem.W.findIn K (.ref C) "path" = some none)
    (hi : env[i]? = some e0) (h : PathE B e0 ds) (q : Q (x1D C "path" (.tuple ds))) : EW B env (tXnew C (spP K) (tCons (tVar i) tNil)) Q := by
  rcases h with ⟨p, rfl, hp⟩ | ⟨p, ns, rfl, rfl, hJ⟩
  · exact ew_xP T hf (ew_var hi ⟨ds, hp, q⟩)
  · intro O σ H1 j s R r
    obtain ⟨s', e1, k⟩ := s.get hi
    cases (show s' = some (V.ref p) from k)
    refine ⟨_, e1, Nat.le_of_ble_eq_true rfl, fun a ha => ?_⟩
    have e2 := hJ H1 j.1
    let H2 := upd H1 a (exo a C none)
    have g2 : Gro (B.lock O) H1 H2 := .new j ha
    have h2 : H2 p = some (.lst (ns.map V.int)) := hJ H2 g2.2.1
    refine ⟨a, C, p, ns.map V.int, nw, bB, rfl, T, hf, upd_same, .inr ⟨SqL.of h2, fun l hl e he ne => ⟨rfl, ?_⟩⟩⟩
    have la : a ≠ l := ne_of_none (show H2 a = some (exo a C none) from upd_same) hl
    have le : l ≠ e := fun z => by rw [z, upd_same] at he; cases he
    have g3 : Gro (B.lock O) H2 (upd H2 l (.tup (ns.map V.int))) := .new g2.2 hl
    have h3 : upd H2 l (.tup (ns.map V.int)) a = some (exo a C none) := by rw [upd_ne la]; exact upd_same
    have old : ∀ x, x ≠ a → x ≠ e → upd (upd (upd H2 l (.tup (ns.map V.int))) e (exd e [("path", .ref l)])) a (exo a C (some e)) x = upd H2 l (.tup (ns.map V.int)) x := fun x n1 n2 => by rw [upd_ne n1, upd_ne n2]
    have wa : ¬ (B.lock O).W a := Fr.fresh j ha
    have we : ¬ (B.lock O).W e := Fr.fresh g3.2 he
    have g13 : Gro (B.lock O) H1 (upd (upd (upd H2 l (.tup (ns.map V.int))) e (exd e [("path", .ref l)])) a (exo a C (some e))) := by
      refine ⟨fun x o w z => ?_, (B.lock O).loc _ _ (fun x w => old x (fun z => wa (z ▸ w)) fun z => we (z ▸ w)) g3.2⟩
      have z3 := (g2.trans g3).1 x o w z
      rw [old x (ne_of_none z ha) (ne_of_none z3 he)]
      exact z3
    refine r _ _ _ q g13 (.exc1 wa we upd_same (by rw [upd_ne ne, upd_same]) (.tup (Fr.fresh g2.2 hl) ?_ (DqA.ofInts ns)))
    rw [upd_ne (Ne.symm la), upd_ne le, upd_same]
end G0
end
section
set_option Elab.async false
set_option linter.all false
set_option maxRecDepth 100000
set_option maxHeartbeats 0
namespace G0
open PySem L2 PySem.Spec PyProof.Rows Dl Xo RZ Ev
abbrev st_l_source : Stmt := top 15
abbrev names_l_source : List Str := ["script", "mixed", "cell"]
abbrev pars_l_source : List Str := ["script"]
theorem sc_l_source : FnScope names_l_source pars_l_source (defScope st_l_source) := ⟨rfl, rfl, rfl, by decide +kernel, rfl, by decide +kernel, by decide +kernel⟩
abbrev st_l_pick : Stmt := top 16
abbrev names_l_pick : List Str := ["source", "many", "left", "mixed"]
abbrev pars_l_pick : List Str := ["source", "many"]
theorem sc_l_pick : FnScope names_l_pick pars_l_pick (defScope st_l_pick) := ⟨rfl, rfl, rfl, by decide +kernel, rfl, by decide +kernel, by decide +kernel⟩
abbrev st_l_of : Stmt := top 17
abbrev names_l_of : List Str := ["source", "some"]
abbrev pars_l_of : List Str := ["source", "some"]
theorem sc_l_of : FnScope names_l_of pars_l_of (defScope st_l_of) := ⟨rfl, rfl, rfl, by decide +kernel, rfl, by decide +kernel, by decide +kernel⟩
abbrev st_l_every : Stmt := top 18
abbrev names_l_every : List Str := ["path", "number", "word", "name", "found"]
abbrev pars_l_every : List Str := ["path", "number", "word", "name"]
theorem sc_l_every : FnScope names_l_every pars_l_every (defScope st_l_every) := ⟨rfl, rfl, rfl, by decide +kernel, rfl, by decide +kernel, by decide +kernel⟩
abbrev st_l_kinds : Stmt := top 19
abbrev names_l_kinds : List Str := ["e", "found"]
abbrev pars_l_kinds : List Str := ["e"]
theorem sc_l_kinds : FnScope names_l_kinds pars_l_kinds (defScope st_l_kinds) := ⟨rfl, rfl, rfl, by decide +kernel, rfl, by decide +kernel, by decide +kernel⟩
abbrev st_l_bases : Stmt := top 20
abbrev names_l_bases : List Str := ["e", "found", "is_odd"]
abbrev pars_l_bases : List Str := ["e"]
theorem sc_l_bases : FnScope names_l_bases pars_l_bases (defScope st_l_bases) := ⟨rfl, rfl, rfl, by decide +kernel, rfl, by decide +kernel, by decide +kernel⟩
abbrev st_law : Stmt := top 21
abbrev names_law : List Str := ["script", "source", "lap", "some", "name", "k", "kept", "number", "word", "path", "every", "is_name", "j"]
abbrev pars_law : List Str := ["script"]
theorem sc_law : FnScope names_law pars_law (defScope st_law) := ⟨rfl, rfl, rfl, by decide +kernel, rfl, by decide +kernel, by decide +kernel⟩
structure Tx (mg : Str → Option Value) : Prop where
  ArithmeticError : mg "ArithmeticError" = none
  AttributeError : mg "AttributeError" = none
  IndexError : mg "IndexError" = none
  KeyError : mg "KeyError" = none
  LookupError : mg "LookupError" = none
  RuntimeError : mg "RuntimeError" = none
  TypeError : mg "TypeError" = none
  ValueError : mg "ValueError" = none
  abs : mg "abs" = none
  int : mg "int" = none
  isinstance : mg "isinstance" = none
  len : mg "len" = none
  list : mg "list" = none
  max : mg "max" = none
  range : mg "range" = none
  repr : mg "repr" = none
  tuple : mg "tuple" = none
abbrev mro_ValueError : List Value := [.type "ValueError", .type "Exception", .type "BaseException", .type "object"]
abbrev mro_LookupError : List Value := [.type "LookupError", .type "Exception", .type "BaseException", .type "object"]
theorem kIsX {X : Cx} {K : PySem.W.Frag} (h : X.K = K) : CallR X (.builtin "isinstance") (rIsX K) := h ▸ call_isX
/-- the eleven, one of each kind -/
def everyL (Cs : List Addr) (p n w x : PyData) : List PyData := match Cs with
  | [c0, c1, c2, c3, c4, c5, c6, c7, c8, c9, c10] => [x1D c0 "path" p, x1D c1 "place" n, x0D c2, x0D c3, x0D c4, x1D c5 "number" n, x1D c6 "number" n, x1D c7 "word" w, x1D c8 "word" w, x0D c9, x1D c10 "name" x]
  | _ => []
def mEvery (Cs : List Addr) (B : Fr) (es : List Ent) (R : PyData → Prop) : Prop := ∃ (e0 : Ent) (n w x : PyData) (ds : List PyData), es = [e0, .dat n, .dat w, .dat x] ∧ PathE B e0 ds ∧ R (.list (everyL Cs (.tuple ds) n w x))
def KFact (K : PySem.W.Frag) (Cs : List Addr) : Prop := ∀ (i : Nat) (C : Addr), Cs[i]? = some C → XIs K C ∧ ∀ (j : Nat) (D : Addr), Cs[j]? = some D → PySem.W.kitOne K (.ref C) (.ref D) = some (decide (j = i))
def BFact (K : PySem.W.Frag) (G N : Addr) (Cs : List Addr) : Prop := ∀ (i : Nat) (C : Addr), Cs[i]? = some C → PySem.W.kitOne K (.ref C) (.ref G) = some (!decide (i = 10)) ∧ PySem.W.kitOne K (.ref C) (.type "ValueError") = some (!decide (i = 10)) ∧
  PySem.W.kitOne K (.ref C) (.ref N) = some (decide (i = 10)) ∧ PySem.W.kitAny K (.ref C) [.type "KeyError", .type "IndexError", .type "TypeError"] = some false ∧
  PySem.W.kitAny K (.ref C) [.type "ArithmeticError", .type "RuntimeError", .type "AttributeError"] = some false ∧ PySem.W.kitOne K (.ref C) (.type "LookupError") = some (decide (i = 10))
def mKinds (Cs : List Addr) (_ : Fr) (es : List Ent) (R : PyData → Prop) : Prop := ∃ (d : PyData) (C : Addr) (i : Nat), es = [.dat d] ∧ IsX C d ∧ Cs[i]? = some C ∧ R (.list ((List.range 11).map fun j => .bool (decide (j = i))))
def mBases (Cs : List Addr) (_ : Fr) (es : List Ent) (R : PyData → Prop) : Prop := ∃ (d : PyData) (C : Addr) (i : Nat), es = [.dat d] ∧ IsX C d ∧ Cs[i]? = some C ∧ R (.list [.bool (!decide (i = 10)), .bool (!decide (i = 10)), .bool (decide (i = 10)), .bool (decide (i = 10)), .bool false])
local macro_rules | `(tactic| walk_at "dl") => `(tactic| first
  | ((with_reducible refine ew_isX ?_))
  | ((with_reducible refine ew_isX3 ?_))
  | ((with_reducible refine ew_varE ?_); refine ⟨_, rfl, ?_⟩)
  | ((with_reducible refine ew_int ?_))
  | ((with_reducible refine ew_str ?_))
  | ((with_reducible refine ew_bl ?_))
  | ((with_reducible refine ew_non ?_))
  | ((with_reducible refine ew_op ?_))
  | ((with_reducible refine ew_un ?_))
  | ((with_reducible refine ew_tup ?_))
  | ((with_reducible refine ew_lst ?_))
  | ((with_reducible refine ew_call ?_))
  | ((with_reducible refine ew_isi ?_))
  | ((with_reducible refine ew_cb ?_))
  | ((with_reducible refine ea_nil ?_))
  | ((with_reducible refine ea_rawE ?_); refine ⟨_, rfl, ?_⟩)
  | ((with_reducible refine ea_cons ?_))
  | ((with_reducible refine AllD.nil ?_))
  | ((with_reducible refine AllD.cons ?_))
  | ((with_reducible refine ew_isN ?_))
  | ((with_reducible refine ew_sl ?_))
  | ((with_reducible refine eo_none ?_))
  | ((with_reducible refine eo_some ?_))
  | ((with_reducible refine sd_list ?_); refine ⟨_, rfl, ?_⟩)
  | ((with_reducible refine sd_tup ?_); refine ⟨_, rfl, ?_⟩)
  | ((with_reducible refine tw_test ?_))
  | ((with_reducible refine tw_B ?_))
  | ((with_reducible refine tw_not ?_))
  | ((with_reducible refine tw_and ?_))
  | ((with_reducible refine tw_or ?_))
  | ((with_reducible refine ew_andV ?_))
  | ((with_reducible refine ew_orV ?_))
  | ((with_reducible refine ew_notV ?_))
  | ((with_reducible refine sw_seq ?_))
  | ((with_reducible refine sw_if ?_))
  | ((with_reducible refine sw_ret ?_))
  | ((with_reducible refine sw_set ?_))
  | ((with_reducible refine sw_par ?_))
  | ((with_reducible refine sw_nx ?_))
  | ((with_reducible refine od_ix ?_); refine ⟨_, _, _, rfl, rfl, rfl, ?_⟩)
  | ((with_reducible refine od_mulI ?_); refine ⟨_, _, rfl, rfl, ?_, ?_⟩)
  | ((with_reducible refine od_mulNI ?_); refine ⟨_, _, rfl, rfl, ?_, ?_⟩)
  | ((with_reducible refine od_addI ?_); refine ⟨_, _, rfl, rfl, ?_⟩)
  | ((with_reducible refine od_addL ?_); refine ⟨_, _, rfl, rfl, ?_, ?_⟩)
  | ((with_reducible refine od_addT ?_); refine ⟨_, _, rfl, rfl, ?_, ?_⟩)
  | ((with_reducible refine od_I0 ?_); refine ⟨_, _, rfl, rfl, ?_⟩)
  | ((with_reducible refine od_B0 ?_); refine ⟨_, _, rfl, rfl, ?_⟩)
  | ((with_reducible refine od_I ?_); refine ⟨_, _, rfl, rfl, ?_, ?_⟩)
  | ((with_reducible refine ud_I ?_); refine ⟨_, rfl, ?_⟩)
  | ((with_reducible refine od_eqI' ?_))
  | ((with_reducible refine od_neI' ?_))
  | ((with_reducible refine cd_gcd ?_); refine ⟨_, _, rfl, ?_⟩)
  | ((with_reducible refine cd_lcm ?_); refine ⟨_, _, rfl, ?_, ?_, ?_⟩)
  | ((with_reducible refine qAbs ?_); refine ⟨_, rfl, ?_⟩)
  | ((with_reducible refine qInt ?_); refine ⟨_, rfl, ?_⟩)
  | ((with_reducible refine qLen ?_); refine ⟨_, _, rfl, rfl, ?_⟩)
  | ((with_reducible refine qTup ?_); refine ⟨_, _, rfl, rfl, ?_⟩)
  | ((with_reducible refine qLst ?_); refine ⟨_, _, rfl, rfl, ?_⟩)
  | ((with_reducible refine cd_anyT ?_); refine ⟨_, rfl, ?_⟩)
  | ((with_reducible refine cd_sum ?_); refine ⟨_, rfl, ?_⟩)
  | ((with_reducible refine qIntB ?_); refine ⟨_, rfl, ?_⟩)
  | ((with_reducible refine qMax2 ?_); refine ⟨_, _, rfl, ?_⟩)
  | ((with_reducible refine cd_all ?_); refine ⟨_, rfl, ?_⟩)
  | ((with_reducible refine ex_b ?_))
  | ((with_reducible refine ex_i ?_))
  | ((with_reducible refine ex_t ?_))
  | ((with_reducible refine ex_l ?_))
  | ((with_reducible refine ex_2 ?_))
  | ((with_reducible refine ew_x0 ?_))
  | ((with_reducible refine len_and ?_ ?_); exact Nat.le_of_ble_eq_true rfl)
  | ((with_reducible refine own_and ?_ ?_); rfl))
section
variable {P : Program} {w : World} {K : PySem.W.Frag} {mg : Str → Option Value} {base : Heap}
theorem ok_l_every {f : Addr} {fd : FuncData} (F : Fun K "_law_every" "_law_every" st_l_every f fd) (T : Tx mg) {C_GustError C_BadShape C_BadText C_TooGreat C_Bare C_Unbounded C_BadWish C_BadGust C_BadAct C_BadAsk C_NothingDone C_UnknownName C_NameMissing : Addr} (h_BadShape : HasI P w K mg base "BadShape" C_BadShape ["self", "path"] (spP K) "ValueError.__new__" mro_ValueError) (n_BadShape : PySem.W.findIn K (.ref C_BadShape) "path" = some none) (h_BadText : HasI P w K mg base "BadText" C_BadText ["self", "place"] (spX K "place") "ValueError.__new__" mro_ValueError) (n_BadText : PySem.W.findIn K (.ref C_BadText) "place" = some none) (h_TooGreat : Has0 K mg "TooGreat" C_TooGreat "ValueError.__new__" mro_ValueError) (h_Bare : Has0 K mg "Bare" C_Bare "ValueError.__new__" mro_ValueError) (h_Unbounded : Has0 K mg "Unbounded" C_Unbounded "ValueError.__new__" mro_ValueError) (h_BadWish : HasI P w K mg base "BadWish" C_BadWish ["self", "number"] (spX K "number") "ValueError.__new__" mro_ValueError) (n_BadWish : PySem.W.findIn K (.ref C_BadWish) "number" = some none) (h_BadGust : HasI P w K mg base "BadGust" C_BadGust ["self", "number"] (spX K "number") "ValueError.__new__" mro_ValueError) (n_BadGust : PySem.W.findIn K (.ref C_BadGust) "number" = some none) (h_BadAct : HasI P w K mg base "BadAct" C_BadAct ["self", "word"] (spX K "word") "ValueError.__new__" mro_ValueError) (n_BadAct : PySem.W.findIn K (.ref C_BadAct) "word" = some none) (h_BadAsk : HasI P w K mg base "BadAsk" C_BadAsk ["self", "word"] (spX K "word") "ValueError.__new__" mro_ValueError) (n_BadAsk : PySem.W.findIn K (.ref C_BadAsk) "word" = some none) (h_NothingDone : Has0 K mg "NothingDone" C_NothingDone "ValueError.__new__" mro_ValueError) (h_UnknownName : HasI P w K mg base "UnknownName" C_UnknownName ["self", "name"] (spX K "name") "LookupError.__new__" mro_LookupError) (n_UnknownName : PySem.W.findIn K (.ref C_UnknownName) "name" = some none) : FnOk P w K mg base CX0 3 f fd ["path", "number", "word", "name"] (spG (mEvery [C_BadShape, C_BadText, C_TooGreat, C_Bare, C_Unbounded, C_BadWish, C_BadGust, C_BadAct, C_BadAsk, C_NothingDone, C_UnknownName])) := by
  have nd := sc_l_every.nd
  refine fn_dl F sc_l_every (fun B es R ⟨_, _, _, _, _, e, _⟩ => by rw [e]; rfl) fun cdv A outer s H E hr B es R hm => ?_
  have hu := hu_of hr
  have hu64 := hr.units
  obtain ⟨e0, n, w', x, ds, rfl, hp, hR⟩ := hm
  refine ⟨_, (pss_cons (ps_set (i := 4) nd rfl (by first | exact Or.inl rfl | exact Or.inr rfl) (pe_lst (pa_cons (h_BadShape.call PySem.F.excBase_ValueError hr (pa_cons (pv 0) pa_nil)) (pa_cons (h_BadText.call PySem.F.excBase_ValueError hr (pa_cons (pv 1) pa_nil)) (pa_cons (h_TooGreat.call PySem.F.excBase_ValueError) (pa_cons (h_Bare.call PySem.F.excBase_ValueError) (pa_cons (h_Unbounded.call PySem.F.excBase_ValueError) (pa_cons (h_BadWish.call PySem.F.excBase_ValueError hr (pa_cons (pv 1) pa_nil)) (pa_cons (h_BadGust.call PySem.F.excBase_ValueError hr (pa_cons (pv 1) pa_nil)) pa_nil)))))))))
      (pss_one (ps_ret (pe_op (kAdd (K := K) rfl) (pv 4) (pe_lst (pa_cons (h_BadAct.call PySem.F.excBase_ValueError hr (pa_cons (pv 2) pa_nil)) (pa_cons (h_BadAsk.call PySem.F.excBase_ValueError hr (pa_cons (pv 2) pa_nil)) (pa_cons (h_NothingDone.call PySem.F.excBase_ValueError) (pa_cons (h_UnknownName.call PySem.F.excBase_LookupError hr (pa_cons (pv 3) pa_nil)) pa_nil))))))))), ?_⟩
  show SW B [e0, .dat n, .dat w', .dat x, .non] _ _
  refine sw_seq (sw_set (ew_lst ?_))
  repeat' walk_at "dl"
  refine ew_xPe h_BadShape.T n_BadShape rfl hp ?_
  repeat' walk_at "dl"
  refine ew_x1 h_BadText.T n_BadText (ew_var rfl ?_)
  repeat' walk_at "dl"
  refine ew_x1 h_BadWish.T n_BadWish (ew_var rfl ?_)
  repeat' walk_at "dl"
  refine ew_x1 h_BadGust.T n_BadGust (ew_var rfl ?_)
  repeat' walk_at "dl"
  refine ew_x1 h_BadAct.T n_BadAct (ew_var rfl ?_)
  repeat' walk_at "dl"
  refine ew_x1 h_BadAsk.T n_BadAsk (ew_var rfl ?_)
  repeat' walk_at "dl"
  refine ew_x1 h_UnknownName.T n_UnknownName (ew_var rfl ?_)
  repeat' walk_at "dl"
  · exact Nat.le_of_ble_eq_true rfl
  exact hR
theorem ok_l_kinds {f : Addr} {fd : FuncData} (F : Fun K "_law_kinds" "_law_kinds" st_l_kinds f fd) (T : Tx mg) {C_GustError C_BadShape C_BadText C_TooGreat C_Bare C_Unbounded C_BadWish C_BadGust C_BadAct C_BadAsk C_NothingDone C_UnknownName C_NameMissing : Addr} (kf : KFact K [C_BadShape, C_BadText, C_TooGreat, C_Bare, C_Unbounded, C_BadWish, C_BadGust, C_BadAct, C_BadAsk, C_NothingDone, C_UnknownName]) (m_BadShape : mg "BadShape" = some (.ref C_BadShape)) (m_BadText : mg "BadText" = some (.ref C_BadText)) (m_TooGreat : mg "TooGreat" = some (.ref C_TooGreat)) (m_Bare : mg "Bare" = some (.ref C_Bare)) (m_Unbounded : mg "Unbounded" = some (.ref C_Unbounded)) (m_BadWish : mg "BadWish" = some (.ref C_BadWish)) (m_BadGust : mg "BadGust" = some (.ref C_BadGust)) (m_BadAct : mg "BadAct" = some (.ref C_BadAct)) (m_BadAsk : mg "BadAsk" = some (.ref C_BadAsk)) (m_NothingDone : mg "NothingDone" = some (.ref C_NothingDone)) (m_UnknownName : mg "UnknownName" = some (.ref C_UnknownName)) : FnOk P w K mg base CX0 1 f fd ["e"] (spG (mKinds [C_BadShape, C_BadText, C_TooGreat, C_Bare, C_Unbounded, C_BadWish, C_BadGust, C_BadAct, C_BadAsk, C_NothingDone, C_UnknownName])) := by
  have nd := sc_l_kinds.nd
  refine fn_dl F sc_l_kinds (fun B es R ⟨_, _, _, e, _⟩ => by rw [e]; rfl) fun cdv A outer s H E hr B es R hm => ?_
  have hu := hu_of hr
  have hu64 := hr.units
  obtain ⟨d, C, i, rfl, hx, hi, hR⟩ := hm
  have kk := kf i C hi
  refine ⟨_, (pss_cons (ps_set (i := 1) nd rfl (by first | exact Or.inl rfl | exact Or.inr rfl) (pe_lst (pa_cons (pe_callB (kIsX (K := K) rfl) (by rfl) T.isinstance (by decide +kernel) (pa_cons (pv 0) (pa_cons (pe_glob (v := .ref C_BadShape) (by rfl) m_BadShape rfl) pa_nil))) (pa_cons (pe_callB (kIsX (K := K) rfl) (by rfl) T.isinstance (by decide +kernel) (pa_cons (pv 0) (pa_cons (pe_glob (v := .ref C_BadText) (by rfl) m_BadText rfl) pa_nil))) (pa_cons (pe_callB (kIsX (K := K) rfl) (by rfl) T.isinstance (by decide +kernel) (pa_cons (pv 0) (pa_cons (pe_glob (v := .ref C_TooGreat) (by rfl) m_TooGreat rfl) pa_nil))) (pa_cons (pe_callB (kIsX (K := K) rfl) (by rfl) T.isinstance (by decide +kernel) (pa_cons (pv 0) (pa_cons (pe_glob (v := .ref C_Bare) (by rfl) m_Bare rfl) pa_nil))) pa_nil))))))
      (pss_cons (ps_set (i := 1) nd rfl (by first | exact Or.inl rfl | exact Or.inr rfl) (pe_op (kAdd (K := K) rfl) (pv 1) (pe_lst (pa_cons (pe_callB (kIsX (K := K) rfl) (by rfl) T.isinstance (by decide +kernel) (pa_cons (pv 0) (pa_cons (pe_glob (v := .ref C_Unbounded) (by rfl) m_Unbounded rfl) pa_nil))) (pa_cons (pe_callB (kIsX (K := K) rfl) (by rfl) T.isinstance (by decide +kernel) (pa_cons (pv 0) (pa_cons (pe_glob (v := .ref C_BadWish) (by rfl) m_BadWish rfl) pa_nil))) (pa_cons (pe_callB (kIsX (K := K) rfl) (by rfl) T.isinstance (by decide +kernel) (pa_cons (pv 0) (pa_cons (pe_glob (v := .ref C_BadGust) (by rfl) m_BadGust rfl) pa_nil))) (pa_cons (pe_callB (kIsX (K := K) rfl) (by rfl) T.isinstance (by decide +kernel) (pa_cons (pv 0) (pa_cons (pe_glob (v := .ref C_BadAct) (by rfl) m_BadAct rfl) pa_nil))) pa_nil)))))))
      (pss_one (ps_ret (pe_op (kAdd (K := K) rfl) (pv 1) (pe_lst (pa_cons (pe_callB (kIsX (K := K) rfl) (by rfl) T.isinstance (by decide +kernel) (pa_cons (pv 0) (pa_cons (pe_glob (v := .ref C_BadAsk) (by rfl) m_BadAsk rfl) pa_nil))) (pa_cons (pe_callB (kIsX (K := K) rfl) (by rfl) T.isinstance (by decide +kernel) (pa_cons (pv 0) (pa_cons (pe_glob (v := .ref C_NothingDone) (by rfl) m_NothingDone rfl) pa_nil))) (pa_cons (pe_callB (kIsX (K := K) rfl) (by rfl) T.isinstance (by decide +kernel) (pa_cons (pv 0) (pa_cons (pe_glob (v := .ref C_UnknownName) (by rfl) m_UnknownName rfl) pa_nil))) pa_nil))))))))), ?_⟩
  show SW B [.dat d, .non] _ _
  repeat' walk_at "dl"
  refine ⟨C, decide (0 = i), hx, kk.1, ⟨.ref C_BadShape, fun u r => r, kk.2 0 _ rfl⟩, ?_⟩
  repeat' walk_at "dl"
  refine ⟨C, decide (1 = i), hx, kk.1, ⟨.ref C_BadText, fun u r => r, kk.2 1 _ rfl⟩, ?_⟩
  repeat' walk_at "dl"
  refine ⟨C, decide (2 = i), hx, kk.1, ⟨.ref C_TooGreat, fun u r => r, kk.2 2 _ rfl⟩, ?_⟩
  repeat' walk_at "dl"
  refine ⟨C, decide (3 = i), hx, kk.1, ⟨.ref C_Bare, fun u r => r, kk.2 3 _ rfl⟩, ?_⟩
  repeat' walk_at "dl"
  refine ⟨C, decide (4 = i), hx, kk.1, ⟨.ref C_Unbounded, fun u r => r, kk.2 4 _ rfl⟩, ?_⟩
  repeat' walk_at "dl"
  refine ⟨C, decide (5 = i), hx, kk.1, ⟨.ref C_BadWish, fun u r => r, kk.2 5 _ rfl⟩, ?_⟩
  repeat' walk_at "dl"
  refine ⟨C, decide (6 = i), hx, kk.1, ⟨.ref C_BadGust, fun u r => r, kk.2 6 _ rfl⟩, ?_⟩
  repeat' walk_at "dl"
  refine ⟨C, decide (7 = i), hx, kk.1, ⟨.ref C_BadAct, fun u r => r, kk.2 7 _ rfl⟩, ?_⟩
  repeat' walk_at "dl"
  · exact Nat.le_of_ble_eq_true rfl
  refine ⟨C, decide (8 = i), hx, kk.1, ⟨.ref C_BadAsk, fun u r => r, kk.2 8 _ rfl⟩, ?_⟩
  repeat' walk_at "dl"
  refine ⟨C, decide (9 = i), hx, kk.1, ⟨.ref C_NothingDone, fun u r => r, kk.2 9 _ rfl⟩, ?_⟩
  repeat' walk_at "dl"
  refine ⟨C, decide (10 = i), hx, kk.1, ⟨.ref C_UnknownName, fun u r => r, kk.2 10 _ rfl⟩, ?_⟩
  repeat' walk_at "dl"
  · exact Nat.le_of_ble_eq_true rfl
  exact hR
theorem ok_l_bases {f : Addr} {fd : FuncData} (F : Fun K "_law_bases" "_law_bases" st_l_bases f fd) (T : Tx mg) {C_GustError C_BadShape C_BadText C_TooGreat C_Bare C_Unbounded C_BadWish C_BadGust C_BadAct C_BadAsk C_NothingDone C_UnknownName C_NameMissing : Addr} (kf : KFact K [C_BadShape, C_BadText, C_TooGreat, C_Bare, C_Unbounded, C_BadWish, C_BadGust, C_BadAct, C_BadAsk, C_NothingDone, C_UnknownName]) (bf : BFact K C_GustError C_NameMissing [C_BadShape, C_BadText, C_TooGreat, C_Bare, C_Unbounded, C_BadWish, C_BadGust, C_BadAct, C_BadAsk, C_NothingDone, C_UnknownName]) (m_GustError : mg "GustError" = some (.ref C_GustError)) (m_NameMissing : mg "NameMissing" = some (.ref C_NameMissing)) : FnOk P w K mg base CX0 1 f fd ["e"] (spG (mBases [C_BadShape, C_BadText, C_TooGreat, C_Bare, C_Unbounded, C_BadWish, C_BadGust, C_BadAct, C_BadAsk, C_NothingDone, C_UnknownName])) := by
  have nd := sc_l_bases.nd
  refine fn_dl F sc_l_bases (fun B es R ⟨_, _, _, e, _⟩ => by rw [e]; rfl) fun cdv A outer s H E hr B es R hm => ?_
  have hu := hu_of hr
  have hu64 := hr.units
  obtain ⟨d, C, i, rfl, hx, hi, hR⟩ := hm
  have X := (kf i C hi).1
  obtain ⟨b1, b2, b3, b4, b5, b6⟩ := bf i C hi
  refine ⟨_, (pss_cons (ps_set (i := 1) nd rfl (by first | exact Or.inl rfl | exact Or.inr rfl) (pe_lst (pa_cons (pe_callB (kIsX (K := K) rfl) (by rfl) T.isinstance (by decide +kernel) (pa_cons (pv 0) (pa_cons (pe_glob (v := .ref C_GustError) (by rfl) m_GustError rfl) pa_nil))) (pa_cons (pe_callB (kIsX (K := K) rfl) (by rfl) T.isinstance (by decide +kernel) (pa_cons (pv 0) (pa_cons (pe_bltn (v := .ty "ValueError") (by rfl) T.ValueError (by decide +kernel) rfl) pa_nil))) (pa_cons (pe_callB (kIsX (K := K) rfl) (by rfl) T.isinstance (by decide +kernel) (pa_cons (pv 0) (pa_cons (pe_glob (v := .ref C_NameMissing) (by rfl) m_NameMissing rfl) pa_nil))) pa_nil)))))
      (pss_cons (ps_set (i := 2) nd rfl (by first | exact Or.inl rfl | exact Or.inr rfl) (pe_callB (kIsX (K := K) rfl) (by rfl) T.isinstance (by decide +kernel) (pa_cons (pv 0) (pa_cons (pe_tup (pa_cons (pe_bltn (v := .ty "KeyError") (by rfl) T.KeyError (by decide +kernel) rfl) (pa_cons (pe_bltn (v := .ty "IndexError") (by rfl) T.IndexError (by decide +kernel) rfl) (pa_cons (pe_bltn (v := .ty "TypeError") (by rfl) T.TypeError (by decide +kernel) rfl) pa_nil)))) pa_nil))))
      (pss_cons (ps_set (i := 2) nd rfl (by first | exact Or.inl rfl | exact Or.inr rfl) (pe_or (pv 2) (pe_one (pe_callB (kIsX (K := K) rfl) (by rfl) T.isinstance (by decide +kernel) (pa_cons (pv 0) (pa_cons (pe_tup (pa_cons (pe_bltn (v := .ty "ArithmeticError") (by rfl) T.ArithmeticError (by decide +kernel) rfl) (pa_cons (pe_bltn (v := .ty "RuntimeError") (by rfl) T.RuntimeError (by decide +kernel) rfl) (pa_cons (pe_bltn (v := .ty "AttributeError") (by rfl) T.AttributeError (by decide +kernel) rfl) pa_nil)))) pa_nil))))))
      (pss_one (ps_ret (pe_op (kAdd (K := K) rfl) (pv 1) (pe_lst (pa_cons (pe_callB (kIsX (K := K) rfl) (by rfl) T.isinstance (by decide +kernel) (pa_cons (pv 0) (pa_cons (pe_bltn (v := .ty "LookupError") (by rfl) T.LookupError (by decide +kernel) rfl) pa_nil))) (pa_cons (pv 2) pa_nil))))))))), ?_⟩
  show SW B [.dat d, .non, .non] _ _
  repeat' walk_at "dl"
  refine ⟨C, _, hx, X, ⟨.ref C_GustError, fun u r => r, b1⟩, ?_⟩
  repeat' walk_at "dl"
  refine ⟨C, _, hx, X, ⟨.type "ValueError", fun u r => r, b2⟩, ?_⟩
  repeat' walk_at "dl"
  refine ⟨C, _, hx, X, ⟨.ref C_NameMissing, fun u r => r, b3⟩, ?_⟩
  repeat' walk_at "dl"
  refine ⟨C, false, hx, X, fun us r => ?_, ?_⟩
  · cases r with | cons r1 r => cases r with | cons r2 r => cases r with | cons r3 r => cases r; cases r1; cases r2; cases r3; exact b4
  repeat' walk_at "dl"
  refine iteF ?_
  repeat' walk_at "dl"
  refine ⟨C, false, hx, X, fun us r => ?_, ?_⟩
  · cases r with | cons r1 r => cases r with | cons r2 r => cases r with | cons r3 r => cases r; cases r1; cases r2; cases r3; exact b5
  repeat' walk_at "dl"
  refine ⟨C, _, hx, X, ⟨.type "LookupError", fun u r => r, b6⟩, ?_⟩
  repeat' walk_at "dl"
  · exact Nat.le_of_ble_eq_true rfl
  exact hR
end
end G0
end
section
set_option Elab.async false
set_option linter.all false
set_option maxRecDepth 100000
set_option maxHeartbeats 0
namespace G0
open PySem L2 PySem.Spec PyProof.Rows Dl Xo RZ Ev
section
variable {P : Program} {w : World} {K : PySem.W.Frag} {mg : Str → Option Value} {base : Heap}
theorem ok_pick {f : Addr} {fd : FuncData} (F : Fun K "_law_pick" "_law_pick" st_l_pick f fd) (T : Tx mg) : FnOk P w K mg base CX0 1 f fd ["source", "many"] (spG mPick) := by
  have nd := sc_l_pick.nd
  refine F.ok sc_l_pick (fun vs H Q E h => ?_) (fun cdv A outer s H vs Q E hr h => ?_)
  · obtain ⟨B, O, es, R, ⟨p, l, many, rfl, rfl, _⟩, _, _, sl, _⟩ := h
    match vs, sl with
    | [_, _], _ => rfl
  · obtain ⟨B, O, es, R, ⟨p, l, many, rfl, rfl, hm, hR⟩, _, j, sl, k⟩ := h
    have hu := hu_of hr
    have hu64 := hr.units
    obtain ⟨e1, e2⟩ : vs = [.ref p, .int many] ∧ True := by
      match vs, sl with
      | [a, b], sl =>
        obtain ⟨c1, ⟨v, c2, c3⟩, _⟩ := sl
        cases c1
        cases c2
        cases c3
        exact ⟨rfl, trivial⟩
    subst e1
    refine ⟨_, (pss_cons (ps_while PassesOwn.never (PW.pt (pw_and (pt_cmpR op_gt (pv 1) pe_int (nomark _)) (pw_and (pt_cmpR op_lt (pe_dget hu (pv 0) pe_str (fun _ _ => rfl)) pe_int (nomark _)) (pw_and1 (pt_cmpR op_gt (pe_callB call_len_seq (by rfl) T.len (by decide +kernel) (pa_cons (pe_dget hu (pv 0) pe_str (fun _ _ => rfl)) pa_nil)) pe_int (nomark _)))))) (pss_one (ps_dput hu (pv 0) pe_str (pe_bm0 PySem.F.plainAttrs_list PySem.F.slot_list_pop PySem.F.type_list_pop mt_pop (pe_dget hu (pv 0) pe_str (fun _ _ => rfl))) rfl)))
      (pss_cons (ps_set (i := 2) nd rfl (by first | exact Or.inl rfl | exact Or.inr rfl) (pe_dget hu (pv 0) pe_str (fun _ _ => rfl)))
      (pss_cons (ps_if (PW.pt (pw_or (pt_cmpR op_lt (pv 1) pe_int (nomark _)) (pw_or1 (pt_cmpR op_gt (pv 2) pe_int (nomark _))))) (pss_cons (ps_dput hu (pv 0) pe_str (pe_op op_fdivG (pv 2) (pe_callB (call_max2 rfl) (by rfl) T.max (by decide +kernel) (pa_cons pe_int (pa_cons (pv 1) pa_nil)))) rfl)
      (pss_one (ps_ret (pe_op op_modN (pe_callTy call_int1 (by rfl) T.int (by decide +kernel) (pa_cons (pv 2) pa_nil)) (pe_callB (call_max2 rfl) (by rfl) T.max (by decide +kernel) (pa_cons pe_int (pa_cons (pv 1) pa_nil))))))) pss_nil)
      (pss_cons (ps_dput hu (pv 0) pe_str (pe_op op_addA (pe_dget hu (pv 0) pe_str (fun _ _ => rfl)) pe_int) rfl)
      (pss_cons (ps_set (i := 3) nd rfl (by first | exact Or.inl rfl | exact Or.inr rfl) (pe_op op_modN (pe_callTy call_int1 (by rfl) T.int (by decide +kernel) (pa_cons (pe_op op_addA (pe_dget hu (pv 0) pe_str (fun _ _ => rfl)) (pe_op op_mulA (pe_dget hu (pv 0) pe_str (fun _ _ => rfl)) pe_int)) pa_nil)) pe_int))
      (pss_cons (ps_set (i := 3) nd rfl (by first | exact Or.inl rfl | exact Or.inr rfl) (pe_op op_modN (pe_callTy call_int1 (by rfl) T.int (by decide +kernel) (pa_cons (pe_op op_addA (pe_op op_mulA (pv 3) (pv 3)) (pe_op op_mulA (pe_dget hu (pv 0) pe_str (fun _ _ => rfl)) pe_int)) pa_nil)) pe_int))
      (pss_cons (ps_dput hu (pv 0) pe_str (pv 3) rfl)
      (pss_one (ps_ret (pe_op op_modN (pe_callTy call_int1 (by rfl) T.int (by decide +kernel) (pa_cons (pe_op op_fdivG (pv 3) pe_int) pa_nil)) (pv 1))))))))))), ?_⟩
    have fin : ∀ (H2 : Hp) (kvs : List (Key × V)) (cells : List Int) (x m t : Int), SrcC p l H2 kvs cells x m t → Drw p l H H2 → ∀ r : Int, 0 ≤ r → r < max 1 many → Q (.int r) H2 := fun H2 kvs cells x m t s2 d2 r h0 h1 =>
      k _ _ _ (hR r h0 h1) (d2.gro j ⟨kvs, cells, x, m, t, s2⟩) (.int r)
    have hpos : 0 < max 1 many := by omega
    have hlog : (max 1 many).natAbs.log2 < 9000 := by
      have h1 : (max 1 many).natAbs.log2 < 64 := PySem.Flt.log2_lt_of (by decide) (show (max 1 many).natAbs < 2 ^ 64 by omega)
      omega
    -- the while
    refine while_at (fun m H' => Drw p l H H' ∧ ∃ kvs cells x mm t, SrcC p l H' kvs cells x mm t ∧ m = cells.length) ?_ ?_ ?_ ?_
    · obtain ⟨kvs, cells, x, mm, t, s⟩ := j.1
      exact ⟨cells.length, fun a o _ _ e => e, kvs, cells, x, mm, t, s, rfl⟩
    · rintro H1 ⟨m, dr, kvs, cells, x, mm, t, s, rfl⟩
      -- left = source['left']
      refine ⟨_, rfl, p, _, rfl, s.gL, ?_⟩
      refine ⟨_, rfl, _, _, rfl, rfl, _, rfl, ?_⟩
      by_cases c1 : many < 2
      · rw [decide_eq_true c1]
        refine iteT (iteT ?_)
        refine ⟨_, rfl, _, rfl, 1, many, rfl, x, _, rfl, rfl, ?d1, _, rfl, p, _, rfl, DPut.k (k := kLeft) s.hd (len100 s.hn), ?_⟩
        (case d1 => (rw [max_eq]; exact ⟨by omega, hlog⟩))
        refine ⟨_, rfl, .inl ⟨x, rfl, _, rfl, 1, many, rfl, x, _, rfl, rfl, ?d2, ?_⟩⟩
        (case d2 => (rw [max_eq]; exact (by omega : max 1 many ≠ 0)))
        rw [max_eq]
        exact fin _ _ _ _ _ _ (s.pL _) dr.put _ (Int.fmod_nonneg_of_pos _ hpos) (Int.fmod_lt_of_pos _ hpos)
      · rw [decide_eq_false c1]
        refine iteF ⟨_, rfl, _, _, rfl, rfl, _, rfl, ?_⟩
        by_cases c2 : 1 < x
        · rw [decide_eq_true c2]
          refine iteT ?_
          refine ⟨_, rfl, _, rfl, 1, many, rfl, x, _, rfl, rfl, ?d1, _, rfl, p, _, rfl, DPut.k (k := kLeft) s.hd (len100 s.hn), ?_⟩
          (case d1 => (rw [max_eq]; exact ⟨by omega, hlog⟩))
          refine ⟨_, rfl, .inl ⟨x, rfl, _, rfl, 1, many, rfl, x, _, rfl, rfl, ?d2, ?_⟩⟩
          (case d2 => (rw [max_eq]; exact (by omega : max 1 many ≠ 0)))
          rw [max_eq]
          exact fin _ _ _ _ _ _ (s.pL _) dr.put _ (Int.fmod_nonneg_of_pos _ hpos) (Int.fmod_lt_of_pos _ hpos)
        · rw [decide_eq_false c2]
          refine iteF ?_
          refine ⟨_, rfl, p, _, rfl, s.gT, .inl ⟨t, 1, rfl, rfl, _, rfl, p, _, rfl, DPut.k (k := kTurn) s.hd (len100 s.hn), ?_⟩⟩
          have s2 := s.pT (t + 1)
          refine ⟨_, rfl, p, _, rfl, s2.gM, _, rfl, p, _, rfl, s2.gT, .inl ⟨_, _, rfl, rfl, .inr (.inr ⟨by decide, by decide⟩), .inl ⟨_, _, rfl, rfl, .inl ⟨_, rfl, _, _, rfl, rfl, (show (998244353 : Int) ≠ 0 by decide), ?_⟩⟩⟩⟩
          have b1 := Int.fmod_nonneg_of_pos (mm + (t + 1) * 104729) (show (0 : Int) < 998244353 by decide)
          have b2 := Int.fmod_lt_of_pos (mm + (t + 1) * 104729) (show (0 : Int) < 998244353 by decide)
          refine ⟨_, rfl, _, rfl, .inl ⟨_, _, rfl, rfl, .inr (.inl ⟨by omega, by omega⟩), _, rfl, p, _, rfl, s2.gT, .inl ⟨_, _, rfl, rfl, .inr (.inr ⟨by decide, by decide⟩), .inl ⟨_, _, rfl, rfl, .inl ⟨_, rfl, _, _, rfl, rfl, (show (2147483647 : Int) ≠ 0 by decide), ?_⟩⟩⟩⟩⟩
          have b3 := Int.fmod_nonneg_of_pos ((mm + (t + 1) * 104729).fmod 998244353 * (mm + (t + 1) * 104729).fmod 998244353 + (t + 1) * 17) (show (0 : Int) < 2147483647 by decide)
          have b4 := Int.fmod_lt_of_pos ((mm + (t + 1) * 104729).fmod 998244353 * (mm + (t + 1) * 104729).fmod 998244353 + (t + 1) * 17) (show (0 : Int) < 2147483647 by decide)
          refine ⟨_, rfl, _, rfl, p, _, rfl, DPut.k (k := kMixed) s2.hd (len100 s2.hn), ?_⟩
          refine ⟨_, rfl, _, _, rfl, rfl, ⟨by decide, by decide⟩, .inl ⟨_, rfl, _, rfl, _, _, rfl, rfl, (show many ≠ 0 by omega), ?_⟩⟩
          have e : max 1 many = many := by omega
          refine fin _ _ _ _ _ _ (s2.pM _ ⟨by omega, by omega⟩) dr.put.put _ ?_ ?_
          · exact Int.fmod_nonneg_of_pos _ (by omega)
          · rw [e]; exact Int.fmod_lt_of_pos _ (by omega)
    · intro after m H1 ⟨dr, kvs, cells, x, mm, t, s, hm⟩
      subst hm
      have aft := after H1 ⟨_, dr, kvs, cells, x, mm, t, s, rfl⟩
      by_cases c1 : 1 < many
      · refine ⟨_, rfl, _, _, rfl, rfl, _, rfl, ?_⟩
        rw [decide_eq_true c1]
        refine iteT ⟨_, rfl, p, _, rfl, s.gL, _, _, rfl, rfl, _, rfl, ?_⟩
        by_cases c2 : x < 2
        · rw [decide_eq_true c2]
          refine iteT ⟨_, rfl, p, _, rfl, s.gC, l, _, rfl, .inl (SqL.of s.hl), _, _, rfl, rfl, _, rfl, ?_⟩
          by_cases c3 : (0 : Int) < ((cells.map V.int).length : Nat)
          · rw [decide_eq_true c3]
            refine iteT ?_
            obtain ⟨c, hc⟩ : ∃ c : Int, (cells.map V.int)[(cells.map V.int).length - 1]? = some (V.int c) := by
              rw [List.length_map] at c3 ⊢
              refine ⟨cells[cells.length - 1]'(by omega), ?_⟩
              rw [List.getElem?_map, List.getElem?_eq_getElem (by omega)]
              rfl
            refine ⟨_, rfl, p, _, rfl, s.gC, .inl ⟨rfl, _, SqL.of s.hl⟩, l, _, _, rfl, rfl, s.hl, hc, ?_⟩
            have s2 := s.pop
            refine ⟨_, rfl, p, _, rfl, DPut.k (k := kLeft) s2.hd (len100 s2.hn), rfl, cells.dropLast.length, ?_, dr.putl.put, _, _, _, _, _, s2.pL c, rfl⟩
            rw [List.length_dropLast]
            rw [List.length_map] at c3
            omega
          · rw [decide_eq_false c3]
            exact iteF aft
        · rw [decide_eq_false c2]
          exact iteF aft
      · refine ⟨_, rfl, _, _, rfl, rfl, _, rfl, ?_⟩
        rw [decide_eq_false c1]
        exact iteF aft
    · rintro σ H Q Q' hq ⟨a1, a2, i1, j1, b1, b2, k1, k2, h⟩
      refine ⟨a1, a2, i1, j1, b1, b2, k1, k2, ?_⟩
      cases k1 with
      | false => exact hq _ _ h
      | true =>
        obtain ⟨c1, c2, p1, v1, d1, d2, i2, j2, b3, b4, k3, k4, h⟩ := h
        refine ⟨c1, c2, p1, v1, d1, d2, i2, j2, b3, b4, k3, k4, ?_⟩
        cases k3 with
        | false => exact hq _ _ h
        | true =>
          obtain ⟨c3, c4, p2, v2, d3, d4, p3, ys, b5, b6, i3, j3, b7, b8, k5, k6, h⟩ := h
          exact ⟨c3, c4, p2, v2, d3, d4, p3, ys, b5, b6, i3, j3, b7, b8, k5, k6, hq _ _ h⟩
theorem ok_source {f : Addr} {fd : FuncData} (F : Fun K "_law_source" "_law_source" st_l_source f fd) (T : Tx mg) : FnOk P w K mg base CX0 1 f fd ["script"] (spSource K) := by
  have nd := sc_l_source.nd
  refine F.ok sc_l_source (fun vs H Q E h => ?_) (fun cdv A outer s H vs Q E hr h => ?_)
  · obtain ⟨a, ns, rfl, _⟩ := h
    rfl
  · obtain ⟨a, ns, rfl, hS, hn, k⟩ := h
    have hu := hu_of hr
    refine ⟨_, (pss_cons (ps_set (i := 1) nd rfl (Or.inl rfl) pe_int)
      (pss_cons (ps_for PassesOwn.never rfl (pi_list (pv 0)) (pg_name (i := 2) nd rfl (by first | exact Or.inl rfl | exact Or.inr rfl)) (pss_one (ps_set (i := 1) nd rfl (Or.inl rfl) (pe_op op_modN (pe_callTy call_int1 (by rfl) T.int (by decide +kernel) (pa_cons (pe_op op_addA (pe_op op_addA (pe_op op_mulA (pv 1) pe_int) (pe_op op_mulA (pv 2) pe_int)) pe_int) pa_nil)) pe_int))))
      (pss_one (ps_ret (pe_disp (pps_cons pe_str (pe_revL (pe_lc (own := [("cell", 2)]) rfl nd (pi_list (pv 0)) (blkOk_by (N := names_l_source) (sc := defScope st_l_source) (by decide +kernel)) (fun _ _ _ _ _ => (pg_name (i := 2) nd rfl (by first | exact Or.inl rfl | exact Or.inr rfl))) (fun _ _ _ _ _ => pts_nil) (fun _ _ _ _ _ => (pe_callB call_abs (by rfl) T.abs (by decide +kernel) (pa_cons (pv 2) pa_nil)))))
        (pps_cons pe_str pe_int (pps_cons pe_str (pv 1) (pps_cons pe_str pe_int pps_nil)))) (by rfl) (by rfl) (fun z => by cases z) (by decide)))))), ?_⟩
    refine ⟨_, rfl, a, rfl, ⟨_, hS⟩, for_list (K := K) (a := a) (xs := ns.map V.int) (fun i σ H2 => ∃ (m : Int) (v : Option V), σ = [some (.ref a), some (.int m), v] ∧ (-(2 ^ 64) < m ∧ m < 2 ^ 64) ∧ H2 = H) ⟨11, none, rfl, ⟨by decide, by decide⟩, rfl⟩ (fun i σ H2 _ ⟨_, _, _, _, e⟩ => by rw [e]; exact hS) ?_ ?_⟩
    · rintro i y σ H2 hi ⟨m, v, rfl, hb, rfl⟩
      obtain ⟨c, rfl⟩ : ∃ c, y = V.int c := by
        rw [List.getElem?_map] at hi
        cases e : ns[i]? with
        | none => rw [e] at hi; cases hi
        | some z => rw [e] at hi; exact ⟨z, (Option.some.inj hi).symm⟩
      refine ⟨_, rfl, .inl ⟨_, _, rfl, rfl, .inr (.inl hb), _, rfl, .inl ⟨_, _, rfl, rfl, .inr (.inr ⟨by decide, by decide⟩), .inl ⟨_, _, rfl, rfl, .inl ⟨_, _, rfl, rfl, .inl ⟨_, rfl, _, _, rfl, rfl, (show (2147483629 : Int) ≠ 0 by decide), ?_⟩⟩⟩⟩⟩⟩
      have b1 := Int.fmod_nonneg_of_pos (m * 69069 + c * 31 + 5) (show (0 : Int) < 2147483629 by decide)
      have b2 := Int.fmod_lt_of_pos (m * 69069 + c * 31 + 5) (show (0 : Int) < 2147483629 by decide)
      exact ⟨_, _, rfl, ⟨by omega, by omega⟩, rfl⟩
    · rintro σ H2 ⟨m, v, rfl, hb, rfl⟩
      intro p hp
      have sH : Same H2 (upd H2 p (.dK [])) := fun b o e => by rw [upd_ne (ne_of_none e hp)]; exact e
      refine ⟨_, rfl, a, rfl, ⟨_, sH.seq hS⟩, fun D hD => ?_⟩
      have npD : D ≠ p := fun z => by rw [z, upd_same] at hD; cases hD
      have hD0 : H2 D = none := by rw [upd_ne npD] at hD; exact hD
      refine lc_list (K := K) (a := a) (xs := ns.map V.int) (fun i H3 => Same H2 H3 ∧ H3 p = some (.dK []) ∧ ∃ cs : List Int, H3 D = some (.lst (cs.map V.int)) ∧ cs.length = i) ⟨fun b o e => ?_, ?_, [], upd_same, rfl⟩ (fun i H3 _ ⟨sm, _⟩ => sm.seq hS) (fun i x H3 hi ⟨sm, ep, cs, ed, hl⟩ => ?_) ?_
      · rw [upd_ne (ne_of_none e hD0)]; exact sH b o e
      · rw [upd_ne npD.symm]; exact upd_same
      · obtain ⟨c, rfl⟩ : ∃ c, x = V.int c := by
          rw [List.getElem?_map] at hi
          cases e : ns[i]? with
          | none => rw [e] at hi; cases hi
          | some z => rw [e] at hi; exact ⟨z, (Option.some.inj hi).symm⟩
        have hi2 : i < ns.length := by
          have := (List.getElem?_eq_some_iff.mp hi).1
          rwa [List.length_map] at this
        refine ⟨rfl, ?_⟩
        refine ⟨_, rfl, c, rfl, _, ed, ?_, fun b o e => ?_, ?_, cs ++ [if c < 0 then -c else c], ?_, ?_⟩
        · rw [List.length_map, hl]; exact Nat.lt_of_lt_of_le (Nat.lt_of_lt_of_le hi2 hn) (by decide)
        · rw [upd_ne (ne_of_none e hD0)]; exact sm b o e
        · rw [upd_ne npD.symm]; exact ep
        · rw [upd_same, List.map_append]; rfl
        · rw [List.length_append, List.length_singleton, hl]
      · rintro H3 ⟨sm, ep, cs, ed, hl⟩
        refine ⟨D, _, rfl, SqL.of ed, fun l hl2 => ?_⟩
        have nlp : l ≠ p := fun z => by rw [z, ep] at hl2; cases hl2
        refine ⟨_, rfl, ?_⟩
        refine ⟨by rw [upd_ne nlp.symm]; exact ep, [(kCells, .ref l), (kLeft, .int 1), (kMixed, .int m), (kTurn, .int 0)], rfl, (show 4 ≤ 15 by decide), ?_⟩
        rw [merge4]
        refine k p l _ (fun b o e => ?_) hp (sm.free hl2) ⟨_, cs.reverse, 1, m, 0, upd_same, (show 4 ≤ 100 by decide), valV_pos rfl, by rw [valV_neg k1, valV_pos rfl], by rw [valV_neg k7, valV_neg k8, valV_pos rfl], by rw [valV_neg k4, valV_neg k5, valV_neg k6, valV_pos rfl], ?_, hb⟩
        · rw [upd_ne (ne_of_none e hp), upd_ne (ne_of_none (sm b o e) hl2)]; exact sm b o e
        · rw [upd_ne nlp, upd_same, List.map_reverse]
end
local macro_rules | `(tactic| walk_at "dl") => `(tactic| first
  | ((with_reducible refine ew_varE ?_); refine ⟨_, rfl, ?_⟩)
  | ((with_reducible refine ew_int ?_))
  | ((with_reducible refine ew_str ?_))
  | ((with_reducible refine ew_bl ?_))
  | ((with_reducible refine ew_non ?_))
  | ((with_reducible refine ew_op ?_))
  | ((with_reducible refine ew_un ?_))
  | ((with_reducible refine ew_tup ?_))
  | ((with_reducible refine ew_lst ?_))
  | ((with_reducible refine ew_call ?_))
  | ((with_reducible refine ew_isi ?_))
  | ((with_reducible refine ew_cb ?_))
  | ((with_reducible refine ea_nil ?_))
  | ((with_reducible refine ea_rawE ?_); refine ⟨_, rfl, ?_⟩)
  | ((with_reducible refine ea_cons ?_))
  | ((with_reducible refine AllD.nil ?_))
  | ((with_reducible refine AllD.cons ?_))
  | ((with_reducible refine ew_if ?_))
  | ((with_reducible refine ew_isN ?_))
  | ((with_reducible refine ew_sl ?_))
  | ((with_reducible refine eo_none ?_))
  | ((with_reducible refine eo_some ?_))
  | ((with_reducible refine sd_list ?_); refine ⟨_, rfl, ?_⟩)
  | ((with_reducible refine sd_tup ?_); refine ⟨_, rfl, ?_⟩)
  | ((with_reducible refine tw_test ?_))
  | ((with_reducible refine tw_B ?_))
  | ((with_reducible refine tw_not ?_))
  | ((with_reducible refine tw_and ?_))
  | ((with_reducible refine tw_or ?_))
  | ((with_reducible refine ew_andV ?_))
  | ((with_reducible refine ew_orV ?_))
  | ((with_reducible refine ew_notV ?_))
  | ((with_reducible refine sw_seq ?_))
  | ((with_reducible refine sw_if ?_))
  | ((with_reducible refine sw_ret ?_))
  | ((with_reducible refine sw_set ?_))
  | ((with_reducible refine sw_par ?_))
  | ((with_reducible refine sw_nx ?_))
  | ((with_reducible refine od_ix ?_); refine ⟨_, _, _, rfl, rfl, rfl, ?_⟩)
  | ((with_reducible refine od_mulI ?_); refine ⟨_, _, rfl, rfl, ?_, ?_⟩)
  | ((with_reducible refine od_mulNI ?_); refine ⟨_, _, rfl, rfl, ?_, ?_⟩)
  | ((with_reducible refine od_addI ?_); refine ⟨_, _, rfl, rfl, ?_⟩)
  | ((with_reducible refine od_addL ?_); refine ⟨_, _, rfl, rfl, ?_, ?_⟩)
  | ((with_reducible refine od_addT ?_); refine ⟨_, _, rfl, rfl, ?_, ?_⟩)
  | ((with_reducible refine od_I0 ?_); refine ⟨_, _, rfl, rfl, ?_⟩)
  | ((with_reducible refine od_B0 ?_); refine ⟨_, _, rfl, rfl, ?_⟩)
  | ((with_reducible refine od_I ?_); refine ⟨_, _, rfl, rfl, ?_, ?_⟩)
  | ((with_reducible refine ud_I ?_); refine ⟨_, rfl, ?_⟩)
  | ((with_reducible refine od_eqI' ?_))
  | ((with_reducible refine od_neI' ?_))
  | ((with_reducible refine od_eqS' ?_))
  | ((with_reducible refine od_neS' ?_))
  | ((with_reducible refine cd_gcd ?_); refine ⟨_, _, rfl, ?_⟩)
  | ((with_reducible refine cd_lcm ?_); refine ⟨_, _, rfl, ?_, ?_, ?_⟩)
  | ((with_reducible refine qAbs ?_); refine ⟨_, rfl, ?_⟩)
  | ((with_reducible refine qInt ?_); refine ⟨_, rfl, ?_⟩)
  | ((with_reducible refine qLen ?_); refine ⟨_, _, rfl, rfl, ?_⟩)
  | ((with_reducible refine qTup ?_); refine ⟨_, _, rfl, rfl, ?_⟩)
  | ((with_reducible refine qLst ?_); refine ⟨_, _, rfl, rfl, ?_⟩)
  | ((with_reducible refine cd_anyT ?_); refine ⟨_, rfl, ?_⟩)
  | ((with_reducible refine cd_sum ?_); refine ⟨_, rfl, ?_⟩)
  | ((with_reducible refine qIntB ?_); refine ⟨_, rfl, ?_⟩)
  | ((with_reducible refine qMax2 ?_); refine ⟨_, _, rfl, ?_⟩)
  | ((with_reducible refine cd_all ?_); refine ⟨_, rfl, ?_⟩)
  | ((with_reducible refine ex_b ?_))
  | ((with_reducible refine ex_i ?_))
  | ((with_reducible refine ex_t ?_))
  | ((with_reducible refine ex_l ?_))
  | ((with_reducible refine ex_2 ?_))
  | ((with_reducible refine pick_atE ?_); refine ⟨by decide, fun r h0 h1 => ?_⟩)
  | ((with_reducible refine great_atE ?_); refine ⟨_, rfl, by decide, by decide, fun n h0 h1 => ?_⟩)
  | ((with_reducible refine len_and ?_ ?_); exact Nat.le_of_ble_eq_true rfl)
  | ((with_reducible refine own_and ?_ ?_); rfl))
section
variable {P : Program} {w : World} {K : PySem.W.Frag} {mg : Str → Option Value} {base : Heap}
theorem ok_l_of {f : Addr} {fd : FuncData} (F : Fun K "_law_of" "_law_of" st_l_of f fd) (T : Tx mg) (c_l_pick : Has P w K mg base "_law_pick" 1 ["source", "many"] (spG mPick))  : FnOk P w K mg base CX0 2 f fd ["source", "some"] (spG mOf) := by
  have nd := sc_l_of.nd
  refine fn_dl F sc_l_of (fun B es R ⟨p, l, k, _, e, _⟩ => by rw [e]; rfl) fun cdv A outer s H E hr B es R hm => ?_
  have hu := hu_of hr
  have hu64 := hr.units
  obtain ⟨p, l, ds, rfl, rfl, h0, h1, hR⟩ := hm
  refine ⟨_, (pss_one (ps_ret (pe_ix (kIx (K := K) rfl) (pv 1) (c_l_pick.call hr (pa_cons (pv 0) (pa_cons (pe_callB (kLen (K := K) rfl) (by rfl) T.len (by decide +kernel) (pa_cons (pv 1) pa_nil)) pa_nil))) (fun _ _ => rfl)))), ?_⟩
  show SW (Fsrc p l) [.raw (.ref p), .dat (.list ds)] _ _
  repeat' walk_at "dl"
  have hl : 0 < ds.length := List.length_pos_iff.mpr h0
  refine pick_at (by omega) fun r g0 g1 => ?_
  have hr2 : r.toNat < ds.length := by omega
  have er : r = ((r.toNat : Nat) : Int) := by omega
  exact od_ix ⟨ds, r, ds[r.toNat], rfl, rfl, atD er (List.getElem?_eq_getElem hr2), hR _ (List.getElem_mem hr2)⟩

end
end G0
end
section
set_option Elab.async false
set_option linter.all false
set_option maxRecDepth 100000
set_option maxHeartbeats 0
namespace G0
open PySem L2 PySem.Spec PyProof.Rows Dl Xo RZ Ev
local macro_rules | `(tactic| walk_at "dl") => `(tactic| first
  | ((with_reducible refine ew_varE ?_); refine ⟨_, rfl, ?_⟩)
  | ((with_reducible refine ew_int ?_))
  | ((with_reducible refine ew_str ?_))
  | ((with_reducible refine ew_bl ?_))
  | ((with_reducible refine ew_non ?_))
  | ((with_reducible refine ew_op ?_))
  | ((with_reducible refine ew_un ?_))
  | ((with_reducible refine ew_tup ?_))
  | ((with_reducible refine ew_lst ?_))
  | ((with_reducible refine ew_call ?_))
  | ((with_reducible refine ew_isi ?_))
  | ((with_reducible refine ew_cb ?_))
  | ((with_reducible refine ea_nil ?_))
  | ((with_reducible refine ea_rawE ?_); refine ⟨_, rfl, ?_⟩)
  | ((with_reducible refine ea_cons ?_))
  | ((with_reducible refine AllD.nil ?_))
  | ((with_reducible refine AllD.cons ?_))
  | ((with_reducible refine ew_isN ?_))
  | ((with_reducible refine ew_sl ?_))
  | ((with_reducible refine eo_none ?_))
  | ((with_reducible refine eo_some ?_))
  | ((with_reducible refine sd_list ?_); refine ⟨_, rfl, ?_⟩)
  | ((with_reducible refine sd_tup ?_); refine ⟨_, rfl, ?_⟩)
  | ((with_reducible refine tw_test ?_))
  | ((with_reducible refine tw_B ?_))
  | ((with_reducible refine tw_not ?_))
  | ((with_reducible refine tw_and ?_))
  | ((with_reducible refine tw_or ?_))
  | ((with_reducible refine ew_andV ?_))
  | ((with_reducible refine ew_orV ?_))
  | ((with_reducible refine ew_notV ?_))
  | ((with_reducible refine sw_seq ?_))
  | ((with_reducible refine sw_ret ?_))
  | ((with_reducible refine sw_set ?_))
  | ((with_reducible refine sw_par ?_))
  | ((with_reducible refine sw_nx ?_))
  | ((with_reducible refine od_ix ?_); refine ⟨_, _, _, rfl, rfl, rfl, ?_⟩)
  | ((with_reducible refine od_mulI ?_); refine ⟨_, _, rfl, rfl, ?_, ?_⟩)
  | ((with_reducible refine od_mulNI ?_); refine ⟨_, _, rfl, rfl, ?_, ?_⟩)
  | ((with_reducible refine od_addI ?_); refine ⟨_, _, rfl, rfl, ?_⟩)
  | ((with_reducible refine od_addL ?_); refine ⟨_, _, rfl, rfl, ?_, ?_⟩)
  | ((with_reducible refine od_addT ?_); refine ⟨_, _, rfl, rfl, ?_, ?_⟩)
  | ((with_reducible refine od_I0 ?_); refine ⟨_, _, rfl, rfl, ?_⟩)
  | ((with_reducible refine od_B0 ?_); refine ⟨_, _, rfl, rfl, ?_⟩)
  | ((with_reducible refine od_I ?_); refine ⟨_, _, rfl, rfl, ?_, ?_⟩)
  | ((with_reducible refine ud_I ?_); refine ⟨_, rfl, ?_⟩)
  | ((with_reducible refine od_eqI' ?_))
  | ((with_reducible refine od_neI' ?_))
  | ((with_reducible refine cd_gcd ?_); refine ⟨_, _, rfl, ?_⟩)
  | ((with_reducible refine cd_lcm ?_); refine ⟨_, _, rfl, ?_, ?_, ?_⟩)
  | ((with_reducible refine qAbs ?_); refine ⟨_, rfl, ?_⟩)
  | ((with_reducible refine qInt ?_); refine ⟨_, rfl, ?_⟩)
  | ((with_reducible refine qLen ?_); refine ⟨_, _, rfl, rfl, ?_⟩)
  | ((with_reducible refine qTup ?_); refine ⟨_, _, rfl, rfl, ?_⟩)
  | ((with_reducible refine qLst ?_); refine ⟨_, _, rfl, rfl, ?_⟩)
  | ((with_reducible refine cd_anyT ?_); refine ⟨_, rfl, ?_⟩)
  | ((with_reducible refine cd_sum ?_); refine ⟨_, rfl, ?_⟩)
  | ((with_reducible refine qIntB ?_); refine ⟨_, rfl, ?_⟩)
  | ((with_reducible refine qMax2 ?_); refine ⟨_, _, rfl, ?_⟩)
  | ((with_reducible refine cd_all ?_); refine ⟨_, rfl, ?_⟩)
  | ((with_reducible refine ex_b ?_))
  | ((with_reducible refine ex_i ?_))
  | ((with_reducible refine ex_t ?_))
  | ((with_reducible refine ex_l ?_))
  | ((with_reducible refine ex_2 ?_))
  | ((with_reducible refine len_and ?_ ?_); exact Nat.le_of_ble_eq_true rfl)
  | ((with_reducible refine own_and ?_ ?_); rfl))
/-! ### what may be shown -/
structure Sx (k m : Nat) (d : PyData) : Prop where
  shx : Shx d
  dep : d.depth ≤ k
  len : d.shown.length ≤ m
theorem Sx.mono {k m k' m' : Nat} {d : PyData} (h : Sx k m d) (a : k ≤ k' := by decide) (b : m ≤ m' := by decide) : Sx k' m' d := ⟨h.shx, Nat.le_trans h.dep a, Nat.le_trans h.len b⟩
theorem Sx.int {i : Int} (h : Bit 12000 i) : Sx 1 13000 (.int i) := ⟨by unfold Shx; exact h.log (by decide), (Sh.int h).dep, (Sh.int h).len⟩
theorem Sx.list {k m : Nat} {xs : List PyData} (h : ∀ x, x ∈ xs → Sx k m x) : Sx (k + 1) (xs.length * (m + 2) + 2) (.list xs) := by
  refine ⟨?_, ?_, ?_⟩
  · unfold Shx
    exact fun x hx => (h x hx).shx
  · rw [PyData.depth]
    have := depthAll_le xs fun x hx => (h x hx).dep
    omega
  · rw [PyData.shown, shownAll_eq]
    refine Nat.le_trans (listText_le _) ?_
    have := piled_le (m := m) (xs.map PyData.shown) fun t ht => by
      obtain ⟨x, hx, rfl⟩ := List.mem_map.mp ht
      exact (h x hx).len
    rw [List.length_map] at this
    omega
theorem Sx.tuple {k m : Nat} {xs : List PyData} (h : ∀ x, x ∈ xs → Sx k m x) : Sx (k + 1) (xs.length * (m + 2) + 3) (.tuple xs) := by
  refine ⟨?_, ?_, ?_⟩
  · unfold Shx
    exact fun x hx => (h x hx).shx
  · rw [PyData.depth]
    have := depthAll_le xs fun x hx => (h x hx).dep
    omega
  · rw [PyData.shown, shownAll_eq]
    refine Nat.le_trans (tupleText_le _) ?_
    have := piled_le (m := m) (xs.map PyData.shown) fun t ht => by
      obtain ⟨x, hx, rfl⟩ := List.mem_map.mp ht
      exact (h x hx).len
    rw [List.length_map] at this
    omega
theorem Sx.str {x : Str} (h : (reprText x).length ≤ 100) : Sx 1 100 (.str x) := ⟨by unfold Shx; trivial, by rw [PyData.depth]; decide, by rw [PyData.shown]; exact h⟩
abbrev wordL : List PyData := [.str "form", .str "name", .str "sort", .str "trip", .str ""]
abbrev nameL : List PyData := [.str "a", .str "", .str "no name", .none, .list [], .tuple [.str "a", .str "b"], .dict [(.str "a", .int 1)], .int 7, .bool true]
theorem word_sx {d : PyData} (h : d ∈ wordL) : Sx 2 13000 d := by
  simp only [wordL, List.mem_cons, List.not_mem_nil, or_false] at h
  rcases h with rfl | rfl | rfl | rfl | rfl <;> exact (Sx.str (by decide +kernel)).mono
theorem name_sx {d : PyData} (h : d ∈ nameL) : Sx 2 13000 d := by
  simp only [nameL, List.mem_cons, List.not_mem_nil, or_false] at h
  rcases h with rfl | rfl | rfl | rfl | rfl | rfl | rfl | rfl | rfl
  · exact (Sx.str (by decide +kernel)).mono
  · exact (Sx.str (by decide +kernel)).mono
  · exact (Sx.str (by decide +kernel)).mono
  · exact ⟨by unfold Shx; trivial, by rw [PyData.depth]; decide, by rw [PyData.shown]; decide⟩
  · exact (Sx.list (k := 0) (m := 0) (xs := []) nofun).mono
  · refine (Sx.tuple (k := 1) (m := 100) fun x hx => ?_).mono
    simp only [List.mem_cons, List.not_mem_nil, or_false] at hx
    rcases hx with rfl | rfl <;> exact Sx.str (by decide +kernel)
  · refine ⟨by unfold Shx; exact ⟨_, _, rfl, by decide, by decide +kernel, by decide +kernel⟩, ?_, ?_⟩
    · simp only [PyData.depth, PyData.depthKv]; decide
    · simp only [PyData.shown, PyData.shownKv]; decide +kernel
  · exact (Sx.int (Bit.mono (n := 8) (show (7 : Int).natAbs < 2 ^ 8 by decide) (by decide))).mono
  · exact ⟨by unfold Shx; trivial, by rw [PyData.depth]; decide, by rw [PyData.shown]; decide⟩
/-! ### the numbers of a path -/
def IsS (d : PyData) : Prop := ∃ n : Int, d = .int n ∧ 0 ≤ n ∧ n < 9
theorem isS_list : ∀ acc : List PyData, (∀ d, d ∈ acc → IsS d) → ∃ ns : List Int, acc = ns.map .int ∧ ∀ n, n ∈ ns → 0 ≤ n ∧ n < 9
  | [], _ => ⟨[], rfl, nofun⟩
  | d :: acc, h => by
    obtain ⟨n, rfl, h0, h1⟩ := h d List.mem_cons_self
    obtain ⟨ns, rfl, hn⟩ := isS_list acc fun x hx => h x (List.mem_cons_of_mem _ hx)
    exact ⟨n :: ns, rfl, fun x hx => (List.mem_cons.mp hx).elim (fun e => e ▸ ⟨h0, h1⟩) (hn x)⟩
theorem pow_ok : CPow 10 6 := ⟨by decide, by decide, by decide⟩
theorem ev_at (CS : List Addr) (h : CS.length = 11) (p n w x : PyData) : ∀ k : Nat, k < 11 → ∃ d C, atI (everyL CS p n w x) (k : Int) = some d ∧ IsX C d ∧ CS[k]? = some C := by
  match CS, h with
  | [c0, c1, c2, c3, c4, c5, c6, c7, c8, c9, c10], _ =>
    intro k hk
    match k, hk with
    | 0, _ => exact ⟨_, _, rfl, .inr ⟨_, _, rfl⟩, rfl⟩
    | 1, _ => exact ⟨_, _, rfl, .inr ⟨_, _, rfl⟩, rfl⟩
    | 2, _ => exact ⟨_, _, rfl, .inl rfl, rfl⟩
    | 3, _ => exact ⟨_, _, rfl, .inl rfl, rfl⟩
    | 4, _ => exact ⟨_, _, rfl, .inl rfl, rfl⟩
    | 5, _ => exact ⟨_, _, rfl, .inr ⟨_, _, rfl⟩, rfl⟩
    | 6, _ => exact ⟨_, _, rfl, .inr ⟨_, _, rfl⟩, rfl⟩
    | 7, _ => exact ⟨_, _, rfl, .inr ⟨_, _, rfl⟩, rfl⟩
    | 8, _ => exact ⟨_, _, rfl, .inr ⟨_, _, rfl⟩, rfl⟩
    | 9, _ => exact ⟨_, _, rfl, .inl rfl, rfl⟩
    | 10, _ => exact ⟨_, _, rfl, .inr ⟨_, _, rfl⟩, rfl⟩
    | k + 11, h => exact absurd h (by omega)
theorem last_k {k : Nat} : decide ((0 : Int) + (k : Int) = ((11 : Nat) : Int) - 1) = decide (k = 10) := by
  by_cases h : k = 10
  · subst h; rfl
  · rw [decide_eq_false h, decide_eq_false (by omega)]
theorem same_k {j k : Nat} : decide ((0 : Int) + (j : Int) = 0 + (k : Int)) = decide (j = k) := by
  by_cases h : j = k
  · subst h; rw [decide_eq_true rfl, decide_eq_true rfl]
  · rw [decide_eq_false h, decide_eq_false (by omega)]
theorem shB (xs : List PyData) (h : ∀ x, x ∈ xs → ∃ b, x = .bool b) : SeqAt.shaped (.list xs) = true := shp (Sh.list (k := 1) (m := 13000) fun x hx => by
  obtain ⟨b, rfl⟩ := h x hx
  exact Sh.bool b) (cl_lst fun x hx => by
  obtain ⟨b, rfl⟩ := h x hx
  rw [PyData.canLay0]) (by decide)
theorem ew_evs {B : Fr} {env : List Ent} {K : PySem.W.Frag} {f : Str} {C : Addr} {i : Int} {x : PyData} {evs : List PyData} {Q : PyData → Prop} (h10 : env[10]? = some (.dat (.list evs))) (ha : atI evs i = some (x1D C f x)) (T : XfC K C) (n : PySem.W.findIn K (.ref C) f = some none) (q : Q x) :
    EW B env (tXg K f (tOp (rIx K) (tVar 10) (tC (.int i)))) Q := ew_xg (ew_op (ew_var h10 (ew_int (od_ix ⟨evs, i, _, rfl, rfl, ha, C, x, rfl, T, n, q⟩))))
section
variable {P : Program} {w : World} {K : PySem.W.Frag} {mg : Str → Option Value} {base : Heap}
theorem ok_law {f : Addr} {fd : FuncData} (F : Fun K "law" "law" st_law f fd) (T : Tx mg) {C_GustError C_BadShape C_BadText C_TooGreat C_Bare C_Unbounded C_BadWish C_BadGust C_BadAct C_BadAsk C_NothingDone C_UnknownName C_NameMissing : Addr} (c_l_source : HasG P w K mg base "_law_source" 1 ["script"] (spSource K)) (c_l_pick : HasG P w K mg base "_law_pick" 1 ["source", "many"] (spG mPick)) (c_l_of : HasG P w K mg base "_law_of" 2 ["source", "some"] (spG mOf)) (c_l_every : HasG P w K mg base "_law_every" 3 ["path", "number", "word", "name"] (spG (mEvery [C_BadShape, C_BadText, C_TooGreat, C_Bare, C_Unbounded, C_BadWish, C_BadGust, C_BadAct, C_BadAsk, C_NothingDone, C_UnknownName]))) (c_l_kinds : HasG P w K mg base "_law_kinds" 1 ["e"] (spG (mKinds [C_BadShape, C_BadText, C_TooGreat, C_Bare, C_Unbounded, C_BadWish, C_BadGust, C_BadAct, C_BadAsk, C_NothingDone, C_UnknownName]))) (c_l_bases : HasG P w K mg base "_law_bases" 1 ["e"] (spG (mBases [C_BadShape, C_BadText, C_TooGreat, C_Bare, C_Unbounded, C_BadWish, C_BadGust, C_BadAct, C_BadAsk, C_NothingDone, C_UnknownName]))) (x_BadShape : XfC K C_BadShape) (n_BadShape : PySem.W.findIn K (.ref C_BadShape) "path" = some none) (x_BadText : XfC K C_BadText) (n_BadText : PySem.W.findIn K (.ref C_BadText) "place" = some none) (x_BadWish : XfC K C_BadWish) (n_BadWish : PySem.W.findIn K (.ref C_BadWish) "number" = some none) (x_BadGust : XfC K C_BadGust) (n_BadGust : PySem.W.findIn K (.ref C_BadGust) "number" = some none) (x_BadAct : XfC K C_BadAct) (n_BadAct : PySem.W.findIn K (.ref C_BadAct) "word" = some none) (x_BadAsk : XfC K C_BadAsk) (n_BadAsk : PySem.W.findIn K (.ref C_BadAsk) "word" = some none) (x_UnknownName : XfC K C_UnknownName) (n_UnknownName : PySem.W.findIn K (.ref C_UnknownName) "name" = some none) (ND : NoDig base) : FnG P w K mg base 5 f fd ["script"] (spLaw K) := by
  have nd := sc_law.nd
  refine funG F sc_law (fun vs H Q E ⟨a, ns, e, _⟩ => by rw [e]; rfl) fun cdv A outer s H vs Q E hr gd h => ?_
  have hu := hu_of hr
  have hu64 := hr.units
  obtain ⟨a, ns, rfl, hS, hn, hQ⟩ := h
  refine ⟨_, (pss_cons (ps_set (i := 1) nd rfl (by first | exact Or.inl rfl | exact Or.inr rfl) (c_l_source.call hr gd (pa_cons (pv 0) pa_nil)))
      (pss_cons (ps_for PassesOwn.never rfl (pi_range1 (by rfl) T.range (pa_cons pe_int pa_nil)) (pg_name (i := 2) nd rfl (by first | exact Or.inl rfl | exact Or.inr rfl)) (pss_cons (ps_setLc (i := 3) rfl nd rfl rfl (sw_true rfl rfl rfl (by decide +kernel)) (own := [("k", 5)]) (pi_range1 (by rfl) T.range (pa_cons (c_l_pick.call hr gd (pa_cons (pv 1) (pa_cons pe_int pa_nil))) pa_nil)) (blkOk_by (N := names_law) (sc := defScope st_law) (by decide +kernel)) (fun _ _ _ _ _ => (pg_name (i := 5) nd rfl (by first | exact Or.inl rfl | exact Or.inr rfl))) (fun _ _ _ _ _ => pts_nil) (fun _ _ _ _ _ => (c_l_pick.call hr gd (pa_cons (pv 1) (pa_cons pe_int pa_nil)))))
      (pss_cons (ps_set (i := 3) nd rfl (by first | exact Or.inl rfl | exact Or.inr rfl) (pe_ifExp (pt_cmpR (kEq (K := K) rfl hu64) (c_l_pick.call hr gd (pa_cons (pv 1) (pa_cons pe_int pa_nil))) pe_int (nomark _)) (pv 3) (pe_callTy (kTup (K := K) rfl) (by rfl) T.tuple (by decide +kernel) (pa_cons (pv 3) pa_nil))))
      (pss_cons (ps_par (i := 7) (j := 8) (by rfl) nd rfl rfl (by decide) rfl rfl (pa_cons (c_l_pick.call hr gd (pa_cons (pv 1) (pa_cons (pe_op op_pow pe_int pe_int) pa_nil))) (pa_cons (c_l_of.call hr gd (pa_cons (pv 1) (pa_cons (pe_lst (pa_cons pe_str (pa_cons pe_str (pa_cons pe_str (pa_cons pe_str (pa_cons pe_str pa_nil)))))) pa_nil))) pa_nil)) (by rfl))
      (pss_cons (ps_set (i := 4) nd rfl (by first | exact Or.inl rfl | exact Or.inr rfl) (c_l_of.call hr gd (pa_cons (pv 1) (pa_cons (pe_lst (pa_cons pe_str (pa_cons pe_str (pa_cons pe_str (pa_cons pe_non (pa_cons (pe_lst pa_nil) (pa_cons (pe_tup (pa_cons pe_str (pa_cons pe_str pa_nil))) (pa_cons (pe_disp (pps_cons pe_str pe_int pps_nil) rfl rfl (by exact nofun) (by decide)) (pa_cons pe_int (pa_cons pe_bl pa_nil)))))))))) pa_nil))))
      (pss_cons (ps_par (i := 9) (j := 10) (by rfl) nd rfl rfl (by decide) rfl rfl (pa_cons (pe_callTy (kTup (K := K) rfl) (by rfl) T.tuple (by decide +kernel) (pa_cons (pv 3) pa_nil)) (pa_cons (c_l_every.call hr gd (pa_cons (pv 3) (pa_cons (pv 7) (pa_cons (pv 8) (pa_cons (pv 4) pa_nil))))) pa_nil)) (by rfl))
      (pss_cons (ps_if (pt_val (pe_callB (kIsi (K := K) rfl) (by rfl) T.isinstance (by decide +kernel) (pa_cons (pv 3) (pa_cons (pe_bltn (v := .ty "list") (by rfl) T.list (by decide +kernel) rfl) pa_nil)))) (pss_one (ps_expr (kBm (K := K) rfl PySem.F.plainAttrs_list PySem.F.slot_list_append PySem.F.type_list_append mt_append (pv 3) (pa_cons pe_str pa_nil)))) pss_nil)
      (pss_cons (ps_for PassesOwn.never rfl (pi_range1 (by rfl) T.range (pa_cons (pe_callB (kLen (K := K) rfl) (by rfl) T.len (by decide +kernel) (pa_cons (pv 10) pa_nil)) pa_nil)) (pg_name (i := 5) nd rfl (by first | exact Or.inl rfl | exact Or.inr rfl)) (pss_cons (ps_set (i := 11) nd rfl (by first | exact Or.inl rfl | exact Or.inr rfl) (pe_cmpR (kEq (K := K) rfl hu64) (pv 5) (pe_op op_sub (pe_callB (kLen (K := K) rfl) (by rfl) T.len (by decide +kernel) (pa_cons (pv 10) pa_nil)) pe_int) (nomark _)))
      (pss_cons (ps_if (pt_cmpR (kNe (K := K) rfl hu64) (c_l_kinds.call hr gd (pa_cons (pe_ix (kIx (K := K) rfl) (pv 10) (pv 5) (fun _ _ => rfl)) pa_nil)) (pe_lc (own := [("j", 12)]) rfl nd (pi_range1 (by rfl) T.range (pa_cons (pe_callB (kLen (K := K) rfl) (by rfl) T.len (by decide +kernel) (pa_cons (pv 10) pa_nil)) pa_nil)) (blkOk_by (N := names_law) (sc := defScope st_law) (by decide +kernel)) (fun _ _ _ _ _ => (pg_name (i := 12) nd rfl (by first | exact Or.inl rfl | exact Or.inr rfl))) (fun _ _ _ _ _ => pts_nil) (fun _ _ _ _ _ => (pe_cmpR (kEq (K := K) rfl hu64) (pv 12) (pv 5) (nomark _)))) (nomark _)) (pss_one (ps_ret pe_bl)) pss_nil)
      (pss_one (ps_if (pt_cmpR (kNe (K := K) rfl hu64) (c_l_bases.call hr gd (pa_cons (pe_ix (kIx (K := K) rfl) (pv 10) (pv 5) (fun _ _ => rfl)) pa_nil)) (pe_lst (pa_cons (pe_not (pv 11)) (pa_cons (pe_not (pv 11)) (pa_cons (pv 11) (pa_cons (pv 11) (pa_cons pe_bl pa_nil)))))) (nomark _)) (pss_one (ps_ret pe_bl)) pss_nil)))))
      (pss_cons (ps_set (i := 6) nd rfl (by first | exact Or.inl rfl | exact Or.inr rfl) (pe_lst (pa_cons (kXg (K := K) rfl (pe_ix (kIx (K := K) rfl) (pv 10) pe_int (fun _ _ => rfl))) (pa_cons (kXg (K := K) rfl (pe_ix (kIx (K := K) rfl) (pv 10) pe_int (fun _ _ => rfl))) (pa_cons (kXg (K := K) rfl (pe_ix (kIx (K := K) rfl) (pv 10) pe_int (fun _ _ => rfl))) (pa_cons (kXg (K := K) rfl (pe_ix (kIx (K := K) rfl) (pv 10) pe_int (fun _ _ => rfl))) (pa_cons (kXg (K := K) rfl (pe_ix (kIx (K := K) rfl) (pv 10) pe_int (fun _ _ => rfl))) (pa_cons (kXg (K := K) rfl (pe_ix (kIx (K := K) rfl) (pv 10) pe_int (fun _ _ => rfl))) pa_nil))))))))
      (pss_cons (ps_expr (kBm (K := K) rfl PySem.F.plainAttrs_list PySem.F.slot_list_append PySem.F.type_list_append mt_append (pv 6) (pa_cons (kXg (K := K) rfl (pe_ix (kIx (K := K) rfl) (pv 10) pe_int (fun _ _ => rfl))) pa_nil)))
      (pss_one (ps_if (pt_cmpR (kNe (K := K) rfl hu64) (pe_callB (call_reprX ND gd hu64) (by rfl) T.repr (by decide +kernel) (pa_cons (pv 6) pa_nil)) (pe_callB (call_reprX ND gd hu64) (by rfl) T.repr (by decide +kernel) (pa_cons (pe_lst (pa_cons (pv 9) (pa_cons (pv 7) (pa_cons (pv 7) (pa_cons (pv 7) (pa_cons (pv 8) (pa_cons (pv 8) (pa_cons (pv 4) pa_nil)))))))) pa_nil)) (nomark _)) (pss_one (ps_ret pe_bl)) pss_nil))))))))))))
      (pss_one (ps_ret pe_bl)))), ?_⟩

  refine law_start (n := 11) hS hn hQ fun p l => ?_
  show SW (Fsrc p l) [.non, .raw (.ref p), .non, .non, .non, .non, .non, .non, .non, .non, .non, .non, .non] _ _
  refine sw_seq (sw_for (it_range1 ?_))
  repeat' walk_at "dl"
  refine ⟨_, rfl, by decide, by decide, ?_⟩
  refine ⟨fun i e => ∃ z2 z3 z4 z5 z6 z7 z8 z9 z10 z11 z12, e = [.non, .raw (.ref p), z2, z3, z4, z5, z6, z7, z8, z9, z10, z11, z12], ⟨_, _, _, _, _, _, _, _, _, _, _, rfl⟩, ?_, ?_⟩
  · rintro i d e hd ⟨z2, z3, z4, z5, z6, z7, z8, z9, z10, z11, z12, rfl⟩
    refine gw_name ?_
    refine sw_wipe [2, 3, 4, 5, 6, 7, 8, 9, 10, 11, 12] ?_
    show SW (Fsrc p l) [.non, .raw (.ref p), .non, .non, .non, .non, .non, .non, .non, .non, .non, .non, .non] _ _
    refine sw_mid (fun e => ∃ (a : Addr) (ns : List Int), e = [.non, .raw (.ref p), .non, .own a (ns.map .int), .non, .non, .non, .non, .non, .non, .non, .non, .non] ∧ ns.length ≤ 3 ∧ ∀ n, n ∈ ns → 0 ≤ n ∧ n < 9) ?_ ?_
    · refine sw_fresh [] rfl (ew_lcAll IsS (it_range1 ?_))
      repeat' walk_at "dl"
      refine pick_at (by decide) fun r h0 h1 => ?_
      have h1' : r < 4 := h1
      repeat' walk_at "dl"
      refine ⟨r, rfl, by omega, by omega, by simp [rangeD]; omega, fun d hd => ?_, fun acc hal hA => ?_⟩
      · refine gc_name (by decide) ?_
        repeat' walk_at "dl"
        exact pick_at (by decide) fun r h0 h1 => ⟨r, rfl, h0, h1⟩
      · obtain ⟨ns, rfl, hns⟩ := isS_list acc hA
        refine ⟨_, rfl, lfA_ints ns, fun a => ⟨a, ns, rfl, ?_, hns⟩⟩
        have hz : ns.length = r.toNat := by simpa [rangeD] using hal
        omega
    rintro e ⟨a, ns, rfl, hnl, hns⟩
    refine sw_mid (fun e => ∃ e3 : Ent, e = [.non, .raw (.ref p), .non, e3, .non, .non, .non, .non, .non, .non, .non, .non, .non] ∧ (e3 = .own a (ns.map .int) ∨ e3 = .dat (.tuple (ns.map .int)))) ?_ ?_
    · refine sw_ifE ?_
      repeat' walk_at "dl"
      refine pick_at (by decide) fun r h0 h1 => ?_
      repeat' walk_at "dl"
      by_cases hr : r = 0
      · rw [decide_eq_true hr, if_pos rfl]
        refine sw_self (a := a) (ds := ns.map .int) rfl ⟨_, rfl, .inl rfl⟩
      · rw [decide_eq_false hr, if_neg Bool.false_ne_true]
        refine sw_thaw 3 rfl ?_
        show SW (Fsrc p l) [.non, .raw (.ref p), .non, .dat (.list (ns.map .int)), .non, .non, .non, .non, .non, .non, .non, .non, .non] _ _
        repeat' walk_at "dl"
        exact ⟨_, rfl, .inr rfl⟩
    rintro e ⟨e3, rfl, h3⟩
    refine sw_mid (fun e => ∃ (number : Int) (word : PyData), e = [.non, .raw (.ref p), .non, e3, .non, .non, .non, .dat (.int number), .dat word, .non, .non, .non, .non] ∧ (0 ≤ number ∧ number < 1000000) ∧ word ∈ wordL) ?_ ?_
    · repeat' walk_at "dl"
      · exact pow_ok
      refine pick_at (by decide) fun r h0 h1 => ?_
      repeat' walk_at "dl"
      refine of_at (by simp) (by simp) fun dw hw => ?_
      repeat' walk_at "dl"
      exact ⟨r, dw, rfl, ⟨h0, h1⟩, hw⟩
    rintro e ⟨number, word, rfl, hnum, hword⟩
    refine sw_mid (fun e => ∃ (name : PyData), e = [.non, .raw (.ref p), .non, e3, .dat name, .non, .non, .dat (.int number), .dat word, .non, .non, .non, .non] ∧ name ∈ nameL) ?_ ?_
    · repeat' walk_at "dl"
      refine ew_dct1 ?_
      repeat' walk_at "dl"
      refine of_at (by simp) (by simp) fun dn hn => ?_
      exact ⟨dn, rfl, hn⟩
    rintro e ⟨name, rfl, hname⟩
    refine sw_mid (fun e => e = [.non, .raw (.ref p), .non, e3, .dat name, .non, .non, .dat (.int number), .dat word, .dat (.tuple (ns.map .int)), .dat (.list (everyL [C_BadShape, C_BadText, C_TooGreat, C_Bare, C_Unbounded, C_BadWish, C_BadGust, C_BadAct, C_BadAsk, C_NothingDone, C_UnknownName] (.tuple (ns.map .int)) (.int number) word name)), .non, .non]) ?_ ?_
    · refine sw_par ?_
      rcases h3 with rfl | rfl
      · refine ea_cons (ew_lend 3 rfl rfl ?_)
        show EW (Fsrc p l) [.non, .raw (.ref p), .non, .dat (.list (ns.map .int)), .dat name, .non, .non, .dat (.int number), .dat word, .non, .non, .non, .non] _ _
        repeat' walk_at "dl"
        refine ⟨lf_ints ns, ?_⟩
        refine ea_cons ?_
        refine ew_callO (a := a) (ns := ns) 3 rfl ?_
        refine ea_ownR (a := a) (ds := ns.map .int) rfl ?_
        repeat' walk_at "dl"
        refine fun B2 hB => ⟨_, _, _, _, _, rfl, .inr ⟨a, ns, rfl, rfl, hB⟩, ?_⟩
        repeat' walk_at "dl"
        rfl
      · repeat' walk_at "dl"
        refine ⟨_, _, _, _, _, rfl, .inl ⟨_, rfl, rfl⟩, ?_⟩
        repeat' walk_at "dl"
        rfl
    rintro e rfl
    refine sw_mid (fun e => ∃ e3 : Ent, e = [.non, .raw (.ref p), .non, e3, .dat name, .non, .non, .dat (.int number), .dat word, .dat (.tuple (ns.map .int)), .dat (.list (everyL [C_BadShape, C_BadText, C_TooGreat, C_Bare, C_Unbounded, C_BadWish, C_BadGust, C_BadAct, C_BadAsk, C_NothingDone, C_UnknownName] (.tuple (ns.map .int)) (.int number) word name)), .non, .non]) ?_ ?_
    · rcases h3 with rfl | rfl
      · refine sw_if (tw_lend 3 rfl rfl ?_)
        show TW (Fsrc p l) [.non, .raw (.ref p), .non, .dat (.list (ns.map .int)), .dat name, .non, .non, .dat (.int number), .dat word, .dat (.tuple (ns.map .int)), .dat (.list (everyL [C_BadShape, C_BadText, C_TooGreat, C_Bare, C_Unbounded, C_BadWish, C_BadGust, C_BadAct, C_BadAsk, C_NothingDone, C_UnknownName] (.tuple (ns.map .int)) (.int number) word name)), .non, .non] _ _
        repeat' walk_at "dl"
        refine ⟨true, rfl, _, rfl, ?_⟩
        rw [if_pos rfl]
        refine sw_append (a := a) (ds := ns.map .int) rfl (by simp; omega) (ew_str ?_)
        exact ⟨_, rfl⟩
      · refine sw_if ?_
        repeat' walk_at "dl"
        refine ⟨false, rfl, _, rfl, ?_⟩
        rw [if_neg Bool.false_ne_true]
        refine sw_nx ?_
        exact ⟨_, rfl⟩
    rintro e ⟨e3, rfl⟩
    refine sw_wipe [3] ?_
    show SW (Fsrc p l) [.non, .raw (.ref p), .non, .non, .dat name, .non, .non, .dat (.int number), .dat word, .dat (.tuple (ns.map .int)), .dat (.list (everyL [C_BadShape, C_BadText, C_TooGreat, C_Bare, C_Unbounded, C_BadWish, C_BadGust, C_BadAct, C_BadAsk, C_NothingDone, C_UnknownName] (.tuple (ns.map .int)) (.int number) word name)), .non, .non] _ _
    obtain ⟨CS, hCS⟩ : ∃ CS : List Addr, CS = [C_BadShape, C_BadText, C_TooGreat, C_Bare, C_Unbounded, C_BadWish, C_BadGust, C_BadAct, C_BadAsk, C_NothingDone, C_UnknownName] := ⟨_, rfl⟩
    have hat := ev_at [C_BadShape, C_BadText, C_TooGreat, C_Bare, C_Unbounded, C_BadWish, C_BadGust, C_BadAct, C_BadAsk, C_NothingDone, C_UnknownName] rfl (.tuple (ns.map .int)) (.int number) word name
    have hlen : (everyL [C_BadShape, C_BadText, C_TooGreat, C_Bare, C_Unbounded, C_BadWish, C_BadGust, C_BadAct, C_BadAsk, C_NothingDone, C_UnknownName] (.tuple (ns.map .int)) (.int number) word name).length = 11 := rfl
    have e0 : atI (everyL [C_BadShape, C_BadText, C_TooGreat, C_Bare, C_Unbounded, C_BadWish, C_BadGust, C_BadAct, C_BadAsk, C_NothingDone, C_UnknownName] (.tuple (ns.map .int)) (.int number) word name) 0 = some (x1D C_BadShape "path" (.tuple (ns.map .int))) := rfl
    have e1 : atI (everyL [C_BadShape, C_BadText, C_TooGreat, C_Bare, C_Unbounded, C_BadWish, C_BadGust, C_BadAct, C_BadAsk, C_NothingDone, C_UnknownName] (.tuple (ns.map .int)) (.int number) word name) 1 = some (x1D C_BadText "place" (.int number)) := rfl
    have e5 : atI (everyL [C_BadShape, C_BadText, C_TooGreat, C_Bare, C_Unbounded, C_BadWish, C_BadGust, C_BadAct, C_BadAsk, C_NothingDone, C_UnknownName] (.tuple (ns.map .int)) (.int number) word name) 5 = some (x1D C_BadWish "number" (.int number)) := rfl
    have e6 : atI (everyL [C_BadShape, C_BadText, C_TooGreat, C_Bare, C_Unbounded, C_BadWish, C_BadGust, C_BadAct, C_BadAsk, C_NothingDone, C_UnknownName] (.tuple (ns.map .int)) (.int number) word name) 6 = some (x1D C_BadGust "number" (.int number)) := rfl
    have e7 : atI (everyL [C_BadShape, C_BadText, C_TooGreat, C_Bare, C_Unbounded, C_BadWish, C_BadGust, C_BadAct, C_BadAsk, C_NothingDone, C_UnknownName] (.tuple (ns.map .int)) (.int number) word name) 7 = some (x1D C_BadAct "word" word) := rfl
    have e8 : atI (everyL [C_BadShape, C_BadText, C_TooGreat, C_Bare, C_Unbounded, C_BadWish, C_BadGust, C_BadAct, C_BadAsk, C_NothingDone, C_UnknownName] (.tuple (ns.map .int)) (.int number) word name) 8 = some (x1D C_BadAsk "word" word) := rfl
    have e10 : atI (everyL [C_BadShape, C_BadText, C_TooGreat, C_Bare, C_Unbounded, C_BadWish, C_BadGust, C_BadAct, C_BadAsk, C_NothingDone, C_UnknownName] (.tuple (ns.map .int)) (.int number) word name) 10 = some (x1D C_UnknownName "name" name) := rfl
    generalize everyL [C_BadShape, C_BadText, C_TooGreat, C_Bare, C_Unbounded, C_BadWish, C_BadGust, C_BadAct, C_BadAsk, C_NothingDone, C_UnknownName] (.tuple (ns.map .int)) (.int number) word name = evs at *
    rw [← hCS] at *
    refine sw_mid (fun e => ∃ zk zi zj : Ent, e = [.non, .raw (.ref p), .non, .non, .dat name, zk, .non, .dat (.int number), .dat word, .dat (.tuple (ns.map .int)), .dat (.list evs), zi, zj]) ?_ ?_
    · refine sw_for (it_range1 ?_)
      repeat' walk_at "dl"
      rw [hlen]
      refine ⟨_, rfl, by decide, by decide, ?_⟩
      refine ⟨fun i e => ∃ zk zi zj : Ent, e = [.non, .raw (.ref p), .non, .non, .dat name, zk, .non, .dat (.int number), .dat word, .dat (.tuple (ns.map .int)), .dat (.list evs), zi, zj], ⟨_, _, _, rfl⟩, ?_, fun e h => h⟩
      rintro k dk e hk ⟨zk, zi, zj, rfl⟩
      obtain ⟨hk', rfl⟩ := rangeD_inv hk
      have hk' : k < 11 := hk'
      obtain ⟨dx, C, ha, hx, hC⟩ := hat k hk'
      refine gw_name ?_
      refine sw_wipe [11, 12] ?_
      show SW (Fsrc p l) [.non, .raw (.ref p), .non, .non, .dat name, .dat (.int (0 + (k : Int))), .non, .dat (.int number), .dat word, .dat (.tuple (ns.map .int)), .dat (.list evs), .non, .non] _ _
      refine sw_mid (fun e => e = [.non, .raw (.ref p), .non, .non, .dat name, .dat (.int (0 + (k : Int))), .non, .dat (.int number), .dat word, .dat (.tuple (ns.map .int)), .dat (.list evs), .dat (.bool (decide (k = 10))), .non]) ?_ ?_
      · repeat' walk_at "dl"
        rw [hlen, last_k]
        rfl
      rintro e rfl
      refine sw_seq ?_
      have kk : ∀ (Q : PyData → Prop), Q dx → EW (Fsrc p l) [.non, .raw (.ref p), .non, .non, .dat name, .dat (.int (0 + (k : Int))), .non, .dat (.int number), .dat word, .dat (.tuple (ns.map .int)), .dat (.list evs), .dat (.bool (decide (k = 10))), .non] (tOp (rIx K) (tVar 10) (tVar 5)) Q := fun Q q => by
        refine ew_op (ew_var rfl (ew_var rfl (od_ix ⟨evs, 0 + (k : Int), dx, rfl, rfl, ?_, q⟩)))
        rw [Int.zero_add]
        exact ha
      refine sw_if (tw_test (ew_op (ew_call (ea_cons (kk _ (ea_nil ⟨rfl, dx, C, k, rfl, hx, hC, ?_⟩))))))
      refine ew_lcEq ((List.range 11).map fun j => PyData.bool (decide (j = k))) (it_range1 ?_)
      repeat' walk_at "dl"
      rw [hlen]
      refine ⟨_, rfl, by decide, by decide, by decide, rfl, fun i d u hd hu => ?_, ?_⟩
      · obtain ⟨_, rfl⟩ := rangeD_inv hd
        obtain ⟨j, hj, rfl⟩ := map_inv hu
        refine gc_name (by decide) ?_
        repeat' walk_at "dl"
        have hji : j = i := by
          obtain ⟨_, e⟩ := List.getElem?_eq_some_iff.mp hj
          rw [List.getElem_range] at e
          exact e.symm
        subst hji
        rw [same_k]
      refine od_neSame (shB _ fun x hx => ?_) ⟨_, rfl, ?_⟩
      · obtain ⟨j, _, rfl⟩ := List.mem_map.mp hx
        exact ⟨_, rfl⟩
      rw [if_neg Bool.false_ne_true]
      refine sw_nx ?_
      refine sw_if (tw_test (ew_op (ew_call (ea_cons (kk _ (ea_nil ⟨rfl, dx, C, k, rfl, hx, hC, ?_⟩))))))
      repeat' walk_at "dl"
      refine od_neSame (shB _ fun x hx => ?_) ⟨_, rfl, ?_⟩
      · simp only [List.mem_cons, List.not_mem_nil, or_false] at hx
        rcases hx with rfl | rfl | rfl | rfl | rfl <;> exact ⟨_, rfl⟩
      rw [if_neg Bool.false_ne_true]
      exact sw_nx ⟨_, _, _, rfl⟩
    rintro e ⟨zk, zi, zj, rfl⟩
    refine sw_wipe [5, 11, 12] ?_
    show SW (Fsrc p l) [.non, .raw (.ref p), .non, .non, .dat name, .non, .non, .dat (.int number), .dat word, .dat (.tuple (ns.map .int)), .dat (.list evs), .non, .non] _ _
    refine sw_seq (sw_new (ea_cons (ew_evs rfl e0 x_BadShape n_BadShape ?_)))
    refine ea_cons (ew_evs rfl e1 x_BadText n_BadText ?_)
    refine ea_cons (ew_evs rfl e5 x_BadWish n_BadWish ?_)
    refine ea_cons (ew_evs rfl e6 x_BadGust n_BadGust ?_)
    refine ea_cons (ew_evs rfl e7 x_BadAct n_BadAct ?_)
    refine ea_cons (ew_evs rfl e8 x_BadAsk n_BadAsk ?_)
    repeat' walk_at "dl"
    intro a6
    refine sw_seq (sw_append (a := a6) rfl (by simp) (ew_evs rfl e10 x_UnknownName n_UnknownName ?_))
    refine sw_thaw 6 rfl ?_
    show SW (Fsrc p l) [.non, .raw (.ref p), .non, .non, .dat name, .non, .dat (.list [.tuple (ns.map .int), .int number, .int number, .int number, word, word, name]), .dat (.int number), .dat word, .dat (.tuple (ns.map .int)), .dat (.list evs), .non, .non] _ _
    have sN : Bit 12000 number := Bit.mono (n := 20) (show number.natAbs < 2 ^ 20 by omega) (by decide)
    have s7 : Sx 3 300000 (.list [.tuple (ns.map .int), .int number, .int number, .int number, word, word, name]) := (Sx.list (k := 2) (m := 40000) fun x hx => by
      simp only [List.mem_cons, List.not_mem_nil, or_false] at hx
      rcases hx with rfl | rfl | rfl | rfl | rfl | rfl | rfl
      · refine (Sx.tuple (k := 1) (m := 13000) fun x hx => ?_).mono (by decide) (by simp; omega)
        obtain ⟨n, hn, rfl⟩ := List.mem_map.mp hx
        have h9 := hns n hn
        exact Sx.int (Bit.mono (sm (by omega)) (by decide))
      · exact (Sx.int sN).mono
      · exact (Sx.int sN).mono
      · exact (Sx.int sN).mono
      · exact (word_sx hword).mono
      · exact (word_sx hword).mono
      · exact (name_sx hname).mono).mono (by decide) (by show 7 * (40000 + 2) + 2 ≤ 300000; omega)
    have hz : 300000 ≤ sizeLine := by rw [sizeLine_eq]; decide
    refine sw_if (tw_test (ew_op (ew_reprX (ew_var rfl ⟨⟨_, rfl⟩, s7.shx, Nat.le_trans s7.dep (by decide), Nat.le_trans s7.len hz, ?_⟩))))
    refine ew_reprX (ew_lst ?_)
    repeat' walk_at "dl"
    refine ⟨⟨_, rfl⟩, s7.shx, Nat.le_trans s7.dep (by decide), Nat.le_trans s7.len hz, ?_⟩
    refine ne_sameA rfl ?_
    refine sw_nx ?_
    exact ⟨_, _, _, _, _, _, _, _, _, _, _, rfl⟩
  · rintro e ⟨z2, z3, z4, z5, z6, z7, z8, z9, z10, z11, z12, rfl⟩
    repeat' walk_at "dl"
    rfl
end
end G0
end
section
set_option Elab.async false
set_option linter.all false
set_option maxRecDepth 100000
set_option maxHeartbeats 0
namespace G0
open PySem L2 PySem.Spec PyProof.Rows Dl Xo RZ Ev
theorem xcls_mk {K : PySem.W.Frag} {nm q : Str} {C G N : Addr} {bs : List Value} {sn : List Str} {sub : List Value} {ab : Bool} {col : Option Bool} {dd : Option Addr} {k0 k1 k2 k3 k5 : Option Value} {B nw : String} {mro : List Value}
    (l : K.lookup C = some (excClassObj nm q C N bs (.ref G :: mro) true sn sub ab col dd k0 k1 k2 k3 k5 nw)) (ho : mro.contains (.type "object") = true) (S : ∀ self : Value, refuseLoop self "__setattr__" mro = pure ())
    (sa : PySem.W.findIn K (.ref C) "__setattr__" = some (some (.builtin "object.__setattr__"))) (kC : PySem.W.keepIn K (.ref C) = true) : XCls K C nw mro :=
  ⟨⟨nm, q, N, bs, .ref G :: mro, sn, sub, ab, col, dd, k0, k1, k2, k3, k5, l, fun Y => by rw [List.contains_cons]; rfl, by rw [List.contains_cons, List.contains_cons, ho]; rfl, fun self => by rw [refuseLoop_ref, refuseLoop_ref]; exact S self⟩, sa, kC⟩
theorem pass_ValueError : ∀ self : Value, refuseLoop self "__setattr__" mro_ValueError = pure () := PySem.F.store_ValueError.passes
theorem pass_LookupError : ∀ self : Value, refuseLoop self "__setattr__" mro_LookupError = pure () := PySem.F.store_LookupError.passes
theorem all_mk {w : World} {K : PySem.W.Frag} {h : Heap} {mg : Str → Option Value} {fa f_l_source f_l_pick f_l_of f_l_every f_l_kinds f_l_bases f_law : Addr} {C_GustError C_BadShape C_BadText C_TooGreat C_Bare C_Unbounded C_BadWish C_BadGust C_BadAct C_BadAsk C_NothingDone C_UnknownName C_NameMissing : Addr} (X : K.In h) (G : h.Ns mainGlobals mg) (hfa : mg "law" = some (.ref fa))
    {od_l_source an_l_source : Option Addr}
    {sl_l_source : Array (Option Value)}
    {oc_l_source kV_l_source dc_l_source pm_l_source cd_l_source ct_l_source : Value}
    (a_l_source : PySem.W.nsIn K mainGlobals "_law_source" = some (some (.ref f_l_source)))
    (l_l_source : K.lookup f_l_source = some ⟨oc_l_source, od_l_source, .func (PySem.W.fnOf "_law_source" "_law_source" (defArgs st_l_source) (defBody st_l_source) (defScope st_l_source) .none kV_l_source dc_l_source pm_l_source an_l_source cd_l_source ct_l_source), sl_l_source⟩)
    (c_l_source : PySem.W.codeIn K cd_l_source "_law_source" = true)
    (k_l_source : PySem.W.keepIn K (.ref f_l_source) = true)
    {od_l_pick an_l_pick : Option Addr}
    {sl_l_pick : Array (Option Value)}
    {oc_l_pick kV_l_pick dc_l_pick pm_l_pick cd_l_pick ct_l_pick : Value}
    (a_l_pick : PySem.W.nsIn K mainGlobals "_law_pick" = some (some (.ref f_l_pick)))
    (l_l_pick : K.lookup f_l_pick = some ⟨oc_l_pick, od_l_pick, .func (PySem.W.fnOf "_law_pick" "_law_pick" (defArgs st_l_pick) (defBody st_l_pick) (defScope st_l_pick) .none kV_l_pick dc_l_pick pm_l_pick an_l_pick cd_l_pick ct_l_pick), sl_l_pick⟩)
    (c_l_pick : PySem.W.codeIn K cd_l_pick "_law_pick" = true)
    (k_l_pick : PySem.W.keepIn K (.ref f_l_pick) = true)
    {od_l_of an_l_of : Option Addr}
    {sl_l_of : Array (Option Value)}
    {oc_l_of kV_l_of dc_l_of pm_l_of cd_l_of ct_l_of : Value}
    (a_l_of : PySem.W.nsIn K mainGlobals "_law_of" = some (some (.ref f_l_of)))
    (l_l_of : K.lookup f_l_of = some ⟨oc_l_of, od_l_of, .func (PySem.W.fnOf "_law_of" "_law_of" (defArgs st_l_of) (defBody st_l_of) (defScope st_l_of) .none kV_l_of dc_l_of pm_l_of an_l_of cd_l_of ct_l_of), sl_l_of⟩)
    (c_l_of : PySem.W.codeIn K cd_l_of "_law_of" = true)
    (k_l_of : PySem.W.keepIn K (.ref f_l_of) = true)
    {od_l_every an_l_every : Option Addr}
    {sl_l_every : Array (Option Value)}
    {oc_l_every kV_l_every dc_l_every pm_l_every cd_l_every ct_l_every : Value}
    (a_l_every : PySem.W.nsIn K mainGlobals "_law_every" = some (some (.ref f_l_every)))
    (l_l_every : K.lookup f_l_every = some ⟨oc_l_every, od_l_every, .func (PySem.W.fnOf "_law_every" "_law_every" (defArgs st_l_every) (defBody st_l_every) (defScope st_l_every) .none kV_l_every dc_l_every pm_l_every an_l_every cd_l_every ct_l_every), sl_l_every⟩)
    (c_l_every : PySem.W.codeIn K cd_l_every "_law_every" = true)
    (k_l_every : PySem.W.keepIn K (.ref f_l_every) = true)
    {od_l_kinds an_l_kinds : Option Addr}
    {sl_l_kinds : Array (Option Value)}
    {oc_l_kinds kV_l_kinds dc_l_kinds pm_l_kinds cd_l_kinds ct_l_kinds : Value}
    (a_l_kinds : PySem.W.nsIn K mainGlobals "_law_kinds" = some (some (.ref f_l_kinds)))
    (l_l_kinds : K.lookup f_l_kinds = some ⟨oc_l_kinds, od_l_kinds, .func (PySem.W.fnOf "_law_kinds" "_law_kinds" (defArgs st_l_kinds) (defBody st_l_kinds) (defScope st_l_kinds) .none kV_l_kinds dc_l_kinds pm_l_kinds an_l_kinds cd_l_kinds ct_l_kinds), sl_l_kinds⟩)
    (c_l_kinds : PySem.W.codeIn K cd_l_kinds "_law_kinds" = true)
    (k_l_kinds : PySem.W.keepIn K (.ref f_l_kinds) = true)
    {od_l_bases an_l_bases : Option Addr}
    {sl_l_bases : Array (Option Value)}
    {oc_l_bases kV_l_bases dc_l_bases pm_l_bases cd_l_bases ct_l_bases : Value}
    (a_l_bases : PySem.W.nsIn K mainGlobals "_law_bases" = some (some (.ref f_l_bases)))
    (l_l_bases : K.lookup f_l_bases = some ⟨oc_l_bases, od_l_bases, .func (PySem.W.fnOf "_law_bases" "_law_bases" (defArgs st_l_bases) (defBody st_l_bases) (defScope st_l_bases) .none kV_l_bases dc_l_bases pm_l_bases an_l_bases cd_l_bases ct_l_bases), sl_l_bases⟩)
    (c_l_bases : PySem.W.codeIn K cd_l_bases "_law_bases" = true)
    (k_l_bases : PySem.W.keepIn K (.ref f_l_bases) = true)
    {od_law an_law : Option Addr}
    {sl_law : Array (Option Value)}
    {oc_law kV_law dc_law pm_law cd_law ct_law : Value}
    (a_law : PySem.W.nsIn K mainGlobals "law" = some (some (.ref f_law)))
    (l_law : K.lookup f_law = some ⟨oc_law, od_law, .func (PySem.W.fnOf "law" "law" (defArgs st_law) (defBody st_law) (defScope st_law) .none kV_law dc_law pm_law an_law cd_law ct_law), sl_law⟩)
    (c_law : PySem.W.codeIn K cd_law "law" = true)
    (k_law : PySem.W.keepIn K (.ref f_law) = true)
    (a_GustError : PySem.W.nsIn K mainGlobals "GustError" = some (some (.ref C_GustError)))
    (a_BadShape : PySem.W.nsIn K mainGlobals "BadShape" = some (some (.ref C_BadShape)))
    (a_BadText : PySem.W.nsIn K mainGlobals "BadText" = some (some (.ref C_BadText)))
    (a_TooGreat : PySem.W.nsIn K mainGlobals "TooGreat" = some (some (.ref C_TooGreat)))
    (a_Bare : PySem.W.nsIn K mainGlobals "Bare" = some (some (.ref C_Bare)))
    (a_Unbounded : PySem.W.nsIn K mainGlobals "Unbounded" = some (some (.ref C_Unbounded)))
    (a_BadWish : PySem.W.nsIn K mainGlobals "BadWish" = some (some (.ref C_BadWish)))
    (a_BadGust : PySem.W.nsIn K mainGlobals "BadGust" = some (some (.ref C_BadGust)))
    (a_BadAct : PySem.W.nsIn K mainGlobals "BadAct" = some (some (.ref C_BadAct)))
    (a_BadAsk : PySem.W.nsIn K mainGlobals "BadAsk" = some (some (.ref C_BadAsk)))
    (a_NothingDone : PySem.W.nsIn K mainGlobals "NothingDone" = some (some (.ref C_NothingDone)))
    (a_UnknownName : PySem.W.nsIn K mainGlobals "UnknownName" = some (some (.ref C_UnknownName)))
    (a_NameMissing : PySem.W.nsIn K mainGlobals "NameMissing" = some (some (.ref C_NameMissing)))
    {cd_BadShape : ClassData}
    (x_BadShape : PySem.W.clsIn K C_BadShape = some cd_BadShape)
    (ga_BadShape : PySem.W.findIn K (.ref C_BadShape) "__getattribute__" = some (some (.builtin "BaseException.__getattribute__")))
    (gg_BadShape : PySem.W.findIn K (.ref C_BadShape) "__getattr__" = some none)
    (ex_BadShape : PySem.W.subIn K (.ref C_BadShape) (.type "BaseException") = some true)
    (cl_BadShape : PySem.W.findIn K (.ref C_BadShape) "__class__" = some (some (.builtin "object.__class__")))
    (ob_BadShape : PySem.W.mroIn K C_BadShape (.type "object") = some true)
    (kc_BadShape : PySem.W.keepIn K (.ref C_BadShape) = true)
    {nm_BadShape q_BadShape : Str}
    {N_BadShape : Addr}
    {bs_BadShape : List Value}
    {sn_BadShape : List Str}
    {sub_BadShape : List Value}
    {ab_BadShape : Bool}
    {col_BadShape : Option Bool}
    {dd_BadShape : Option Addr}
    {k0_BadShape k1_BadShape k2_BadShape k3_BadShape k5_BadShape : Option Value}
    (lc_BadShape : K.lookup C_BadShape = some (excClassObj nm_BadShape q_BadShape C_BadShape N_BadShape bs_BadShape (.ref C_GustError :: mro_ValueError) true sn_BadShape sub_BadShape ab_BadShape col_BadShape dd_BadShape k0_BadShape k1_BadShape k2_BadShape k3_BadShape k5_BadShape "ValueError.__new__"))
    (sa_BadShape : PySem.W.findIn K (.ref C_BadShape) "__setattr__" = some (some (.builtin "object.__setattr__")))
    (n_BadShape : PySem.W.findIn K (.ref C_BadShape) "path" = some none)
    (hd_BadShape : PySem.W.hasDictIn K C_BadShape = true)
    {f_BadShape : Addr}
    (i_BadShape : PySem.W.findIn K (.ref C_BadShape) "__init__" = some (some (.ref f_BadShape)))
    (ty_BadShape : PySem.W.typeIn K (.ref f_BadShape) = some (.type "function"))
    {od_BadShape an_BadShape : Option Addr}
    {sl_BadShape : Array (Option Value)}
    {oci_BadShape kVi_BadShape dci_BadShape pmi_BadShape cdi_BadShape cti_BadShape : Value}
    (l_BadShape : K.lookup f_BadShape = some ⟨oci_BadShape, od_BadShape, .func (PySem.W.fnOf "__init__" "BadShape.__init__" (defArgs st_BadShape) (defBody st_BadShape) (defScope st_BadShape) .none kVi_BadShape dci_BadShape pmi_BadShape an_BadShape cdi_BadShape cti_BadShape), sl_BadShape⟩)
    (c_BadShape : PySem.W.codeIn K cdi_BadShape "BadShape.__init__" = true)
    (k_BadShape : PySem.W.keepIn K (.ref f_BadShape) = true)
    {cd_BadText : ClassData}
    (x_BadText : PySem.W.clsIn K C_BadText = some cd_BadText)
    (ga_BadText : PySem.W.findIn K (.ref C_BadText) "__getattribute__" = some (some (.builtin "BaseException.__getattribute__")))
    (gg_BadText : PySem.W.findIn K (.ref C_BadText) "__getattr__" = some none)
    (ex_BadText : PySem.W.subIn K (.ref C_BadText) (.type "BaseException") = some true)
    (cl_BadText : PySem.W.findIn K (.ref C_BadText) "__class__" = some (some (.builtin "object.__class__")))
    (ob_BadText : PySem.W.mroIn K C_BadText (.type "object") = some true)
    (kc_BadText : PySem.W.keepIn K (.ref C_BadText) = true)
    {nm_BadText q_BadText : Str}
    {N_BadText : Addr}
    {bs_BadText : List Value}
    {sn_BadText : List Str}
    {sub_BadText : List Value}
    {ab_BadText : Bool}
    {col_BadText : Option Bool}
    {dd_BadText : Option Addr}
    {k0_BadText k1_BadText k2_BadText k3_BadText k5_BadText : Option Value}
    (lc_BadText : K.lookup C_BadText = some (excClassObj nm_BadText q_BadText C_BadText N_BadText bs_BadText (.ref C_GustError :: mro_ValueError) true sn_BadText sub_BadText ab_BadText col_BadText dd_BadText k0_BadText k1_BadText k2_BadText k3_BadText k5_BadText "ValueError.__new__"))
    (sa_BadText : PySem.W.findIn K (.ref C_BadText) "__setattr__" = some (some (.builtin "object.__setattr__")))
    (n_BadText : PySem.W.findIn K (.ref C_BadText) "place" = some none)
    (hd_BadText : PySem.W.hasDictIn K C_BadText = true)
    {f_BadText : Addr}
    (i_BadText : PySem.W.findIn K (.ref C_BadText) "__init__" = some (some (.ref f_BadText)))
    (ty_BadText : PySem.W.typeIn K (.ref f_BadText) = some (.type "function"))
    {od_BadText an_BadText : Option Addr}
    {sl_BadText : Array (Option Value)}
    {oci_BadText kVi_BadText dci_BadText pmi_BadText cdi_BadText cti_BadText : Value}
    (l_BadText : K.lookup f_BadText = some ⟨oci_BadText, od_BadText, .func (PySem.W.fnOf "__init__" "BadText.__init__" (defArgs st_BadText) (defBody st_BadText) (defScope st_BadText) .none kVi_BadText dci_BadText pmi_BadText an_BadText cdi_BadText cti_BadText), sl_BadText⟩)
    (c_BadText : PySem.W.codeIn K cdi_BadText "BadText.__init__" = true)
    (k_BadText : PySem.W.keepIn K (.ref f_BadText) = true)
    {cd_TooGreat : ClassData}
    (x_TooGreat : PySem.W.clsIn K C_TooGreat = some cd_TooGreat)
    (ga_TooGreat : PySem.W.findIn K (.ref C_TooGreat) "__getattribute__" = some (some (.builtin "BaseException.__getattribute__")))
    (gg_TooGreat : PySem.W.findIn K (.ref C_TooGreat) "__getattr__" = some none)
    (ex_TooGreat : PySem.W.subIn K (.ref C_TooGreat) (.type "BaseException") = some true)
    (cl_TooGreat : PySem.W.findIn K (.ref C_TooGreat) "__class__" = some (some (.builtin "object.__class__")))
    (ob_TooGreat : PySem.W.mroIn K C_TooGreat (.type "object") = some true)
    (kc_TooGreat : PySem.W.keepIn K (.ref C_TooGreat) = true)
    (e_TooGreat : PySem.W.excIn K C_TooGreat mro_ValueError "ValueError.__new__" = true)
    {cd_Bare : ClassData}
    (x_Bare : PySem.W.clsIn K C_Bare = some cd_Bare)
    (ga_Bare : PySem.W.findIn K (.ref C_Bare) "__getattribute__" = some (some (.builtin "BaseException.__getattribute__")))
    (gg_Bare : PySem.W.findIn K (.ref C_Bare) "__getattr__" = some none)
    (ex_Bare : PySem.W.subIn K (.ref C_Bare) (.type "BaseException") = some true)
    (cl_Bare : PySem.W.findIn K (.ref C_Bare) "__class__" = some (some (.builtin "object.__class__")))
    (ob_Bare : PySem.W.mroIn K C_Bare (.type "object") = some true)
    (kc_Bare : PySem.W.keepIn K (.ref C_Bare) = true)
    (e_Bare : PySem.W.excIn K C_Bare mro_ValueError "ValueError.__new__" = true)
    {cd_Unbounded : ClassData}
    (x_Unbounded : PySem.W.clsIn K C_Unbounded = some cd_Unbounded)
    (ga_Unbounded : PySem.W.findIn K (.ref C_Unbounded) "__getattribute__" = some (some (.builtin "BaseException.__getattribute__")))
    (gg_Unbounded : PySem.W.findIn K (.ref C_Unbounded) "__getattr__" = some none)
    (ex_Unbounded : PySem.W.subIn K (.ref C_Unbounded) (.type "BaseException") = some true)
    (cl_Unbounded : PySem.W.findIn K (.ref C_Unbounded) "__class__" = some (some (.builtin "object.__class__")))
    (ob_Unbounded : PySem.W.mroIn K C_Unbounded (.type "object") = some true)
    (kc_Unbounded : PySem.W.keepIn K (.ref C_Unbounded) = true)
    (e_Unbounded : PySem.W.excIn K C_Unbounded mro_ValueError "ValueError.__new__" = true)
    {cd_BadWish : ClassData}
    (x_BadWish : PySem.W.clsIn K C_BadWish = some cd_BadWish)
    (ga_BadWish : PySem.W.findIn K (.ref C_BadWish) "__getattribute__" = some (some (.builtin "BaseException.__getattribute__")))
    (gg_BadWish : PySem.W.findIn K (.ref C_BadWish) "__getattr__" = some none)
    (ex_BadWish : PySem.W.subIn K (.ref C_BadWish) (.type "BaseException") = some true)
    (cl_BadWish : PySem.W.findIn K (.ref C_BadWish) "__class__" = some (some (.builtin "object.__class__")))
    (ob_BadWish : PySem.W.mroIn K C_BadWish (.type "object") = some true)
    (kc_BadWish : PySem.W.keepIn K (.ref C_BadWish) = true)
    {nm_BadWish q_BadWish : Str}
    {N_BadWish : Addr}
    {bs_BadWish : List Value}
    {sn_BadWish : List Str}
    {sub_BadWish : List Value}
    {ab_BadWish : Bool}
    {col_BadWish : Option Bool}
    {dd_BadWish : Option Addr}
    {k0_BadWish k1_BadWish k2_BadWish k3_BadWish k5_BadWish : Option Value}
    (lc_BadWish : K.lookup C_BadWish = some (excClassObj nm_BadWish q_BadWish C_BadWish N_BadWish bs_BadWish (.ref C_GustError :: mro_ValueError) true sn_BadWish sub_BadWish ab_BadWish col_BadWish dd_BadWish k0_BadWish k1_BadWish k2_BadWish k3_BadWish k5_BadWish "ValueError.__new__"))
    (sa_BadWish : PySem.W.findIn K (.ref C_BadWish) "__setattr__" = some (some (.builtin "object.__setattr__")))
    (n_BadWish : PySem.W.findIn K (.ref C_BadWish) "number" = some none)
    (hd_BadWish : PySem.W.hasDictIn K C_BadWish = true)
    {f_BadWish : Addr}
    (i_BadWish : PySem.W.findIn K (.ref C_BadWish) "__init__" = some (some (.ref f_BadWish)))
    (ty_BadWish : PySem.W.typeIn K (.ref f_BadWish) = some (.type "function"))
    {od_BadWish an_BadWish : Option Addr}
    {sl_BadWish : Array (Option Value)}
    {oci_BadWish kVi_BadWish dci_BadWish pmi_BadWish cdi_BadWish cti_BadWish : Value}
    (l_BadWish : K.lookup f_BadWish = some ⟨oci_BadWish, od_BadWish, .func (PySem.W.fnOf "__init__" "BadWish.__init__" (defArgs st_BadWish) (defBody st_BadWish) (defScope st_BadWish) .none kVi_BadWish dci_BadWish pmi_BadWish an_BadWish cdi_BadWish cti_BadWish), sl_BadWish⟩)
    (c_BadWish : PySem.W.codeIn K cdi_BadWish "BadWish.__init__" = true)
    (k_BadWish : PySem.W.keepIn K (.ref f_BadWish) = true)
    {cd_BadGust : ClassData}
    (x_BadGust : PySem.W.clsIn K C_BadGust = some cd_BadGust)
    (ga_BadGust : PySem.W.findIn K (.ref C_BadGust) "__getattribute__" = some (some (.builtin "BaseException.__getattribute__")))
    (gg_BadGust : PySem.W.findIn K (.ref C_BadGust) "__getattr__" = some none)
    (ex_BadGust : PySem.W.subIn K (.ref C_BadGust) (.type "BaseException") = some true)
    (cl_BadGust : PySem.W.findIn K (.ref C_BadGust) "__class__" = some (some (.builtin "object.__class__")))
    (ob_BadGust : PySem.W.mroIn K C_BadGust (.type "object") = some true)
    (kc_BadGust : PySem.W.keepIn K (.ref C_BadGust) = true)
    {nm_BadGust q_BadGust : Str}
    {N_BadGust : Addr}
    {bs_BadGust : List Value}
    {sn_BadGust : List Str}
    {sub_BadGust : List Value}
    {ab_BadGust : Bool}
    {col_BadGust : Option Bool}
    {dd_BadGust : Option Addr}
    {k0_BadGust k1_BadGust k2_BadGust k3_BadGust k5_BadGust : Option Value}
    (lc_BadGust : K.lookup C_BadGust = some (excClassObj nm_BadGust q_BadGust C_BadGust N_BadGust bs_BadGust (.ref C_GustError :: mro_ValueError) true sn_BadGust sub_BadGust ab_BadGust col_BadGust dd_BadGust k0_BadGust k1_BadGust k2_BadGust k3_BadGust k5_BadGust "ValueError.__new__"))
    (sa_BadGust : PySem.W.findIn K (.ref C_BadGust) "__setattr__" = some (some (.builtin "object.__setattr__")))
    (n_BadGust : PySem.W.findIn K (.ref C_BadGust) "number" = some none)
    (hd_BadGust : PySem.W.hasDictIn K C_BadGust = true)
    {f_BadGust : Addr}
    (i_BadGust : PySem.W.findIn K (.ref C_BadGust) "__init__" = some (some (.ref f_BadGust)))
    (ty_BadGust : PySem.W.typeIn K (.ref f_BadGust) = some (.type "function"))
    {od_BadGust an_BadGust : Option Addr}
    {sl_BadGust : Array (Option Value)}
    {oci_BadGust kVi_BadGust dci_BadGust pmi_BadGust cdi_BadGust cti_BadGust : Value}
    (l_BadGust : K.lookup f_BadGust = some ⟨oci_BadGust, od_BadGust, .func (PySem.W.fnOf "__init__" "BadGust.__init__" (defArgs st_BadGust) (defBody st_BadGust) (defScope st_BadGust) .none kVi_BadGust dci_BadGust pmi_BadGust an_BadGust cdi_BadGust cti_BadGust), sl_BadGust⟩)
    (c_BadGust : PySem.W.codeIn K cdi_BadGust "BadGust.__init__" = true)
    (k_BadGust : PySem.W.keepIn K (.ref f_BadGust) = true)
    {cd_BadAct : ClassData}
    (x_BadAct : PySem.W.clsIn K C_BadAct = some cd_BadAct)
    (ga_BadAct : PySem.W.findIn K (.ref C_BadAct) "__getattribute__" = some (some (.builtin "BaseException.__getattribute__")))
    (gg_BadAct : PySem.W.findIn K (.ref C_BadAct) "__getattr__" = some none)
    (ex_BadAct : PySem.W.subIn K (.ref C_BadAct) (.type "BaseException") = some true)
    (cl_BadAct : PySem.W.findIn K (.ref C_BadAct) "__class__" = some (some (.builtin "object.__class__")))
    (ob_BadAct : PySem.W.mroIn K C_BadAct (.type "object") = some true)
    (kc_BadAct : PySem.W.keepIn K (.ref C_BadAct) = true)
    {nm_BadAct q_BadAct : Str}
    {N_BadAct : Addr}
    {bs_BadAct : List Value}
    {sn_BadAct : List Str}
    {sub_BadAct : List Value}
    {ab_BadAct : Bool}
    {col_BadAct : Option Bool}
    {dd_BadAct : Option Addr}
    {k0_BadAct k1_BadAct k2_BadAct k3_BadAct k5_BadAct : Option Value}
    (lc_BadAct : K.lookup C_BadAct = some (excClassObj nm_BadAct q_BadAct C_BadAct N_BadAct bs_BadAct (.ref C_GustError :: mro_ValueError) true sn_BadAct sub_BadAct ab_BadAct col_BadAct dd_BadAct k0_BadAct k1_BadAct k2_BadAct k3_BadAct k5_BadAct "ValueError.__new__"))
    (sa_BadAct : PySem.W.findIn K (.ref C_BadAct) "__setattr__" = some (some (.builtin "object.__setattr__")))
    (n_BadAct : PySem.W.findIn K (.ref C_BadAct) "word" = some none)
    (hd_BadAct : PySem.W.hasDictIn K C_BadAct = true)
    {f_BadAct : Addr}
    (i_BadAct : PySem.W.findIn K (.ref C_BadAct) "__init__" = some (some (.ref f_BadAct)))
    (ty_BadAct : PySem.W.typeIn K (.ref f_BadAct) = some (.type "function"))
    {od_BadAct an_BadAct : Option Addr}
    {sl_BadAct : Array (Option Value)}
    {oci_BadAct kVi_BadAct dci_BadAct pmi_BadAct cdi_BadAct cti_BadAct : Value}
    (l_BadAct : K.lookup f_BadAct = some ⟨oci_BadAct, od_BadAct, .func (PySem.W.fnOf "__init__" "BadAct.__init__" (defArgs st_BadAct) (defBody st_BadAct) (defScope st_BadAct) .none kVi_BadAct dci_BadAct pmi_BadAct an_BadAct cdi_BadAct cti_BadAct), sl_BadAct⟩)
    (c_BadAct : PySem.W.codeIn K cdi_BadAct "BadAct.__init__" = true)
    (k_BadAct : PySem.W.keepIn K (.ref f_BadAct) = true)
    {cd_BadAsk : ClassData}
    (x_BadAsk : PySem.W.clsIn K C_BadAsk = some cd_BadAsk)
    (ga_BadAsk : PySem.W.findIn K (.ref C_BadAsk) "__getattribute__" = some (some (.builtin "BaseException.__getattribute__")))
    (gg_BadAsk : PySem.W.findIn K (.ref C_BadAsk) "__getattr__" = some none)
    (ex_BadAsk : PySem.W.subIn K (.ref C_BadAsk) (.type "BaseException") = some true)
    (cl_BadAsk : PySem.W.findIn K (.ref C_BadAsk) "__class__" = some (some (.builtin "object.__class__")))
    (ob_BadAsk : PySem.W.mroIn K C_BadAsk (.type "object") = some true)
    (kc_BadAsk : PySem.W.keepIn K (.ref C_BadAsk) = true)
    {nm_BadAsk q_BadAsk : Str}
    {N_BadAsk : Addr}
    {bs_BadAsk : List Value}
    {sn_BadAsk : List Str}
    {sub_BadAsk : List Value}
    {ab_BadAsk : Bool}
    {col_BadAsk : Option Bool}
    {dd_BadAsk : Option Addr}
    {k0_BadAsk k1_BadAsk k2_BadAsk k3_BadAsk k5_BadAsk : Option Value}
    (lc_BadAsk : K.lookup C_BadAsk = some (excClassObj nm_BadAsk q_BadAsk C_BadAsk N_BadAsk bs_BadAsk (.ref C_GustError :: mro_ValueError) true sn_BadAsk sub_BadAsk ab_BadAsk col_BadAsk dd_BadAsk k0_BadAsk k1_BadAsk k2_BadAsk k3_BadAsk k5_BadAsk "ValueError.__new__"))
    (sa_BadAsk : PySem.W.findIn K (.ref C_BadAsk) "__setattr__" = some (some (.builtin "object.__setattr__")))
    (n_BadAsk : PySem.W.findIn K (.ref C_BadAsk) "word" = some none)
    (hd_BadAsk : PySem.W.hasDictIn K C_BadAsk = true)
    {f_BadAsk : Addr}
    (i_BadAsk : PySem.W.findIn K (.ref C_BadAsk) "__init__" = some (some (.ref f_BadAsk)))
    (ty_BadAsk : PySem.W.typeIn K (.ref f_BadAsk) = some (.type "function"))
    {od_BadAsk an_BadAsk : Option Addr}
    {sl_BadAsk : Array (Option Value)}
    {oci_BadAsk kVi_BadAsk dci_BadAsk pmi_BadAsk cdi_BadAsk cti_BadAsk : Value}
    (l_BadAsk : K.lookup f_BadAsk = some ⟨oci_BadAsk, od_BadAsk, .func (PySem.W.fnOf "__init__" "BadAsk.__init__" (defArgs st_BadAsk) (defBody st_BadAsk) (defScope st_BadAsk) .none kVi_BadAsk dci_BadAsk pmi_BadAsk an_BadAsk cdi_BadAsk cti_BadAsk), sl_BadAsk⟩)
    (c_BadAsk : PySem.W.codeIn K cdi_BadAsk "BadAsk.__init__" = true)
    (k_BadAsk : PySem.W.keepIn K (.ref f_BadAsk) = true)
    {cd_NothingDone : ClassData}
    (x_NothingDone : PySem.W.clsIn K C_NothingDone = some cd_NothingDone)
    (ga_NothingDone : PySem.W.findIn K (.ref C_NothingDone) "__getattribute__" = some (some (.builtin "BaseException.__getattribute__")))
    (gg_NothingDone : PySem.W.findIn K (.ref C_NothingDone) "__getattr__" = some none)
    (ex_NothingDone : PySem.W.subIn K (.ref C_NothingDone) (.type "BaseException") = some true)
    (cl_NothingDone : PySem.W.findIn K (.ref C_NothingDone) "__class__" = some (some (.builtin "object.__class__")))
    (ob_NothingDone : PySem.W.mroIn K C_NothingDone (.type "object") = some true)
    (kc_NothingDone : PySem.W.keepIn K (.ref C_NothingDone) = true)
    (e_NothingDone : PySem.W.excIn K C_NothingDone mro_ValueError "ValueError.__new__" = true)
    {cd_UnknownName : ClassData}
    (x_UnknownName : PySem.W.clsIn K C_UnknownName = some cd_UnknownName)
    (ga_UnknownName : PySem.W.findIn K (.ref C_UnknownName) "__getattribute__" = some (some (.builtin "BaseException.__getattribute__")))
    (gg_UnknownName : PySem.W.findIn K (.ref C_UnknownName) "__getattr__" = some none)
    (ex_UnknownName : PySem.W.subIn K (.ref C_UnknownName) (.type "BaseException") = some true)
    (cl_UnknownName : PySem.W.findIn K (.ref C_UnknownName) "__class__" = some (some (.builtin "object.__class__")))
    (ob_UnknownName : PySem.W.mroIn K C_UnknownName (.type "object") = some true)
    (kc_UnknownName : PySem.W.keepIn K (.ref C_UnknownName) = true)
    {nm_UnknownName q_UnknownName : Str}
    {N_UnknownName : Addr}
    {bs_UnknownName : List Value}
    {sn_UnknownName : List Str}
    {sub_UnknownName : List Value}
    {ab_UnknownName : Bool}
    {col_UnknownName : Option Bool}
    {dd_UnknownName : Option Addr}
    {k0_UnknownName k1_UnknownName k2_UnknownName k3_UnknownName k5_UnknownName : Option Value}
    (lc_UnknownName : K.lookup C_UnknownName = some (excClassObj nm_UnknownName q_UnknownName C_UnknownName N_UnknownName bs_UnknownName (.ref C_NameMissing :: mro_LookupError) true sn_UnknownName sub_UnknownName ab_UnknownName col_UnknownName dd_UnknownName k0_UnknownName k1_UnknownName k2_UnknownName k3_UnknownName k5_UnknownName "LookupError.__new__"))
    (sa_UnknownName : PySem.W.findIn K (.ref C_UnknownName) "__setattr__" = some (some (.builtin "object.__setattr__")))
    (n_UnknownName : PySem.W.findIn K (.ref C_UnknownName) "name" = some none)
    (hd_UnknownName : PySem.W.hasDictIn K C_UnknownName = true)
    {f_UnknownName : Addr}
    (i_UnknownName : PySem.W.findIn K (.ref C_UnknownName) "__init__" = some (some (.ref f_UnknownName)))
    (ty_UnknownName : PySem.W.typeIn K (.ref f_UnknownName) = some (.type "function"))
    {od_UnknownName an_UnknownName : Option Addr}
    {sl_UnknownName : Array (Option Value)}
    {oci_UnknownName kVi_UnknownName dci_UnknownName pmi_UnknownName cdi_UnknownName cti_UnknownName : Value}
    (l_UnknownName : K.lookup f_UnknownName = some ⟨oci_UnknownName, od_UnknownName, .func (PySem.W.fnOf "__init__" "UnknownName.__init__" (defArgs st_UnknownName) (defBody st_UnknownName) (defScope st_UnknownName) .none kVi_UnknownName dci_UnknownName pmi_UnknownName an_UnknownName cdi_UnknownName cti_UnknownName), sl_UnknownName⟩)
    (c_UnknownName : PySem.W.codeIn K cdi_UnknownName "UnknownName.__init__" = true)
    (k_UnknownName : PySem.W.keepIn K (.ref f_UnknownName) = true)
    (o_get : PySem.W.specialIn K (.builtin "object.__class__") "__get__" = some (some (.builtin "getset_descriptor.__get__")))
    (o_tk : PySem.W.takesIn K (.builtin "object.__class__") = some true)
    (kk_0_0 : PySem.W.kitOne K (.ref C_BadShape) (.ref C_BadShape) = some true)
    (kk_0_1 : PySem.W.kitOne K (.ref C_BadShape) (.ref C_BadText) = some false)
    (kk_0_2 : PySem.W.kitOne K (.ref C_BadShape) (.ref C_TooGreat) = some false)
    (kk_0_3 : PySem.W.kitOne K (.ref C_BadShape) (.ref C_Bare) = some false)
    (kk_0_4 : PySem.W.kitOne K (.ref C_BadShape) (.ref C_Unbounded) = some false)
    (kk_0_5 : PySem.W.kitOne K (.ref C_BadShape) (.ref C_BadWish) = some false)
    (kk_0_6 : PySem.W.kitOne K (.ref C_BadShape) (.ref C_BadGust) = some false)
    (kk_0_7 : PySem.W.kitOne K (.ref C_BadShape) (.ref C_BadAct) = some false)
    (kk_0_8 : PySem.W.kitOne K (.ref C_BadShape) (.ref C_BadAsk) = some false)
    (kk_0_9 : PySem.W.kitOne K (.ref C_BadShape) (.ref C_NothingDone) = some false)
    (kk_0_10 : PySem.W.kitOne K (.ref C_BadShape) (.ref C_UnknownName) = some false)
    (b1_0 : PySem.W.kitOne K (.ref C_BadShape) (.ref C_GustError) = some true)
    (b2_0 : PySem.W.kitOne K (.ref C_BadShape) (.type "ValueError") = some true)
    (b3_0 : PySem.W.kitOne K (.ref C_BadShape) (.ref C_NameMissing) = some false)
    (b4_0 : PySem.W.kitAny K (.ref C_BadShape) [.type "KeyError", .type "IndexError", .type "TypeError"] = some false)
    (b5_0 : PySem.W.kitAny K (.ref C_BadShape) [.type "ArithmeticError", .type "RuntimeError", .type "AttributeError"] = some false)
    (b6_0 : PySem.W.kitOne K (.ref C_BadShape) (.type "LookupError") = some false)
    (kk_1_0 : PySem.W.kitOne K (.ref C_BadText) (.ref C_BadShape) = some false)
    (kk_1_1 : PySem.W.kitOne K (.ref C_BadText) (.ref C_BadText) = some true)
    (kk_1_2 : PySem.W.kitOne K (.ref C_BadText) (.ref C_TooGreat) = some false)
    (kk_1_3 : PySem.W.kitOne K (.ref C_BadText) (.ref C_Bare) = some false)
    (kk_1_4 : PySem.W.kitOne K (.ref C_BadText) (.ref C_Unbounded) = some false)
    (kk_1_5 : PySem.W.kitOne K (.ref C_BadText) (.ref C_BadWish) = some false)
    (kk_1_6 : PySem.W.kitOne K (.ref C_BadText) (.ref C_BadGust) = some false)
    (kk_1_7 : PySem.W.kitOne K (.ref C_BadText) (.ref C_BadAct) = some false)
    (kk_1_8 : PySem.W.kitOne K (.ref C_BadText) (.ref C_BadAsk) = some false)
    (kk_1_9 : PySem.W.kitOne K (.ref C_BadText) (.ref C_NothingDone) = some false)
    (kk_1_10 : PySem.W.kitOne K (.ref C_BadText) (.ref C_UnknownName) = some false)
    (b1_1 : PySem.W.kitOne K (.ref C_BadText) (.ref C_GustError) = some true)
    (b2_1 : PySem.W.kitOne K (.ref C_BadText) (.type "ValueError") = some true)
    (b3_1 : PySem.W.kitOne K (.ref C_BadText) (.ref C_NameMissing) = some false)
    (b4_1 : PySem.W.kitAny K (.ref C_BadText) [.type "KeyError", .type "IndexError", .type "TypeError"] = some false)
    (b5_1 : PySem.W.kitAny K (.ref C_BadText) [.type "ArithmeticError", .type "RuntimeError", .type "AttributeError"] = some false)
    (b6_1 : PySem.W.kitOne K (.ref C_BadText) (.type "LookupError") = some false)
    (kk_2_0 : PySem.W.kitOne K (.ref C_TooGreat) (.ref C_BadShape) = some false)
    (kk_2_1 : PySem.W.kitOne K (.ref C_TooGreat) (.ref C_BadText) = some false)
    (kk_2_2 : PySem.W.kitOne K (.ref C_TooGreat) (.ref C_TooGreat) = some true)
    (kk_2_3 : PySem.W.kitOne K (.ref C_TooGreat) (.ref C_Bare) = some false)
    (kk_2_4 : PySem.W.kitOne K (.ref C_TooGreat) (.ref C_Unbounded) = some false)
    (kk_2_5 : PySem.W.kitOne K (.ref C_TooGreat) (.ref C_BadWish) = some false)
    (kk_2_6 : PySem.W.kitOne K (.ref C_TooGreat) (.ref C_BadGust) = some false)
    (kk_2_7 : PySem.W.kitOne K (.ref C_TooGreat) (.ref C_BadAct) = some false)
    (kk_2_8 : PySem.W.kitOne K (.ref C_TooGreat) (.ref C_BadAsk) = some false)
    (kk_2_9 : PySem.W.kitOne K (.ref C_TooGreat) (.ref C_NothingDone) = some false)
    (kk_2_10 : PySem.W.kitOne K (.ref C_TooGreat) (.ref C_UnknownName) = some false)
    (b1_2 : PySem.W.kitOne K (.ref C_TooGreat) (.ref C_GustError) = some true)
    (b2_2 : PySem.W.kitOne K (.ref C_TooGreat) (.type "ValueError") = some true)
    (b3_2 : PySem.W.kitOne K (.ref C_TooGreat) (.ref C_NameMissing) = some false)
    (b4_2 : PySem.W.kitAny K (.ref C_TooGreat) [.type "KeyError", .type "IndexError", .type "TypeError"] = some false)
    (b5_2 : PySem.W.kitAny K (.ref C_TooGreat) [.type "ArithmeticError", .type "RuntimeError", .type "AttributeError"] = some false)
    (b6_2 : PySem.W.kitOne K (.ref C_TooGreat) (.type "LookupError") = some false)
    (kk_3_0 : PySem.W.kitOne K (.ref C_Bare) (.ref C_BadShape) = some false)
    (kk_3_1 : PySem.W.kitOne K (.ref C_Bare) (.ref C_BadText) = some false)
    (kk_3_2 : PySem.W.kitOne K (.ref C_Bare) (.ref C_TooGreat) = some false)
    (kk_3_3 : PySem.W.kitOne K (.ref C_Bare) (.ref C_Bare) = some true)
    (kk_3_4 : PySem.W.kitOne K (.ref C_Bare) (.ref C_Unbounded) = some false)
    (kk_3_5 : PySem.W.kitOne K (.ref C_Bare) (.ref C_BadWish) = some false)
    (kk_3_6 : PySem.W.kitOne K (.ref C_Bare) (.ref C_BadGust) = some false)
    (kk_3_7 : PySem.W.kitOne K (.ref C_Bare) (.ref C_BadAct) = some false)
    (kk_3_8 : PySem.W.kitOne K (.ref C_Bare) (.ref C_BadAsk) = some false)
    (kk_3_9 : PySem.W.kitOne K (.ref C_Bare) (.ref C_NothingDone) = some false)
    (kk_3_10 : PySem.W.kitOne K (.ref C_Bare) (.ref C_UnknownName) = some false)
    (b1_3 : PySem.W.kitOne K (.ref C_Bare) (.ref C_GustError) = some true)
    (b2_3 : PySem.W.kitOne K (.ref C_Bare) (.type "ValueError") = some true)
    (b3_3 : PySem.W.kitOne K (.ref C_Bare) (.ref C_NameMissing) = some false)
    (b4_3 : PySem.W.kitAny K (.ref C_Bare) [.type "KeyError", .type "IndexError", .type "TypeError"] = some false)
    (b5_3 : PySem.W.kitAny K (.ref C_Bare) [.type "ArithmeticError", .type "RuntimeError", .type "AttributeError"] = some false)
    (b6_3 : PySem.W.kitOne K (.ref C_Bare) (.type "LookupError") = some false)
    (kk_4_0 : PySem.W.kitOne K (.ref C_Unbounded) (.ref C_BadShape) = some false)
    (kk_4_1 : PySem.W.kitOne K (.ref C_Unbounded) (.ref C_BadText) = some false)
    (kk_4_2 : PySem.W.kitOne K (.ref C_Unbounded) (.ref C_TooGreat) = some false)
    (kk_4_3 : PySem.W.kitOne K (.ref C_Unbounded) (.ref C_Bare) = some false)
    (kk_4_4 : PySem.W.kitOne K (.ref C_Unbounded) (.ref C_Unbounded) = some true)
    (kk_4_5 : PySem.W.kitOne K (.ref C_Unbounded) (.ref C_BadWish) = some false)
    (kk_4_6 : PySem.W.kitOne K (.ref C_Unbounded) (.ref C_BadGust) = some false)
    (kk_4_7 : PySem.W.kitOne K (.ref C_Unbounded) (.ref C_BadAct) = some false)
    (kk_4_8 : PySem.W.kitOne K (.ref C_Unbounded) (.ref C_BadAsk) = some false)
    (kk_4_9 : PySem.W.kitOne K (.ref C_Unbounded) (.ref C_NothingDone) = some false)
    (kk_4_10 : PySem.W.kitOne K (.ref C_Unbounded) (.ref C_UnknownName) = some false)
    (b1_4 : PySem.W.kitOne K (.ref C_Unbounded) (.ref C_GustError) = some true)
    (b2_4 : PySem.W.kitOne K (.ref C_Unbounded) (.type "ValueError") = some true)
    (b3_4 : PySem.W.kitOne K (.ref C_Unbounded) (.ref C_NameMissing) = some false)
    (b4_4 : PySem.W.kitAny K (.ref C_Unbounded) [.type "KeyError", .type "IndexError", .type "TypeError"] = some false)
    (b5_4 : PySem.W.kitAny K (.ref C_Unbounded) [.type "ArithmeticError", .type "RuntimeError", .type "AttributeError"] = some false)
    (b6_4 : PySem.W.kitOne K (.ref C_Unbounded) (.type "LookupError") = some false)
    (kk_5_0 : PySem.W.kitOne K (.ref C_BadWish) (.ref C_BadShape) = some false)
    (kk_5_1 : PySem.W.kitOne K (.ref C_BadWish) (.ref C_BadText) = some false)
    (kk_5_2 : PySem.W.kitOne K (.ref C_BadWish) (.ref C_TooGreat) = some false)
    (kk_5_3 : PySem.W.kitOne K (.ref C_BadWish) (.ref C_Bare) = some false)
    (kk_5_4 : PySem.W.kitOne K (.ref C_BadWish) (.ref C_Unbounded) = some false)
    (kk_5_5 : PySem.W.kitOne K (.ref C_BadWish) (.ref C_BadWish) = some true)
    (kk_5_6 : PySem.W.kitOne K (.ref C_BadWish) (.ref C_BadGust) = some false)
    (kk_5_7 : PySem.W.kitOne K (.ref C_BadWish) (.ref C_BadAct) = some false)
    (kk_5_8 : PySem.W.kitOne K (.ref C_BadWish) (.ref C_BadAsk) = some false)
    (kk_5_9 : PySem.W.kitOne K (.ref C_BadWish) (.ref C_NothingDone) = some false)
    (kk_5_10 : PySem.W.kitOne K (.ref C_BadWish) (.ref C_UnknownName) = some false)
    (b1_5 : PySem.W.kitOne K (.ref C_BadWish) (.ref C_GustError) = some true)
    (b2_5 : PySem.W.kitOne K (.ref C_BadWish) (.type "ValueError") = some true)
    (b3_5 : PySem.W.kitOne K (.ref C_BadWish) (.ref C_NameMissing) = some false)
    (b4_5 : PySem.W.kitAny K (.ref C_BadWish) [.type "KeyError", .type "IndexError", .type "TypeError"] = some false)
    (b5_5 : PySem.W.kitAny K (.ref C_BadWish) [.type "ArithmeticError", .type "RuntimeError", .type "AttributeError"] = some false)
    (b6_5 : PySem.W.kitOne K (.ref C_BadWish) (.type "LookupError") = some false)
    (kk_6_0 : PySem.W.kitOne K (.ref C_BadGust) (.ref C_BadShape) = some false)
    (kk_6_1 : PySem.W.kitOne K (.ref C_BadGust) (.ref C_BadText) = some false)
    (kk_6_2 : PySem.W.kitOne K (.ref C_BadGust) (.ref C_TooGreat) = some false)
    (kk_6_3 : PySem.W.kitOne K (.ref C_BadGust) (.ref C_Bare) = some false)
    (kk_6_4 : PySem.W.kitOne K (.ref C_BadGust) (.ref C_Unbounded) = some false)
    (kk_6_5 : PySem.W.kitOne K (.ref C_BadGust) (.ref C_BadWish) = some false)
    (kk_6_6 : PySem.W.kitOne K (.ref C_BadGust) (.ref C_BadGust) = some true)
    (kk_6_7 : PySem.W.kitOne K (.ref C_BadGust) (.ref C_BadAct) = some false)
    (kk_6_8 : PySem.W.kitOne K (.ref C_BadGust) (.ref C_BadAsk) = some false)
    (kk_6_9 : PySem.W.kitOne K (.ref C_BadGust) (.ref C_NothingDone) = some false)
    (kk_6_10 : PySem.W.kitOne K (.ref C_BadGust) (.ref C_UnknownName) = some false)
    (b1_6 : PySem.W.kitOne K (.ref C_BadGust) (.ref C_GustError) = some true)
    (b2_6 : PySem.W.kitOne K (.ref C_BadGust) (.type "ValueError") = some true)
    (b3_6 : PySem.W.kitOne K (.ref C_BadGust) (.ref C_NameMissing) = some false)
    (b4_6 : PySem.W.kitAny K (.ref C_BadGust) [.type "KeyError", .type "IndexError", .type "TypeError"] = some false)
    (b5_6 : PySem.W.kitAny K (.ref C_BadGust) [.type "ArithmeticError", .type "RuntimeError", .type "AttributeError"] = some false)
    (b6_6 : PySem.W.kitOne K (.ref C_BadGust) (.type "LookupError") = some false)
    (kk_7_0 : PySem.W.kitOne K (.ref C_BadAct) (.ref C_BadShape) = some false)
    (kk_7_1 : PySem.W.kitOne K (.ref C_BadAct) (.ref C_BadText) = some false)
    (kk_7_2 : PySem.W.kitOne K (.ref C_BadAct) (.ref C_TooGreat) = some false)
    (kk_7_3 : PySem.W.kitOne K (.ref C_BadAct) (.ref C_Bare) = some false)
    (kk_7_4 : PySem.W.kitOne K (.ref C_BadAct) (.ref C_Unbounded) = some false)
    (kk_7_5 : PySem.W.kitOne K (.ref C_BadAct) (.ref C_BadWish) = some false)
    (kk_7_6 : PySem.W.kitOne K (.ref C_BadAct) (.ref C_BadGust) = some false)
    (kk_7_7 : PySem.W.kitOne K (.ref C_BadAct) (.ref C_BadAct) = some true)
    (kk_7_8 : PySem.W.kitOne K (.ref C_BadAct) (.ref C_BadAsk) = some false)
    (kk_7_9 : PySem.W.kitOne K (.ref C_BadAct) (.ref C_NothingDone) = some false)
    (kk_7_10 : PySem.W.kitOne K (.ref C_BadAct) (.ref C_UnknownName) = some false)
    (b1_7 : PySem.W.kitOne K (.ref C_BadAct) (.ref C_GustError) = some true)
    (b2_7 : PySem.W.kitOne K (.ref C_BadAct) (.type "ValueError") = some true)
    (b3_7 : PySem.W.kitOne K (.ref C_BadAct) (.ref C_NameMissing) = some false)
    (b4_7 : PySem.W.kitAny K (.ref C_BadAct) [.type "KeyError", .type "IndexError", .type "TypeError"] = some false)
    (b5_7 : PySem.W.kitAny K (.ref C_BadAct) [.type "ArithmeticError", .type "RuntimeError", .type "AttributeError"] = some false)
    (b6_7 : PySem.W.kitOne K (.ref C_BadAct) (.type "LookupError") = some false)
    (kk_8_0 : PySem.W.kitOne K (.ref C_BadAsk) (.ref C_BadShape) = some false)
    (kk_8_1 : PySem.W.kitOne K (.ref C_BadAsk) (.ref C_BadText) = some false)
    (kk_8_2 : PySem.W.kitOne K (.ref C_BadAsk) (.ref C_TooGreat) = some false)
    (kk_8_3 : PySem.W.kitOne K (.ref C_BadAsk) (.ref C_Bare) = some false)
    (kk_8_4 : PySem.W.kitOne K (.ref C_BadAsk) (.ref C_Unbounded) = some false)
    (kk_8_5 : PySem.W.kitOne K (.ref C_BadAsk) (.ref C_BadWish) = some false)
    (kk_8_6 : PySem.W.kitOne K (.ref C_BadAsk) (.ref C_BadGust) = some false)
    (kk_8_7 : PySem.W.kitOne K (.ref C_BadAsk) (.ref C_BadAct) = some false)
    (kk_8_8 : PySem.W.kitOne K (.ref C_BadAsk) (.ref C_BadAsk) = some true)
    (kk_8_9 : PySem.W.kitOne K (.ref C_BadAsk) (.ref C_NothingDone) = some false)
    (kk_8_10 : PySem.W.kitOne K (.ref C_BadAsk) (.ref C_UnknownName) = some false)
    (b1_8 : PySem.W.kitOne K (.ref C_BadAsk) (.ref C_GustError) = some true)
    (b2_8 : PySem.W.kitOne K (.ref C_BadAsk) (.type "ValueError") = some true)
    (b3_8 : PySem.W.kitOne K (.ref C_BadAsk) (.ref C_NameMissing) = some false)
    (b4_8 : PySem.W.kitAny K (.ref C_BadAsk) [.type "KeyError", .type "IndexError", .type "TypeError"] = some false)
    (b5_8 : PySem.W.kitAny K (.ref C_BadAsk) [.type "ArithmeticError", .type "RuntimeError", .type "AttributeError"] = some false)
    (b6_8 : PySem.W.kitOne K (.ref C_BadAsk) (.type "LookupError") = some false)
    (kk_9_0 : PySem.W.kitOne K (.ref C_NothingDone) (.ref C_BadShape) = some false)
    (kk_9_1 : PySem.W.kitOne K (.ref C_NothingDone) (.ref C_BadText) = some false)
    (kk_9_2 : PySem.W.kitOne K (.ref C_NothingDone) (.ref C_TooGreat) = some false)
    (kk_9_3 : PySem.W.kitOne K (.ref C_NothingDone) (.ref C_Bare) = some false)
    (kk_9_4 : PySem.W.kitOne K (.ref C_NothingDone) (.ref C_Unbounded) = some false)
    (kk_9_5 : PySem.W.kitOne K (.ref C_NothingDone) (.ref C_BadWish) = some false)
    (kk_9_6 : PySem.W.kitOne K (.ref C_NothingDone) (.ref C_BadGust) = some false)
    (kk_9_7 : PySem.W.kitOne K (.ref C_NothingDone) (.ref C_BadAct) = some false)
    (kk_9_8 : PySem.W.kitOne K (.ref C_NothingDone) (.ref C_BadAsk) = some false)
    (kk_9_9 : PySem.W.kitOne K (.ref C_NothingDone) (.ref C_NothingDone) = some true)
    (kk_9_10 : PySem.W.kitOne K (.ref C_NothingDone) (.ref C_UnknownName) = some false)
    (b1_9 : PySem.W.kitOne K (.ref C_NothingDone) (.ref C_GustError) = some true)
    (b2_9 : PySem.W.kitOne K (.ref C_NothingDone) (.type "ValueError") = some true)
    (b3_9 : PySem.W.kitOne K (.ref C_NothingDone) (.ref C_NameMissing) = some false)
    (b4_9 : PySem.W.kitAny K (.ref C_NothingDone) [.type "KeyError", .type "IndexError", .type "TypeError"] = some false)
    (b5_9 : PySem.W.kitAny K (.ref C_NothingDone) [.type "ArithmeticError", .type "RuntimeError", .type "AttributeError"] = some false)
    (b6_9 : PySem.W.kitOne K (.ref C_NothingDone) (.type "LookupError") = some false)
    (kk_10_0 : PySem.W.kitOne K (.ref C_UnknownName) (.ref C_BadShape) = some false)
    (kk_10_1 : PySem.W.kitOne K (.ref C_UnknownName) (.ref C_BadText) = some false)
    (kk_10_2 : PySem.W.kitOne K (.ref C_UnknownName) (.ref C_TooGreat) = some false)
    (kk_10_3 : PySem.W.kitOne K (.ref C_UnknownName) (.ref C_Bare) = some false)
    (kk_10_4 : PySem.W.kitOne K (.ref C_UnknownName) (.ref C_Unbounded) = some false)
    (kk_10_5 : PySem.W.kitOne K (.ref C_UnknownName) (.ref C_BadWish) = some false)
    (kk_10_6 : PySem.W.kitOne K (.ref C_UnknownName) (.ref C_BadGust) = some false)
    (kk_10_7 : PySem.W.kitOne K (.ref C_UnknownName) (.ref C_BadAct) = some false)
    (kk_10_8 : PySem.W.kitOne K (.ref C_UnknownName) (.ref C_BadAsk) = some false)
    (kk_10_9 : PySem.W.kitOne K (.ref C_UnknownName) (.ref C_NothingDone) = some false)
    (kk_10_10 : PySem.W.kitOne K (.ref C_UnknownName) (.ref C_UnknownName) = some true)
    (b1_10 : PySem.W.kitOne K (.ref C_UnknownName) (.ref C_GustError) = some false)
    (b2_10 : PySem.W.kitOne K (.ref C_UnknownName) (.type "ValueError") = some false)
    (b3_10 : PySem.W.kitOne K (.ref C_UnknownName) (.ref C_NameMissing) = some true)
    (b4_10 : PySem.W.kitAny K (.ref C_UnknownName) [.type "KeyError", .type "IndexError", .type "TypeError"] = some false)
    (b5_10 : PySem.W.kitAny K (.ref C_UnknownName) [.type "ArithmeticError", .type "RuntimeError", .type "AttributeError"] = some false)
    (b6_10 : PySem.W.kitOne K (.ref C_UnknownName) (.type "LookupError") = some true)
    (z_ArithmeticError : PySem.W.nsIn K mainGlobals "ArithmeticError" = some none)
    (z_AttributeError : PySem.W.nsIn K mainGlobals "AttributeError" = some none)
    (z_IndexError : PySem.W.nsIn K mainGlobals "IndexError" = some none)
    (z_KeyError : PySem.W.nsIn K mainGlobals "KeyError" = some none)
    (z_LookupError : PySem.W.nsIn K mainGlobals "LookupError" = some none)
    (z_RuntimeError : PySem.W.nsIn K mainGlobals "RuntimeError" = some none)
    (z_TypeError : PySem.W.nsIn K mainGlobals "TypeError" = some none)
    (z_ValueError : PySem.W.nsIn K mainGlobals "ValueError" = some none)
    (z_abs : PySem.W.nsIn K mainGlobals "abs" = some none)
    (z_int : PySem.W.nsIn K mainGlobals "int" = some none)
    (z_isinstance : PySem.W.nsIn K mainGlobals "isinstance" = some none)
    (z_len : PySem.W.nsIn K mainGlobals "len" = some none)
    (z_list : PySem.W.nsIn K mainGlobals "list" = some none)
    (z_max : PySem.W.nsIn K mainGlobals "max" = some none)
    (z_range : PySem.W.nsIn K mainGlobals "range" = some none)
    (z_repr : PySem.W.nsIn K mainGlobals "repr" = some none)
    (z_tuple : PySem.W.nsIn K mainGlobals "tuple" = some none) :
    ∃ fd : FuncData, (∀ (s : Shared) (u : Value), BindsTo s fd ⟨[u], []⟩ [("script", u)]) ∧ ∀ base : Heap, K.In base → base.Ns mainGlobals mg → NoDig base → FnG PySem.Challenge.rw_everygust_k00_errors.prog w K mg base 5 fa fd ["script"] (spLaw K) := by
  have e := hfa.symm.trans (PySem.W.mg_of X G a_law)
  cases e
  have T : Tx mg := ⟨PySem.W.mg_none_of X G z_ArithmeticError, PySem.W.mg_none_of X G z_AttributeError, PySem.W.mg_none_of X G z_IndexError, PySem.W.mg_none_of X G z_KeyError, PySem.W.mg_none_of X G z_LookupError, PySem.W.mg_none_of X G z_RuntimeError, PySem.W.mg_none_of X G z_TypeError, PySem.W.mg_none_of X G z_ValueError, PySem.W.mg_none_of X G z_abs, PySem.W.mg_none_of X G z_int, PySem.W.mg_none_of X G z_isinstance, PySem.W.mg_none_of X G z_len, PySem.W.mg_none_of X G z_list, PySem.W.mg_none_of X G z_max, PySem.W.mg_none_of X G z_range, PySem.W.mg_none_of X G z_repr, PySem.W.mg_none_of X G z_tuple⟩
  have F_l_source := fun_mk (st := st_l_source) l_l_source c_l_source k_l_source
  have b_l_source := F_l_source.binds (ps := ["script"]) fun _ _ _ _ _ _ us hl => match us, hl with | [_], _ => rfl
  have F_l_pick := fun_mk (st := st_l_pick) l_l_pick c_l_pick k_l_pick
  have b_l_pick := F_l_pick.binds (ps := ["source", "many"]) fun _ _ _ _ _ _ us hl => match us, hl with | [_, _], _ => rfl
  have F_l_of := fun_mk (st := st_l_of) l_l_of c_l_of k_l_of
  have b_l_of := F_l_of.binds (ps := ["source", "some"]) fun _ _ _ _ _ _ us hl => match us, hl with | [_, _], _ => rfl
  have F_l_every := fun_mk (st := st_l_every) l_l_every c_l_every k_l_every
  have b_l_every := F_l_every.binds (ps := ["path", "number", "word", "name"]) fun _ _ _ _ _ _ us hl => match us, hl with | [_, _, _, _], _ => rfl
  have F_l_kinds := fun_mk (st := st_l_kinds) l_l_kinds c_l_kinds k_l_kinds
  have b_l_kinds := F_l_kinds.binds (ps := ["e"]) fun _ _ _ _ _ _ us hl => match us, hl with | [_], _ => rfl
  have F_l_bases := fun_mk (st := st_l_bases) l_l_bases c_l_bases k_l_bases
  have b_l_bases := F_l_bases.binds (ps := ["e"]) fun _ _ _ _ _ _ us hl => match us, hl with | [_], _ => rfl
  have F_law := fun_mk (st := st_law) l_law c_law k_law
  have m_GustError := PySem.W.mg_of X G a_GustError
  have m_BadShape := PySem.W.mg_of X G a_BadShape
  have m_BadText := PySem.W.mg_of X G a_BadText
  have m_TooGreat := PySem.W.mg_of X G a_TooGreat
  have m_Bare := PySem.W.mg_of X G a_Bare
  have m_Unbounded := PySem.W.mg_of X G a_Unbounded
  have m_BadWish := PySem.W.mg_of X G a_BadWish
  have m_BadGust := PySem.W.mg_of X G a_BadGust
  have m_BadAct := PySem.W.mg_of X G a_BadAct
  have m_BadAsk := PySem.W.mg_of X G a_BadAsk
  have m_NothingDone := PySem.W.mg_of X G a_NothingDone
  have m_UnknownName := PySem.W.mg_of X G a_UnknownName
  have m_NameMissing := PySem.W.mg_of X G a_NameMissing
  have xi_BadShape : XIs K C_BadShape := ⟨by rw [x_BadShape]; rfl, ga_BadShape, ⟨_, gg_BadShape⟩, ex_BadShape, cl_BadShape, o_get, o_tk, ob_BadShape⟩
  have T_BadShape : XCls K C_BadShape "ValueError.__new__" mro_ValueError := xcls_mk (B := "") lc_BadShape (by decide) pass_ValueError sa_BadShape kc_BadShape
  have F_BadShape := fun_mk (st := st_BadShape) l_BadShape c_BadShape k_BadShape
  have b_BadShape := F_BadShape.binds (ps := ["self", "path"]) fun _ _ _ _ _ _ us hl => match us, hl with | [_, _], _ => rfl
  have xf_BadShape : XfC K C_BadShape := ⟨ga_BadShape, gg_BadShape, ex_BadShape, hd_BadShape⟩
  have xi_BadText : XIs K C_BadText := ⟨by rw [x_BadText]; rfl, ga_BadText, ⟨_, gg_BadText⟩, ex_BadText, cl_BadText, o_get, o_tk, ob_BadText⟩
  have T_BadText : XCls K C_BadText "ValueError.__new__" mro_ValueError := xcls_mk (B := "") lc_BadText (by decide) pass_ValueError sa_BadText kc_BadText
  have F_BadText := fun_mk (st := st_BadText) l_BadText c_BadText k_BadText
  have b_BadText := F_BadText.binds (ps := ["self", "place"]) fun _ _ _ _ _ _ us hl => match us, hl with | [_, _], _ => rfl
  have xf_BadText : XfC K C_BadText := ⟨ga_BadText, gg_BadText, ex_BadText, hd_BadText⟩
  have xi_TooGreat : XIs K C_TooGreat := ⟨by rw [x_TooGreat]; rfl, ga_TooGreat, ⟨_, gg_TooGreat⟩, ex_TooGreat, cl_TooGreat, o_get, o_tk, ob_TooGreat⟩
  have h_TooGreat : Has0 K mg "TooGreat" C_TooGreat "ValueError.__new__" mro_ValueError := ⟨m_TooGreat, e_TooGreat, kc_TooGreat⟩
  have xi_Bare : XIs K C_Bare := ⟨by rw [x_Bare]; rfl, ga_Bare, ⟨_, gg_Bare⟩, ex_Bare, cl_Bare, o_get, o_tk, ob_Bare⟩
  have h_Bare : Has0 K mg "Bare" C_Bare "ValueError.__new__" mro_ValueError := ⟨m_Bare, e_Bare, kc_Bare⟩
  have xi_Unbounded : XIs K C_Unbounded := ⟨by rw [x_Unbounded]; rfl, ga_Unbounded, ⟨_, gg_Unbounded⟩, ex_Unbounded, cl_Unbounded, o_get, o_tk, ob_Unbounded⟩
  have h_Unbounded : Has0 K mg "Unbounded" C_Unbounded "ValueError.__new__" mro_ValueError := ⟨m_Unbounded, e_Unbounded, kc_Unbounded⟩
  have xi_BadWish : XIs K C_BadWish := ⟨by rw [x_BadWish]; rfl, ga_BadWish, ⟨_, gg_BadWish⟩, ex_BadWish, cl_BadWish, o_get, o_tk, ob_BadWish⟩
  have T_BadWish : XCls K C_BadWish "ValueError.__new__" mro_ValueError := xcls_mk (B := "") lc_BadWish (by decide) pass_ValueError sa_BadWish kc_BadWish
  have F_BadWish := fun_mk (st := st_BadWish) l_BadWish c_BadWish k_BadWish
  have b_BadWish := F_BadWish.binds (ps := ["self", "number"]) fun _ _ _ _ _ _ us hl => match us, hl with | [_, _], _ => rfl
  have xf_BadWish : XfC K C_BadWish := ⟨ga_BadWish, gg_BadWish, ex_BadWish, hd_BadWish⟩
  have xi_BadGust : XIs K C_BadGust := ⟨by rw [x_BadGust]; rfl, ga_BadGust, ⟨_, gg_BadGust⟩, ex_BadGust, cl_BadGust, o_get, o_tk, ob_BadGust⟩
  have T_BadGust : XCls K C_BadGust "ValueError.__new__" mro_ValueError := xcls_mk (B := "") lc_BadGust (by decide) pass_ValueError sa_BadGust kc_BadGust
  have F_BadGust := fun_mk (st := st_BadGust) l_BadGust c_BadGust k_BadGust
  have b_BadGust := F_BadGust.binds (ps := ["self", "number"]) fun _ _ _ _ _ _ us hl => match us, hl with | [_, _], _ => rfl
  have xf_BadGust : XfC K C_BadGust := ⟨ga_BadGust, gg_BadGust, ex_BadGust, hd_BadGust⟩
  have xi_BadAct : XIs K C_BadAct := ⟨by rw [x_BadAct]; rfl, ga_BadAct, ⟨_, gg_BadAct⟩, ex_BadAct, cl_BadAct, o_get, o_tk, ob_BadAct⟩
  have T_BadAct : XCls K C_BadAct "ValueError.__new__" mro_ValueError := xcls_mk (B := "") lc_BadAct (by decide) pass_ValueError sa_BadAct kc_BadAct
  have F_BadAct := fun_mk (st := st_BadAct) l_BadAct c_BadAct k_BadAct
  have b_BadAct := F_BadAct.binds (ps := ["self", "word"]) fun _ _ _ _ _ _ us hl => match us, hl with | [_, _], _ => rfl
  have xf_BadAct : XfC K C_BadAct := ⟨ga_BadAct, gg_BadAct, ex_BadAct, hd_BadAct⟩
  have xi_BadAsk : XIs K C_BadAsk := ⟨by rw [x_BadAsk]; rfl, ga_BadAsk, ⟨_, gg_BadAsk⟩, ex_BadAsk, cl_BadAsk, o_get, o_tk, ob_BadAsk⟩
  have T_BadAsk : XCls K C_BadAsk "ValueError.__new__" mro_ValueError := xcls_mk (B := "") lc_BadAsk (by decide) pass_ValueError sa_BadAsk kc_BadAsk
  have F_BadAsk := fun_mk (st := st_BadAsk) l_BadAsk c_BadAsk k_BadAsk
  have b_BadAsk := F_BadAsk.binds (ps := ["self", "word"]) fun _ _ _ _ _ _ us hl => match us, hl with | [_, _], _ => rfl
  have xf_BadAsk : XfC K C_BadAsk := ⟨ga_BadAsk, gg_BadAsk, ex_BadAsk, hd_BadAsk⟩
  have xi_NothingDone : XIs K C_NothingDone := ⟨by rw [x_NothingDone]; rfl, ga_NothingDone, ⟨_, gg_NothingDone⟩, ex_NothingDone, cl_NothingDone, o_get, o_tk, ob_NothingDone⟩
  have h_NothingDone : Has0 K mg "NothingDone" C_NothingDone "ValueError.__new__" mro_ValueError := ⟨m_NothingDone, e_NothingDone, kc_NothingDone⟩
  have xi_UnknownName : XIs K C_UnknownName := ⟨by rw [x_UnknownName]; rfl, ga_UnknownName, ⟨_, gg_UnknownName⟩, ex_UnknownName, cl_UnknownName, o_get, o_tk, ob_UnknownName⟩
  have T_UnknownName : XCls K C_UnknownName "LookupError.__new__" mro_LookupError := xcls_mk (B := "") lc_UnknownName (by decide) pass_LookupError sa_UnknownName kc_UnknownName
  have F_UnknownName := fun_mk (st := st_UnknownName) l_UnknownName c_UnknownName k_UnknownName
  have b_UnknownName := F_UnknownName.binds (ps := ["self", "name"]) fun _ _ _ _ _ _ us hl => match us, hl with | [_, _], _ => rfl
  have xf_UnknownName : XfC K C_UnknownName := ⟨ga_UnknownName, gg_UnknownName, ex_UnknownName, hd_UnknownName⟩
  have kf : KFact K [C_BadShape, C_BadText, C_TooGreat, C_Bare, C_Unbounded, C_BadWish, C_BadGust, C_BadAct, C_BadAsk, C_NothingDone, C_UnknownName] := by
    intro i C h
    match i, h with
    | 0, h =>
      have e : C_BadShape = C := Option.some.inj h
      subst e
      refine ⟨xi_BadShape, fun j D h => ?_⟩
      match j, h with
      | 0, h =>
        have e : C_BadShape = D := Option.some.inj h
        subst e
        exact kk_0_0
      | 1, h =>
        have e : C_BadText = D := Option.some.inj h
        subst e
        exact kk_0_1
      | 2, h =>
        have e : C_TooGreat = D := Option.some.inj h
        subst e
        exact kk_0_2
      | 3, h =>
        have e : C_Bare = D := Option.some.inj h
        subst e
        exact kk_0_3
      | 4, h =>
        have e : C_Unbounded = D := Option.some.inj h
        subst e
        exact kk_0_4
      | 5, h =>
        have e : C_BadWish = D := Option.some.inj h
        subst e
        exact kk_0_5
      | 6, h =>
        have e : C_BadGust = D := Option.some.inj h
        subst e
        exact kk_0_6
      | 7, h =>
        have e : C_BadAct = D := Option.some.inj h
        subst e
        exact kk_0_7
      | 8, h =>
        have e : C_BadAsk = D := Option.some.inj h
        subst e
        exact kk_0_8
      | 9, h =>
        have e : C_NothingDone = D := Option.some.inj h
        subst e
        exact kk_0_9
      | 10, h =>
        have e : C_UnknownName = D := Option.some.inj h
        subst e
        exact kk_0_10
      | j + 11, h => exact nomatch (show none = some D from h)
    | 1, h =>
      have e : C_BadText = C := Option.some.inj h
      subst e
      refine ⟨xi_BadText, fun j D h => ?_⟩
      match j, h with
      | 0, h =>
        have e : C_BadShape = D := Option.some.inj h
        subst e
        exact kk_1_0
      | 1, h =>
        have e : C_BadText = D := Option.some.inj h
        subst e
        exact kk_1_1
      | 2, h =>
        have e : C_TooGreat = D := Option.some.inj h
        subst e
        exact kk_1_2
      | 3, h =>
        have e : C_Bare = D := Option.some.inj h
        subst e
        exact kk_1_3
      | 4, h =>
        have e : C_Unbounded = D := Option.some.inj h
        subst e
        exact kk_1_4
      | 5, h =>
        have e : C_BadWish = D := Option.some.inj h
        subst e
        exact kk_1_5
      | 6, h =>
        have e : C_BadGust = D := Option.some.inj h
        subst e
        exact kk_1_6
      | 7, h =>
        have e : C_BadAct = D := Option.some.inj h
        subst e
        exact kk_1_7
      | 8, h =>
        have e : C_BadAsk = D := Option.some.inj h
        subst e
        exact kk_1_8
      | 9, h =>
        have e : C_NothingDone = D := Option.some.inj h
        subst e
        exact kk_1_9
      | 10, h =>
        have e : C_UnknownName = D := Option.some.inj h
        subst e
        exact kk_1_10
      | j + 11, h => exact nomatch (show none = some D from h)
    | 2, h =>
      have e : C_TooGreat = C := Option.some.inj h
      subst e
      refine ⟨xi_TooGreat, fun j D h => ?_⟩
      match j, h with
      | 0, h =>
        have e : C_BadShape = D := Option.some.inj h
        subst e
        exact kk_2_0
      | 1, h =>
        have e : C_BadText = D := Option.some.inj h
        subst e
        exact kk_2_1
      | 2, h =>
        have e : C_TooGreat = D := Option.some.inj h
        subst e
        exact kk_2_2
      | 3, h =>
        have e : C_Bare = D := Option.some.inj h
        subst e
        exact kk_2_3
      | 4, h =>
        have e : C_Unbounded = D := Option.some.inj h
        subst e
        exact kk_2_4
      | 5, h =>
        have e : C_BadWish = D := Option.some.inj h
        subst e
        exact kk_2_5
      | 6, h =>
        have e : C_BadGust = D := Option.some.inj h
        subst e
        exact kk_2_6
      | 7, h =>
        have e : C_BadAct = D := Option.some.inj h
        subst e
        exact kk_2_7
      | 8, h =>
        have e : C_BadAsk = D := Option.some.inj h
        subst e
        exact kk_2_8
      | 9, h =>
        have e : C_NothingDone = D := Option.some.inj h
        subst e
        exact kk_2_9
      | 10, h =>
        have e : C_UnknownName = D := Option.some.inj h
        subst e
        exact kk_2_10
      | j + 11, h => exact nomatch (show none = some D from h)
    | 3, h =>
      have e : C_Bare = C := Option.some.inj h
      subst e
      refine ⟨xi_Bare, fun j D h => ?_⟩
      match j, h with
      | 0, h =>
        have e : C_BadShape = D := Option.some.inj h
        subst e
        exact kk_3_0
      | 1, h =>
        have e : C_BadText = D := Option.some.inj h
        subst e
        exact kk_3_1
      | 2, h =>
        have e : C_TooGreat = D := Option.some.inj h
        subst e
        exact kk_3_2
      | 3, h =>
        have e : C_Bare = D := Option.some.inj h
        subst e
        exact kk_3_3
      | 4, h =>
        have e : C_Unbounded = D := Option.some.inj h
        subst e
        exact kk_3_4
      | 5, h =>
        have e : C_BadWish = D := Option.some.inj h
        subst e
        exact kk_3_5
      | 6, h =>
        have e : C_BadGust = D := Option.some.inj h
        subst e
        exact kk_3_6
      | 7, h =>
        have e : C_BadAct = D := Option.some.inj h
        subst e
        exact kk_3_7
      | 8, h =>
        have e : C_BadAsk = D := Option.some.inj h
        subst e
        exact kk_3_8
      | 9, h =>
        have e : C_NothingDone = D := Option.some.inj h
        subst e
        exact kk_3_9
      | 10, h =>
        have e : C_UnknownName = D := Option.some.inj h
        subst e
        exact kk_3_10
      | j + 11, h => exact nomatch (show none = some D from h)
    | 4, h =>
      have e : C_Unbounded = C := Option.some.inj h
      subst e
      refine ⟨xi_Unbounded, fun j D h => ?_⟩
      match j, h with
      | 0, h =>
        have e : C_BadShape = D := Option.some.inj h
        subst e
        exact kk_4_0
      | 1, h =>
        have e : C_BadText = D := Option.some.inj h
        subst e
        exact kk_4_1
      | 2, h =>
        have e : C_TooGreat = D := Option.some.inj h
        subst e
        exact kk_4_2
      | 3, h =>
        have e : C_Bare = D := Option.some.inj h
        subst e
        exact kk_4_3
      | 4, h =>
        have e : C_Unbounded = D := Option.some.inj h
        subst e
        exact kk_4_4
      | 5, h =>
        have e : C_BadWish = D := Option.some.inj h
        subst e
        exact kk_4_5
      | 6, h =>
        have e : C_BadGust = D := Option.some.inj h
        subst e
        exact kk_4_6
      | 7, h =>
        have e : C_BadAct = D := Option.some.inj h
        subst e
        exact kk_4_7
      | 8, h =>
        have e : C_BadAsk = D := Option.some.inj h
        subst e
        exact kk_4_8
      | 9, h =>
        have e : C_NothingDone = D := Option.some.inj h
        subst e
        exact kk_4_9
      | 10, h =>
        have e : C_UnknownName = D := Option.some.inj h
        subst e
        exact kk_4_10
      | j + 11, h => exact nomatch (show none = some D from h)
    | 5, h =>
      have e : C_BadWish = C := Option.some.inj h
      subst e
      refine ⟨xi_BadWish, fun j D h => ?_⟩
      match j, h with
      | 0, h =>
        have e : C_BadShape = D := Option.some.inj h
        subst e
        exact kk_5_0
      | 1, h =>
        have e : C_BadText = D := Option.some.inj h
        subst e
        exact kk_5_1
      | 2, h =>
        have e : C_TooGreat = D := Option.some.inj h
        subst e
        exact kk_5_2
      | 3, h =>
        have e : C_Bare = D := Option.some.inj h
        subst e
        exact kk_5_3
      | 4, h =>
        have e : C_Unbounded = D := Option.some.inj h
        subst e
        exact kk_5_4
      | 5, h =>
        have e : C_BadWish = D := Option.some.inj h
        subst e
        exact kk_5_5
      | 6, h =>
        have e : C_BadGust = D := Option.some.inj h
        subst e
        exact kk_5_6
      | 7, h =>
        have e : C_BadAct = D := Option.some.inj h
        subst e
        exact kk_5_7
      | 8, h =>
        have e : C_BadAsk = D := Option.some.inj h
        subst e
        exact kk_5_8
      | 9, h =>
        have e : C_NothingDone = D := Option.some.inj h
        subst e
        exact kk_5_9
      | 10, h =>
        have e : C_UnknownName = D := Option.some.inj h
        subst e
        exact kk_5_10
      | j + 11, h => exact nomatch (show none = some D from h)
    | 6, h =>
      have e : C_BadGust = C := Option.some.inj h
      subst e
      refine ⟨xi_BadGust, fun j D h => ?_⟩
      match j, h with
      | 0, h =>
        have e : C_BadShape = D := Option.some.inj h
        subst e
        exact kk_6_0
      | 1, h =>
        have e : C_BadText = D := Option.some.inj h
        subst e
        exact kk_6_1
      | 2, h =>
        have e : C_TooGreat = D := Option.some.inj h
        subst e
        exact kk_6_2
      | 3, h =>
        have e : C_Bare = D := Option.some.inj h
        subst e
        exact kk_6_3
      | 4, h =>
        have e : C_Unbounded = D := Option.some.inj h
        subst e
        exact kk_6_4
      | 5, h =>
        have e : C_BadWish = D := Option.some.inj h
        subst e
        exact kk_6_5
      | 6, h =>
        have e : C_BadGust = D := Option.some.inj h
        subst e
        exact kk_6_6
      | 7, h =>
        have e : C_BadAct = D := Option.some.inj h
        subst e
        exact kk_6_7
      | 8, h =>
        have e : C_BadAsk = D := Option.some.inj h
        subst e
        exact kk_6_8
      | 9, h =>
        have e : C_NothingDone = D := Option.some.inj h
        subst e
        exact kk_6_9
      | 10, h =>
        have e : C_UnknownName = D := Option.some.inj h
        subst e
        exact kk_6_10
      | j + 11, h => exact nomatch (show none = some D from h)
    | 7, h =>
      have e : C_BadAct = C := Option.some.inj h
      subst e
      refine ⟨xi_BadAct, fun j D h => ?_⟩
      match j, h with
      | 0, h =>
        have e : C_BadShape = D := Option.some.inj h
        subst e
        exact kk_7_0
      | 1, h =>
        have e : C_BadText = D := Option.some.inj h
        subst e
        exact kk_7_1
      | 2, h =>
        have e : C_TooGreat = D := Option.some.inj h
        subst e
        exact kk_7_2
      | 3, h =>
        have e : C_Bare = D := Option.some.inj h
        subst e
        exact kk_7_3
      | 4, h =>
        have e : C_Unbounded = D := Option.some.inj h
        subst e
        exact kk_7_4
      | 5, h =>
        have e : C_BadWish = D := Option.some.inj h
        subst e
        exact kk_7_5
      | 6, h =>
        have e : C_BadGust = D := Option.some.inj h
        subst e
        exact kk_7_6
      | 7, h =>
        have e : C_BadAct = D := Option.some.inj h
        subst e
        exact kk_7_7
      | 8, h =>
        have e : C_BadAsk = D := Option.some.inj h
        subst e
        exact kk_7_8
      | 9, h =>
        have e : C_NothingDone = D := Option.some.inj h
        subst e
        exact kk_7_9
      | 10, h =>
        have e : C_UnknownName = D := Option.some.inj h
        subst e
        exact kk_7_10
      | j + 11, h => exact nomatch (show none = some D from h)
    | 8, h =>
      have e : C_BadAsk = C := Option.some.inj h
      subst e
      refine ⟨xi_BadAsk, fun j D h => ?_⟩
      match j, h with
      | 0, h =>
        have e : C_BadShape = D := Option.some.inj h
        subst e
        exact kk_8_0
      | 1, h =>
        have e : C_BadText = D := Option.some.inj h
        subst e
        exact kk_8_1
      | 2, h =>
        have e : C_TooGreat = D := Option.some.inj h
        subst e
        exact kk_8_2
      | 3, h =>
        have e : C_Bare = D := Option.some.inj h
        subst e
        exact kk_8_3
      | 4, h =>
        have e : C_Unbounded = D := Option.some.inj h
        subst e
        exact kk_8_4
      | 5, h =>
        have e : C_BadWish = D := Option.some.inj h
        subst e
        exact kk_8_5
      | 6, h =>
        have e : C_BadGust = D := Option.some.inj h
        subst e
        exact kk_8_6
      | 7, h =>
        have e : C_BadAct = D := Option.some.inj h
        subst e
        exact kk_8_7
      | 8, h =>
        have e : C_BadAsk = D := Option.some.inj h
        subst e
        exact kk_8_8
      | 9, h =>
        have e : C_NothingDone = D := Option.some.inj h
        subst e
        exact kk_8_9
      | 10, h =>
        have e : C_UnknownName = D := Option.some.inj h
        subst e
        exact kk_8_10
      | j + 11, h => exact nomatch (show none = some D from h)
    | 9, h =>
      have e : C_NothingDone = C := Option.some.inj h
      subst e
      refine ⟨xi_NothingDone, fun j D h => ?_⟩
      match j, h with
      | 0, h =>
        have e : C_BadShape = D := Option.some.inj h
        subst e
        exact kk_9_0
      | 1, h =>
        have e : C_BadText = D := Option.some.inj h
        subst e
        exact kk_9_1
      | 2, h =>
        have e : C_TooGreat = D := Option.some.inj h
        subst e
        exact kk_9_2
      | 3, h =>
        have e : C_Bare = D := Option.some.inj h
        subst e
        exact kk_9_3
      | 4, h =>
        have e : C_Unbounded = D := Option.some.inj h
        subst e
        exact kk_9_4
      | 5, h =>
        have e : C_BadWish = D := Option.some.inj h
        subst e
        exact kk_9_5
      | 6, h =>
        have e : C_BadGust = D := Option.some.inj h
        subst e
        exact kk_9_6
      | 7, h =>
        have e : C_BadAct = D := Option.some.inj h
        subst e
        exact kk_9_7
      | 8, h =>
        have e : C_BadAsk = D := Option.some.inj h
        subst e
        exact kk_9_8
      | 9, h =>
        have e : C_NothingDone = D := Option.some.inj h
        subst e
        exact kk_9_9
      | 10, h =>
        have e : C_UnknownName = D := Option.some.inj h
        subst e
        exact kk_9_10
      | j + 11, h => exact nomatch (show none = some D from h)
    | 10, h =>
      have e : C_UnknownName = C := Option.some.inj h
      subst e
      refine ⟨xi_UnknownName, fun j D h => ?_⟩
      match j, h with
      | 0, h =>
        have e : C_BadShape = D := Option.some.inj h
        subst e
        exact kk_10_0
      | 1, h =>
        have e : C_BadText = D := Option.some.inj h
        subst e
        exact kk_10_1
      | 2, h =>
        have e : C_TooGreat = D := Option.some.inj h
        subst e
        exact kk_10_2
      | 3, h =>
        have e : C_Bare = D := Option.some.inj h
        subst e
        exact kk_10_3
      | 4, h =>
        have e : C_Unbounded = D := Option.some.inj h
        subst e
        exact kk_10_4
      | 5, h =>
        have e : C_BadWish = D := Option.some.inj h
        subst e
        exact kk_10_5
      | 6, h =>
        have e : C_BadGust = D := Option.some.inj h
        subst e
        exact kk_10_6
      | 7, h =>
        have e : C_BadAct = D := Option.some.inj h
        subst e
        exact kk_10_7
      | 8, h =>
        have e : C_BadAsk = D := Option.some.inj h
        subst e
        exact kk_10_8
      | 9, h =>
        have e : C_NothingDone = D := Option.some.inj h
        subst e
        exact kk_10_9
      | 10, h =>
        have e : C_UnknownName = D := Option.some.inj h
        subst e
        exact kk_10_10
      | j + 11, h => exact nomatch (show none = some D from h)
    | i + 11, h => exact nomatch (show none = some C from h)
  have bf : BFact K C_GustError C_NameMissing [C_BadShape, C_BadText, C_TooGreat, C_Bare, C_Unbounded, C_BadWish, C_BadGust, C_BadAct, C_BadAsk, C_NothingDone, C_UnknownName] := by
    intro i C h
    match i, h with
    | 0, h =>
      have e : C_BadShape = C := Option.some.inj h
      subst e
      exact ⟨b1_0, b2_0, b3_0, b4_0, b5_0, b6_0⟩
    | 1, h =>
      have e : C_BadText = C := Option.some.inj h
      subst e
      exact ⟨b1_1, b2_1, b3_1, b4_1, b5_1, b6_1⟩
    | 2, h =>
      have e : C_TooGreat = C := Option.some.inj h
      subst e
      exact ⟨b1_2, b2_2, b3_2, b4_2, b5_2, b6_2⟩
    | 3, h =>
      have e : C_Bare = C := Option.some.inj h
      subst e
      exact ⟨b1_3, b2_3, b3_3, b4_3, b5_3, b6_3⟩
    | 4, h =>
      have e : C_Unbounded = C := Option.some.inj h
      subst e
      exact ⟨b1_4, b2_4, b3_4, b4_4, b5_4, b6_4⟩
    | 5, h =>
      have e : C_BadWish = C := Option.some.inj h
      subst e
      exact ⟨b1_5, b2_5, b3_5, b4_5, b5_5, b6_5⟩
    | 6, h =>
      have e : C_BadGust = C := Option.some.inj h
      subst e
      exact ⟨b1_6, b2_6, b3_6, b4_6, b5_6, b6_6⟩
    | 7, h =>
      have e : C_BadAct = C := Option.some.inj h
      subst e
      exact ⟨b1_7, b2_7, b3_7, b4_7, b5_7, b6_7⟩
    | 8, h =>
      have e : C_BadAsk = C := Option.some.inj h
      subst e
      exact ⟨b1_8, b2_8, b3_8, b4_8, b5_8, b6_8⟩
    | 9, h =>
      have e : C_NothingDone = C := Option.some.inj h
      subst e
      exact ⟨b1_9, b2_9, b3_9, b4_9, b5_9, b6_9⟩
    | 10, h =>
      have e : C_UnknownName = C := Option.some.inj h
      subst e
      exact ⟨b1_10, b2_10, b3_10, b4_10, b5_10, b6_10⟩
    | i + 11, h => exact nomatch (show none = some C from h)
  refine ⟨PySem.W.fnOf "law" "law" (defArgs st_law) (defBody st_law) (defScope st_law) .none kV_law dc_law pm_law an_law cd_law ct_law, fun s u => .of_eq rfl, fun base _ _ ND => ?_⟩
  have h_BadShape : HasI PySem.Challenge.rw_everygust_k00_errors.prog w K mg base "BadShape" C_BadShape ["self", "path"] (spP K) "ValueError.__new__" mro_ValueError := ⟨m_BadShape, T_BadShape, _, _, ok_BadShape F_BadShape T.tuple, i_BadShape, ty_BadShape, b_BadShape⟩
  have h_BadText : HasI PySem.Challenge.rw_everygust_k00_errors.prog w K mg base "BadText" C_BadText ["self", "place"] (spX K "place") "ValueError.__new__" mro_ValueError := ⟨m_BadText, T_BadText, _, _, ok_BadText F_BadText, i_BadText, ty_BadText, b_BadText⟩
  have h_BadWish : HasI PySem.Challenge.rw_everygust_k00_errors.prog w K mg base "BadWish" C_BadWish ["self", "number"] (spX K "number") "ValueError.__new__" mro_ValueError := ⟨m_BadWish, T_BadWish, _, _, ok_BadWish F_BadWish, i_BadWish, ty_BadWish, b_BadWish⟩
  have h_BadGust : HasI PySem.Challenge.rw_everygust_k00_errors.prog w K mg base "BadGust" C_BadGust ["self", "number"] (spX K "number") "ValueError.__new__" mro_ValueError := ⟨m_BadGust, T_BadGust, _, _, ok_BadGust F_BadGust, i_BadGust, ty_BadGust, b_BadGust⟩
  have h_BadAct : HasI PySem.Challenge.rw_everygust_k00_errors.prog w K mg base "BadAct" C_BadAct ["self", "word"] (spX K "word") "ValueError.__new__" mro_ValueError := ⟨m_BadAct, T_BadAct, _, _, ok_BadAct F_BadAct, i_BadAct, ty_BadAct, b_BadAct⟩
  have h_BadAsk : HasI PySem.Challenge.rw_everygust_k00_errors.prog w K mg base "BadAsk" C_BadAsk ["self", "word"] (spX K "word") "ValueError.__new__" mro_ValueError := ⟨m_BadAsk, T_BadAsk, _, _, ok_BadAsk F_BadAsk, i_BadAsk, ty_BadAsk, b_BadAsk⟩
  have h_UnknownName : HasI PySem.Challenge.rw_everygust_k00_errors.prog w K mg base "UnknownName" C_UnknownName ["self", "name"] (spX K "name") "LookupError.__new__" mro_LookupError := ⟨m_UnknownName, T_UnknownName, _, _, ok_UnknownName F_UnknownName, i_UnknownName, ty_UnknownName, b_UnknownName⟩
  have h_l_source : Has PySem.Challenge.rw_everygust_k00_errors.prog w K mg base "_law_source" 1 ["script"] (spSource K) := ⟨_, _, ok_source F_l_source T, PySem.W.mg_of X G a_l_source, k_l_source, b_l_source⟩
  have h_l_pick : Has PySem.Challenge.rw_everygust_k00_errors.prog w K mg base "_law_pick" 1 ["source", "many"] (spG mPick) := ⟨_, _, ok_pick F_l_pick T, PySem.W.mg_of X G a_l_pick, k_l_pick, b_l_pick⟩
  have h_l_of : Has PySem.Challenge.rw_everygust_k00_errors.prog w K mg base "_law_of" 2 ["source", "some"] (spG mOf) := ⟨_, _, ok_l_of F_l_of T h_l_pick, PySem.W.mg_of X G a_l_of, k_l_of, b_l_of⟩
  have h_l_every : Has PySem.Challenge.rw_everygust_k00_errors.prog w K mg base "_law_every" 3 ["path", "number", "word", "name"] (spG (mEvery [C_BadShape, C_BadText, C_TooGreat, C_Bare, C_Unbounded, C_BadWish, C_BadGust, C_BadAct, C_BadAsk, C_NothingDone, C_UnknownName])) := ⟨_, _, ok_l_every (C_GustError := C_GustError) (C_NameMissing := C_NameMissing) F_l_every T h_BadShape n_BadShape h_BadText n_BadText h_TooGreat h_Bare h_Unbounded h_BadWish n_BadWish h_BadGust n_BadGust h_BadAct n_BadAct h_BadAsk n_BadAsk h_NothingDone h_UnknownName n_UnknownName, PySem.W.mg_of X G a_l_every, k_l_every, b_l_every⟩
  have h_l_kinds : Has PySem.Challenge.rw_everygust_k00_errors.prog w K mg base "_law_kinds" 1 ["e"] (spG (mKinds [C_BadShape, C_BadText, C_TooGreat, C_Bare, C_Unbounded, C_BadWish, C_BadGust, C_BadAct, C_BadAsk, C_NothingDone, C_UnknownName])) := ⟨_, _, ok_l_kinds (C_GustError := C_GustError) (C_NameMissing := C_NameMissing) F_l_kinds T kf m_BadShape m_BadText m_TooGreat m_Bare m_Unbounded m_BadWish m_BadGust m_BadAct m_BadAsk m_NothingDone m_UnknownName, PySem.W.mg_of X G a_l_kinds, k_l_kinds, b_l_kinds⟩
  have h_l_bases : Has PySem.Challenge.rw_everygust_k00_errors.prog w K mg base "_law_bases" 1 ["e"] (spG (mBases [C_BadShape, C_BadText, C_TooGreat, C_Bare, C_Unbounded, C_BadWish, C_BadGust, C_BadAct, C_BadAsk, C_NothingDone, C_UnknownName])) := ⟨_, _, ok_l_bases F_l_bases T kf bf m_GustError m_NameMissing, PySem.W.mg_of X G a_l_bases, k_l_bases, b_l_bases⟩
  exact ok_law (C_GustError := C_GustError) (C_NameMissing := C_NameMissing) F_law T h_l_source.toG h_l_pick.toG h_l_of.toG h_l_every.toG h_l_kinds.toG h_l_bases.toG xf_BadShape n_BadShape xf_BadText n_BadText xf_BadWish n_BadWish xf_BadGust n_BadGust xf_BadAct n_BadAct xf_BadAsk n_BadAsk xf_UnknownName n_UnknownName ND
end G0
end
set_option Elab.async false
set_option linter.all false
set_option maxRecDepth 100000
set_option maxHeartbeats 0
open PySem PySem.W PyProof.Rows
theorem PySem.Challenge.cw_everygust_k00_errors_holds : PySem.Challenge.rw_everygust_k00_errors.Holds := by
  w_on; o_law; k_head; (case hw => w_witness2)
  k_fill
  refine Ev.walk_ofG (l := PySem.Challenge.rw_everygust_k00_errors) (n := 63) (k := 5) (sp := Ev.spLaw) (x := "script") rfl (by decide) rfl ⟨rfl, by decide, by decide⟩ (fun w h Y => PySem.W.kIn_of Y) ?F (fun K H a ns short z => ⟨a, ns, rfl, z, short, fun _ => rfl⟩)
  case F =>
    intro w mg fa h KX G hmg
    refine' G0.all_mk KX G hmg ?a_l_source ?l_l_source ?c_l_source ?k_l_source ?a_l_pick ?l_l_pick ?c_l_pick ?k_l_pick ?a_l_of ?l_l_of ?c_l_of ?k_l_of ?a_l_every ?l_l_every ?c_l_every ?k_l_every ?a_l_kinds ?l_l_kinds ?c_l_kinds ?k_l_kinds ?a_l_bases ?l_l_bases ?c_l_bases ?k_l_bases ?a_law ?l_law ?c_law ?k_law ?a_GustError ?a_BadShape ?a_BadText ?a_TooGreat ?a_Bare ?a_Unbounded ?a_BadWish ?a_BadGust ?a_BadAct ?a_BadAsk ?a_NothingDone ?a_UnknownName ?a_NameMissing ?x_BadShape ?ga_BadShape ?gg_BadShape ?ex_BadShape ?cl_BadShape ?ob_BadShape ?kc_BadShape ?lc_BadShape ?sa_BadShape ?n_BadShape ?hd_BadShape ?i_BadShape ?ty_BadShape ?l_BadShape ?c_BadShape ?k_BadShape ?x_BadText ?ga_BadText ?gg_BadText ?ex_BadText ?cl_BadText ?ob_BadText ?kc_BadText ?lc_BadText ?sa_BadText ?n_BadText ?hd_BadText ?i_BadText ?ty_BadText ?l_BadText ?c_BadText ?k_BadText ?x_TooGreat ?ga_TooGreat ?gg_TooGreat ?ex_TooGreat ?cl_TooGreat ?ob_TooGreat ?kc_TooGreat ?e_TooGreat ?x_Bare ?ga_Bare ?gg_Bare ?ex_Bare ?cl_Bare ?ob_Bare ?kc_Bare ?e_Bare ?x_Unbounded ?ga_Unbounded ?gg_Unbounded ?ex_Unbounded ?cl_Unbounded ?ob_Unbounded ?kc_Unbounded ?e_Unbounded ?x_BadWish ?ga_BadWish ?gg_BadWish ?ex_BadWish ?cl_BadWish ?ob_BadWish ?kc_BadWish ?lc_BadWish ?sa_BadWish ?n_BadWish ?hd_BadWish ?i_BadWish ?ty_BadWish ?l_BadWish ?c_BadWish ?k_BadWish ?x_BadGust ?ga_BadGust ?gg_BadGust ?ex_BadGust ?cl_BadGust ?ob_BadGust ?kc_BadGust ?lc_BadGust ?sa_BadGust ?n_BadGust ?hd_BadGust ?i_BadGust ?ty_BadGust ?l_BadGust ?c_BadGust ?k_BadGust ?x_BadAct ?ga_BadAct ?gg_BadAct ?ex_BadAct ?cl_BadAct ?ob_BadAct ?kc_BadAct ?lc_BadAct ?sa_BadAct ?n_BadAct ?hd_BadAct ?i_BadAct ?ty_BadAct ?l_BadAct ?c_BadAct ?k_BadAct ?x_BadAsk ?ga_BadAsk ?gg_BadAsk ?ex_BadAsk ?cl_BadAsk ?ob_BadAsk ?kc_BadAsk ?lc_BadAsk ?sa_BadAsk ?n_BadAsk ?hd_BadAsk ?i_BadAsk ?ty_BadAsk ?l_BadAsk ?c_BadAsk ?k_BadAsk ?x_NothingDone ?ga_NothingDone ?gg_NothingDone ?ex_NothingDone ?cl_NothingDone ?ob_NothingDone ?kc_NothingDone ?e_NothingDone ?x_UnknownName ?ga_UnknownName ?gg_UnknownName ?ex_UnknownName ?cl_UnknownName ?ob_UnknownName ?kc_UnknownName ?lc_UnknownName ?sa_UnknownName ?n_UnknownName ?hd_UnknownName ?i_UnknownName ?ty_UnknownName ?l_UnknownName ?c_UnknownName ?k_UnknownName ?o_get ?o_tk ?kk_0_0 ?kk_0_1 ?kk_0_2 ?kk_0_3 ?kk_0_4 ?kk_0_5 ?kk_0_6 ?kk_0_7 ?kk_0_8 ?kk_0_9 ?kk_0_10 ?b1_0 ?b2_0 ?b3_0 ?b4_0 ?b5_0 ?b6_0 ?kk_1_0 ?kk_1_1 ?kk_1_2 ?kk_1_3 ?kk_1_4 ?kk_1_5 ?kk_1_6 ?kk_1_7 ?kk_1_8 ?kk_1_9 ?kk_1_10 ?b1_1 ?b2_1 ?b3_1 ?b4_1 ?b5_1 ?b6_1 ?kk_2_0 ?kk_2_1 ?kk_2_2 ?kk_2_3 ?kk_2_4 ?kk_2_5 ?kk_2_6 ?kk_2_7 ?kk_2_8 ?kk_2_9 ?kk_2_10 ?b1_2 ?b2_2 ?b3_2 ?b4_2 ?b5_2 ?b6_2 ?kk_3_0 ?kk_3_1 ?kk_3_2 ?kk_3_3 ?kk_3_4 ?kk_3_5 ?kk_3_6 ?kk_3_7 ?kk_3_8 ?kk_3_9 ?kk_3_10 ?b1_3 ?b2_3 ?b3_3 ?b4_3 ?b5_3 ?b6_3 ?kk_4_0 ?kk_4_1 ?kk_4_2 ?kk_4_3 ?kk_4_4 ?kk_4_5 ?kk_4_6 ?kk_4_7 ?kk_4_8 ?kk_4_9 ?kk_4_10 ?b1_4 ?b2_4 ?b3_4 ?b4_4 ?b5_4 ?b6_4 ?kk_5_0 ?kk_5_1 ?kk_5_2 ?kk_5_3 ?kk_5_4 ?kk_5_5 ?kk_5_6 ?kk_5_7 ?kk_5_8 ?kk_5_9 ?kk_5_10 ?b1_5 ?b2_5 ?b3_5 ?b4_5 ?b5_5 ?b6_5 ?kk_6_0 ?kk_6_1 ?kk_6_2 ?kk_6_3 ?kk_6_4 ?kk_6_5 ?kk_6_6 ?kk_6_7 ?kk_6_8 ?kk_6_9 ?kk_6_10 ?b1_6 ?b2_6 ?b3_6 ?b4_6 ?b5_6 ?b6_6 ?kk_7_0 ?kk_7_1 ?kk_7_2 ?kk_7_3 ?kk_7_4 ?kk_7_5 ?kk_7_6 ?kk_7_7 ?kk_7_8 ?kk_7_9 ?kk_7_10 ?b1_7 ?b2_7 ?b3_7 ?b4_7 ?b5_7 ?b6_7 ?kk_8_0 ?kk_8_1 ?kk_8_2 ?kk_8_3 ?kk_8_4 ?kk_8_5 ?kk_8_6 ?kk_8_7 ?kk_8_8 ?kk_8_9 ?kk_8_10 ?b1_8 ?b2_8 ?b3_8 ?b4_8 ?b5_8 ?b6_8 ?kk_9_0 ?kk_9_1 ?kk_9_2 ?kk_9_3 ?kk_9_4 ?kk_9_5 ?kk_9_6 ?kk_9_7 ?kk_9_8 ?kk_9_9 ?kk_9_10 ?b1_9 ?b2_9 ?b3_9 ?b4_9 ?b5_9 ?b6_9 ?kk_10_0 ?kk_10_1 ?kk_10_2 ?kk_10_3 ?kk_10_4 ?kk_10_5 ?kk_10_6 ?kk_10_7 ?kk_10_8 ?kk_10_9 ?kk_10_10 ?b1_10 ?b2_10 ?b3_10 ?b4_10 ?b5_10 ?b6_10 ?z_ArithmeticError ?z_AttributeError ?z_IndexError ?z_KeyError ?z_LookupError ?z_RuntimeError ?z_TypeError ?z_ValueError ?z_abs ?z_int ?z_isinstance ?z_len ?z_list ?z_max ?z_range ?z_repr ?z_tuple
    (case a_l_source => k_is); (case l_l_source => k_is); (case c_l_source => k_is); (case k_l_source => k_is)
    (case a_l_pick => k_is); (case l_l_pick => k_is); (case c_l_pick => k_is); (case k_l_pick => k_is)
    (case a_l_of => k_is); (case l_l_of => k_is); (case c_l_of => k_is); (case k_l_of => k_is)
    (case a_l_every => k_is); (case l_l_every => k_is); (case c_l_every => k_is); (case k_l_every => k_is)
    (case a_l_kinds => k_is); (case l_l_kinds => k_is); (case c_l_kinds => k_is); (case k_l_kinds => k_is)
    (case a_l_bases => k_is); (case l_l_bases => k_is); (case c_l_bases => k_is); (case k_l_bases => k_is)
    (case a_law => k_is); (case l_law => k_is); (case c_law => k_is); (case k_law => k_is)
    (case a_GustError => k_is); (case a_BadShape => k_is); (case a_BadText => k_is); (case a_TooGreat => k_is)
    (case a_Bare => k_is); (case a_Unbounded => k_is); (case a_BadWish => k_is); (case a_BadGust => k_is)
    (case a_BadAct => k_is); (case a_BadAsk => k_is); (case a_NothingDone => k_is); (case a_UnknownName => k_is)
    (case a_NameMissing => k_is); (case x_BadShape => k_is); (case ga_BadShape => k_is); (case gg_BadShape => k_is)
    (case ex_BadShape => k_is); (case cl_BadShape => k_is); (case ob_BadShape => k_is); (case kc_BadShape => k_is)
    (case lc_BadShape => k_is); (case sa_BadShape => k_is); (case n_BadShape => k_is); (case hd_BadShape => k_is)
    (case i_BadShape => k_is); (case ty_BadShape => k_is); (case l_BadShape => k_is); (case c_BadShape => k_is)
    (case k_BadShape => k_is); (case x_BadText => k_is); (case ga_BadText => k_is); (case gg_BadText => k_is)
    (case ex_BadText => k_is); (case cl_BadText => k_is); (case ob_BadText => k_is); (case kc_BadText => k_is)
    (case lc_BadText => k_is); (case sa_BadText => k_is); (case n_BadText => k_is); (case hd_BadText => k_is)
    (case i_BadText => k_is); (case ty_BadText => k_is); (case l_BadText => k_is); (case c_BadText => k_is)
    (case k_BadText => k_is); (case x_TooGreat => k_is); (case ga_TooGreat => k_is); (case gg_TooGreat => k_is)
    (case ex_TooGreat => k_is); (case cl_TooGreat => k_is); (case ob_TooGreat => k_is); (case kc_TooGreat => k_is)
    (case e_TooGreat => k_exc); (case x_Bare => k_is); (case ga_Bare => k_is); (case gg_Bare => k_is)
    (case ex_Bare => k_is); (case cl_Bare => k_is); (case ob_Bare => k_is); (case kc_Bare => k_is)
    (case e_Bare => k_exc); (case x_Unbounded => k_is); (case ga_Unbounded => k_is); (case gg_Unbounded => k_is)
    (case ex_Unbounded => k_is); (case cl_Unbounded => k_is); (case ob_Unbounded => k_is); (case kc_Unbounded => k_is)
    (case e_Unbounded => k_exc); (case x_BadWish => k_is); (case ga_BadWish => k_is); (case gg_BadWish => k_is)
    (case ex_BadWish => k_is); (case cl_BadWish => k_is); (case ob_BadWish => k_is); (case kc_BadWish => k_is)
    (case lc_BadWish => k_is); (case sa_BadWish => k_is); (case n_BadWish => k_is); (case hd_BadWish => k_is)
    (case i_BadWish => k_is); (case ty_BadWish => k_is); (case l_BadWish => k_is); (case c_BadWish => k_is)
    (case k_BadWish => k_is); (case x_BadGust => k_is); (case ga_BadGust => k_is); (case gg_BadGust => k_is)
    (case ex_BadGust => k_is); (case cl_BadGust => k_is); (case ob_BadGust => k_is); (case kc_BadGust => k_is)
    (case lc_BadGust => k_is); (case sa_BadGust => k_is); (case n_BadGust => k_is); (case hd_BadGust => k_is)
    (case i_BadGust => k_is); (case ty_BadGust => k_is); (case l_BadGust => k_is); (case c_BadGust => k_is)
    (case k_BadGust => k_is); (case x_BadAct => k_is); (case ga_BadAct => k_is); (case gg_BadAct => k_is)
    (case ex_BadAct => k_is); (case cl_BadAct => k_is); (case ob_BadAct => k_is); (case kc_BadAct => k_is)
    (case lc_BadAct => k_is); (case sa_BadAct => k_is); (case n_BadAct => k_is); (case hd_BadAct => k_is)
    (case i_BadAct => k_is); (case ty_BadAct => k_is); (case l_BadAct => k_is); (case c_BadAct => k_is)
    (case k_BadAct => k_is); (case x_BadAsk => k_is); (case ga_BadAsk => k_is); (case gg_BadAsk => k_is)
    (case ex_BadAsk => k_is); (case cl_BadAsk => k_is); (case ob_BadAsk => k_is); (case kc_BadAsk => k_is)
    (case lc_BadAsk => k_is); (case sa_BadAsk => k_is); (case n_BadAsk => k_is); (case hd_BadAsk => k_is)
    (case i_BadAsk => k_is); (case ty_BadAsk => k_is); (case l_BadAsk => k_is); (case c_BadAsk => k_is)
    (case k_BadAsk => k_is); (case x_NothingDone => k_is); (case ga_NothingDone => k_is); (case gg_NothingDone => k_is)
    (case ex_NothingDone => k_is); (case cl_NothingDone => k_is); (case ob_NothingDone => k_is); (case kc_NothingDone => k_is)
    (case e_NothingDone => k_exc); (case x_UnknownName => k_is); (case ga_UnknownName => k_is); (case gg_UnknownName => k_is)
    (case ex_UnknownName => k_is); (case cl_UnknownName => k_is); (case ob_UnknownName => k_is); (case kc_UnknownName => k_is)
    (case lc_UnknownName => k_is); (case sa_UnknownName => k_is); (case n_UnknownName => k_is); (case hd_UnknownName => k_is)
    (case i_UnknownName => k_is); (case ty_UnknownName => k_is); (case l_UnknownName => k_is); (case c_UnknownName => k_is)
    (case k_UnknownName => k_is); (case o_get => k_is); (case o_tk => k_is); (case kk_0_0 => kit_is)
    (case kk_0_1 => kit_is); (case kk_0_2 => kit_is); (case kk_0_3 => kit_is); (case kk_0_4 => kit_is)
    (case kk_0_5 => kit_is); (case kk_0_6 => kit_is); (case kk_0_7 => kit_is); (case kk_0_8 => kit_is)
    (case kk_0_9 => kit_is); (case kk_0_10 => kit_is); (case b1_0 => kit_is); (case b2_0 => kit_is)
    (case b3_0 => kit_is); (case b4_0 => kit_is); (case b5_0 => kit_is); (case b6_0 => kit_is)
    (case kk_1_0 => kit_is); (case kk_1_1 => kit_is); (case kk_1_2 => kit_is); (case kk_1_3 => kit_is)
    (case kk_1_4 => kit_is); (case kk_1_5 => kit_is); (case kk_1_6 => kit_is); (case kk_1_7 => kit_is)
    (case kk_1_8 => kit_is); (case kk_1_9 => kit_is); (case kk_1_10 => kit_is); (case b1_1 => kit_is)
    (case b2_1 => kit_is); (case b3_1 => kit_is); (case b4_1 => kit_is); (case b5_1 => kit_is)
    (case b6_1 => kit_is); (case kk_2_0 => kit_is); (case kk_2_1 => kit_is); (case kk_2_2 => kit_is)
    (case kk_2_3 => kit_is); (case kk_2_4 => kit_is); (case kk_2_5 => kit_is); (case kk_2_6 => kit_is)
    (case kk_2_7 => kit_is); (case kk_2_8 => kit_is); (case kk_2_9 => kit_is); (case kk_2_10 => kit_is)
    (case b1_2 => kit_is); (case b2_2 => kit_is); (case b3_2 => kit_is); (case b4_2 => kit_is)
    (case b5_2 => kit_is); (case b6_2 => kit_is); (case kk_3_0 => kit_is); (case kk_3_1 => kit_is)
    (case kk_3_2 => kit_is); (case kk_3_3 => kit_is); (case kk_3_4 => kit_is); (case kk_3_5 => kit_is)
    (case kk_3_6 => kit_is); (case kk_3_7 => kit_is); (case kk_3_8 => kit_is); (case kk_3_9 => kit_is)
    (case kk_3_10 => kit_is); (case b1_3 => kit_is); (case b2_3 => kit_is); (case b3_3 => kit_is)
    (case b4_3 => kit_is); (case b5_3 => kit_is); (case b6_3 => kit_is); (case kk_4_0 => kit_is)
    (case kk_4_1 => kit_is); (case kk_4_2 => kit_is); (case kk_4_3 => kit_is); (case kk_4_4 => kit_is)
    (case kk_4_5 => kit_is); (case kk_4_6 => kit_is); (case kk_4_7 => kit_is); (case kk_4_8 => kit_is)
    (case kk_4_9 => kit_is); (case kk_4_10 => kit_is); (case b1_4 => kit_is); (case b2_4 => kit_is)
    (case b3_4 => kit_is); (case b4_4 => kit_is); (case b5_4 => kit_is); (case b6_4 => kit_is)
    (case kk_5_0 => kit_is); (case kk_5_1 => kit_is); (case kk_5_2 => kit_is); (case kk_5_3 => kit_is)
    (case kk_5_4 => kit_is); (case kk_5_5 => kit_is); (case kk_5_6 => kit_is); (case kk_5_7 => kit_is)
    (case kk_5_8 => kit_is); (case kk_5_9 => kit_is); (case kk_5_10 => kit_is); (case b1_5 => kit_is)
    (case b2_5 => kit_is); (case b3_5 => kit_is); (case b4_5 => kit_is); (case b5_5 => kit_is)
    (case b6_5 => kit_is); (case kk_6_0 => kit_is); (case kk_6_1 => kit_is); (case kk_6_2 => kit_is)
    (case kk_6_3 => kit_is); (case kk_6_4 => kit_is); (case kk_6_5 => kit_is); (case kk_6_6 => kit_is)
    (case kk_6_7 => kit_is); (case kk_6_8 => kit_is); (case kk_6_9 => kit_is); (case kk_6_10 => kit_is)
    (case b1_6 => kit_is); (case b2_6 => kit_is); (case b3_6 => kit_is); (case b4_6 => kit_is)
    (case b5_6 => kit_is); (case b6_6 => kit_is); (case kk_7_0 => kit_is); (case kk_7_1 => kit_is)
    (case kk_7_2 => kit_is); (case kk_7_3 => kit_is); (case kk_7_4 => kit_is); (case kk_7_5 => kit_is)
    (case kk_7_6 => kit_is); (case kk_7_7 => kit_is); (case kk_7_8 => kit_is); (case kk_7_9 => kit_is)
    (case kk_7_10 => kit_is); (case b1_7 => kit_is); (case b2_7 => kit_is); (case b3_7 => kit_is)
    (case b4_7 => kit_is); (case b5_7 => kit_is); (case b6_7 => kit_is); (case kk_8_0 => kit_is)
    (case kk_8_1 => kit_is); (case kk_8_2 => kit_is); (case kk_8_3 => kit_is); (case kk_8_4 => kit_is)
    (case kk_8_5 => kit_is); (case kk_8_6 => kit_is); (case kk_8_7 => kit_is); (case kk_8_8 => kit_is)
    (case kk_8_9 => kit_is); (case kk_8_10 => kit_is); (case b1_8 => kit_is); (case b2_8 => kit_is)
    (case b3_8 => kit_is); (case b4_8 => kit_is); (case b5_8 => kit_is); (case b6_8 => kit_is)
    (case kk_9_0 => kit_is); (case kk_9_1 => kit_is); (case kk_9_2 => kit_is); (case kk_9_3 => kit_is)
    (case kk_9_4 => kit_is); (case kk_9_5 => kit_is); (case kk_9_6 => kit_is); (case kk_9_7 => kit_is)
    (case kk_9_8 => kit_is); (case kk_9_9 => kit_is); (case kk_9_10 => kit_is); (case b1_9 => kit_is)
    (case b2_9 => kit_is); (case b3_9 => kit_is); (case b4_9 => kit_is); (case b5_9 => kit_is)
    (case b6_9 => kit_is); (case kk_10_0 => kit_is); (case kk_10_1 => kit_is); (case kk_10_2 => kit_is)
    (case kk_10_3 => kit_is); (case kk_10_4 => kit_is); (case kk_10_5 => kit_is); (case kk_10_6 => kit_is)
    (case kk_10_7 => kit_is); (case kk_10_8 => kit_is); (case kk_10_9 => kit_is); (case kk_10_10 => kit_is)
    (case b1_10 => kit_is); (case b2_10 => kit_is); (case b3_10 => kit_is); (case b4_10 => kit_is)
    (case b5_10 => kit_is); (case b6_10 => kit_is); (case z_ArithmeticError => k_is); (case z_AttributeError => k_is)
    (case z_IndexError => k_is); (case z_KeyError => k_is); (case z_LookupError => k_is); (case z_RuntimeError => k_is)
    (case z_TypeError => k_is); (case z_ValueError => k_is); (case z_abs => k_is); (case z_int => k_is)
    (case z_isinstance => k_is); (case z_len => k_is); (case z_list => k_is); (case z_max => k_is)
    (case z_range => k_is); (case z_repr => k_is); (case z_tuple => k_is)
