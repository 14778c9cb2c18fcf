import PyProof.Rows.All
import Wide.All
import OpenK.AllK
import Wide.FinOn
import HandS.ForMost
import HandS.Walk
import HandS.Wide
import HandS.Gcd
import HandS.Zip
import HandS.IsInst
import PyProof.ReprRoads
import PyProof.Rows.NestShow
import HandS.TupMul
import HandS.TupAny
import PySem.Challenge.RW_everygust_k01_fractions
import HandS.Style
section
set_option Elab.async false
set_option linter.all false
set_option maxRecDepth 100000
/-! A layer of one's own: the readings of the hand layer, told over data alone. A frame tells which addresses may change (W) and what is kept of them (J); values are read as data (Dq) that never hangs on those addresses. -/
namespace Dl
open PySem L2

/-! ### frames -/
structure Fr where
  W : Addr → Prop
  J : Hp → Prop
  loc : ∀ H H', (∀ a, W a → H' a = H a) → J H → J H'
  dom : ∀ H a, J H → W a → H a ≠ none
abbrev Lk := Addr → Option HO
def Fr.lock (B : Fr) (O : Lk) : Fr where
  W := fun a => B.W a ∨ O a ≠ none
  J := fun H => B.J H ∧ ∀ a o, O a = some o → ¬ B.W a ∧ H a = some o
  loc := fun H H' e j => ⟨B.loc H H' (fun a w => e a (.inl w)) j.1, fun a o h => ⟨(j.2 a o h).1, by
    rw [e a (.inr (by rw [h]; exact nofun))]
    exact (j.2 a o h).2⟩⟩
  dom := fun H a j w => by
    rcases w with w | w
    · exact B.dom H a j.1 w
    · cases e : O a with
      | none => exact absurd e w
      | some o =>
        rw [(j.2 a o e).2]
        exact nofun
def Gro (F : Fr) (H H' : Hp) : Prop := (∀ a o, ¬ F.W a → H a = some o → H' a = some o) ∧ F.J H'
theorem Gro.refl {F : Fr} {H : Hp} (j : F.J H) : Gro F H H := ⟨fun _ _ _ e => e, j⟩
theorem Gro.trans {F : Fr} {H H1 H2 : Hp} (a : Gro F H H1) (b : Gro F H1 H2) : Gro F H H2 := ⟨fun x o w e => b.1 x o w (a.1 x o w e), b.2⟩
theorem Fr.fresh {F : Fr} {H : Hp} {p : Addr} (j : F.J H) (hp : H p = none) : ¬ F.W p := fun w => F.dom H p j w hp
theorem Gro.new {F : Fr} {H : Hp} {p : Addr} {o : HO} (j : F.J H) (hp : H p = none) : Gro F H (upd H p o) :=
  ⟨fun a u _ e => by rw [upd_ne (ne_of_none e hp)]; exact e, F.loc H _ (fun a w => upd_ne (fun z => Fr.fresh j hp (z ▸ w))) j⟩

/-! ### data -/
mutual
inductive Dq (W : Addr → Prop) (H : Hp) : V → PyData → Prop
  | non : Dq W H .non .none
  | bl (b : Bool) : Dq W H (.bl b) (.bool b)
  | int (i : Int) : Dq W H (.int i) (.int i)
  | str (x : Str) : Dq W H (.str x) (.str x)
  | lst {a : Addr} {xs : List V} {ds : List PyData} : ¬ W a → H a = some (.lst xs) → DqA W H xs ds → Dq W H (.ref a) (.list ds)
  | tup {a : Addr} {xs : List V} {ds : List PyData} : ¬ W a → H a = some (.tup xs) → DqA W H xs ds → Dq W H (.ref a) (.tuple ds)
inductive DqA (W : Addr → Prop) (H : Hp) : List V → List PyData → Prop
  | nil : DqA W H [] []
  | cons {v : V} {vs : List V} {d : PyData} {ds : List PyData} : Dq W H v d → DqA W H vs ds → DqA W H (v :: vs) (d :: ds)
end
section
variable {W W' : Addr → Prop} {H H' : Hp}
mutual
theorem Dq.to (k : ∀ a o, ¬ W a → H a = some o → ¬ W' a ∧ H' a = some o) : ∀ (d : PyData) (v : V), Dq W H v d → Dq W' H' v d
  | .none, _, h => by cases h; exact .non
  | .bool b, _, h => by cases h; exact .bl b
  | .int i, _, h => by cases h; exact .int i
  | .str x, _, h => by cases h; exact .str x
  | .list ds, _, h => by
    cases h with
    | lst w e r => exact .lst (k _ _ w e).1 (k _ _ w e).2 (DqA.to k ds _ r)
  | .tuple ds, _, h => by
    cases h with
    | tup w e r => exact .tup (k _ _ w e).1 (k _ _ w e).2 (DqA.to k ds _ r)
  | .dict _, _, h => by cases h
theorem DqA.to (k : ∀ a o, ¬ W a → H a = some o → ¬ W' a ∧ H' a = some o) : ∀ (ds : List PyData) (vs : List V), DqA W H vs ds → DqA W' H' vs ds
  | [], _, h => by cases h; exact .nil
  | d :: ds, _, h => by
    cases h with
    | cons h1 h2 => exact .cons (Dq.to k d _ h1) (DqA.to k ds _ h2)
end
mutual
theorem Dq.dp (K : PySem.W.Frag) : ∀ (d : PyData) (v : V), Dq W H v d → Dp K H v d
  | .none, _, h => by cases h; exact .non
  | .bool b, _, h => by cases h; exact .bl b
  | .int i, _, h => by cases h; exact .int i
  | .str x, _, h => by cases h; exact .str x
  | .list ds, _, h => by
    cases h with
    | lst w e r => exact .lst (SqL.of e) (DqA.dp K ds _ r)
  | .tuple ds, _, h => by
    cases h with
    | tup w e r => exact .tup (SqT.of e) (DqA.dp K ds _ r)
  | .dict _, _, h => by cases h
theorem DqA.dp (K : PySem.W.Frag) : ∀ (ds : List PyData) (vs : List V), DqA W H vs ds → DpAll K H vs ds
  | [], _, h => by cases h; exact .nil
  | d :: ds, _, h => by
    cases h with
    | cons h1 h2 => exact .cons (Dq.dp K d _ h1) (DqA.dp K ds _ h2)
end
theorem Dq.gro {F : Fr} {v : V} {d : PyData} (h : Dq F.W H v d) (g : Gro F H H') : Dq F.W H' v d := Dq.to (fun a o w e => ⟨w, g.1 a o w e⟩) d v h
theorem DqA.gro {F : Fr} {vs : List V} {ds : List PyData} (h : DqA F.W H vs ds) (g : Gro F H H') : DqA F.W H' vs ds := DqA.to (fun a o w e => ⟨w, g.1 a o w e⟩) ds vs h
theorem DqA.len {vs : List V} {ds : List PyData} (h : DqA W H vs ds) : vs.length = ds.length := by
  induction ds generalizing vs with
  | nil => cases h; rfl
  | cons d ds ih =>
    cases h with
    | cons _ h2 => rw [List.length_cons, List.length_cons, ih h2]
theorem DqA.get {vs : List V} {ds : List PyData} (h : DqA W H vs ds) {i : Nat} {d : PyData} (e : ds[i]? = some d) : ∃ v, vs[i]? = some v ∧ Dq W H v d := by
  induction ds generalizing vs i with
  | nil => simp at e
  | cons c cs ih =>
    cases h with
    | cons h1 h2 =>
      cases i with
      | zero => simp at e; subst e; exact ⟨_, rfl, h1⟩
      | succ i =>
        obtain ⟨v, e1, e2⟩ := ih h2 (by simpa using e)
        exact ⟨v, by simpa using e1, e2⟩
theorem DqA.getV {vs : List V} {ds : List PyData} (h : DqA W H vs ds) {i : Nat} {v : V} (e : vs[i]? = some v) : ∃ d, ds[i]? = some d ∧ Dq W H v d := by
  have hl := h.len
  have hi : i < vs.length := (List.getElem?_eq_some_iff.mp e).1
  have e2 : ds[i]? = some ds[i] := List.getElem?_eq_getElem (by omega)
  obtain ⟨v', e3, q⟩ := h.get e2
  rw [e] at e3
  cases e3
  exact ⟨_, e2, q⟩
theorem DqA.append {vs us : List V} {ds es : List PyData} (h : DqA W H vs ds) (g : DqA W H us es) : DqA W H (vs ++ us) (ds ++ es) := by
  induction ds generalizing vs with
  | nil => cases h; exact g
  | cons c cs ih =>
    cases h with
    | cons h1 h2 => exact .cons h1 (ih h2)
theorem DqA.take {vs : List V} {ds : List PyData} (n : Nat) (h : DqA W H vs ds) : DqA W H (vs.take n) (ds.take n) := by
  induction ds generalizing vs n with
  | nil => cases h; simp; exact .nil
  | cons c cs ih =>
    cases h with
    | cons h1 h2 =>
      cases n with
      | zero => exact .nil
      | succ n => exact .cons h1 (ih n h2)
theorem DqA.drop {vs : List V} {ds : List PyData} (n : Nat) (h : DqA W H vs ds) : DqA W H (vs.drop n) (ds.drop n) := by
  induction ds generalizing vs n with
  | nil => cases h; simp; exact .nil
  | cons c cs ih =>
    cases h with
    | cons h1 h2 =>
      cases n with
      | zero => exact .cons h1 h2
      | succ n => exact ih n h2
theorem DqA.eraseIdx {vs : List V} {ds : List PyData} (n : Nat) (h : DqA W H vs ds) : DqA W H (vs.eraseIdx n) (ds.eraseIdx n) := by
  induction ds generalizing vs n with
  | nil => cases h; simp; exact .nil
  | cons c cs ih =>
    cases h with
    | cons h1 h2 =>
      cases n with
      | zero => exact h2
      | succ n => exact .cons h1 (ih n h2)
theorem DqA.ints {ns : List Int} : ∀ {vs : List V}, DqA W H vs (ns.map PyData.int) → vs = ns.map V.int := by
  induction ns with
  | nil => intro vs h; cases h; rfl
  | cons n ns ih =>
    intro vs h
    cases h with
    | cons h1 h2 => cases h1; rw [ih h2]; rfl
theorem DqA.bools {ns : List Bool} : ∀ {vs : List V}, DqA W H vs (ns.map PyData.bool) → vs = ns.map V.bl := by
  induction ns with
  | nil => intro vs h; cases h; rfl
  | cons n ns ih =>
    intro vs h
    cases h with
    | cons h1 h2 => cases h1; rw [ih h2]; rfl
theorem DqA.ofInts : ∀ (ns : List Int), DqA W H (ns.map V.int) (ns.map PyData.int)
  | [] => .nil
  | n :: ns => .cons (.int n) (DqA.ofInts ns)
end

/-! ### a def's names as data -/
inductive Ent where
  | non
  | dat (d : PyData)
  | raw (v : V)
  | own (a : Addr) (ds : List PyData)
def owned : List Ent → List Addr
  | [] => []
  | .own a _ :: r => a :: owned r
  | .non :: r => owned r
  | .dat _ :: r => owned r
  | .raw _ :: r => owned r
def SlotOk (W : Addr → Prop) (O : Lk) (H : Hp) (s : Option V) : Ent → Prop
  | .non => True
  | .dat d => ∃ v, s = some v ∧ Dq W H v d
  | .raw v => s = some v
  | .own a ds => s = some (.ref a) ∧ ∃ vs, O a = some (.lst vs) ∧ DqA W H vs ds
def Slots (W : Addr → Prop) (O : Lk) (H : Hp) : L2.St → List Ent → Prop
  | [], [] => True
  | s :: σ, e :: env => SlotOk W O H s e ∧ Slots W O H σ env
  | _, _ => False
section
variable {W W' : Addr → Prop} {O O' : Lk} {H H' : Hp}
theorem SlotOk.to (k : ∀ a o, ¬ W a → H a = some o → ¬ W' a ∧ H' a = some o) {s : Option V} {e : Ent} (hO : ∀ a ds, e = .own a ds → O' a = O a) (h : SlotOk W O H s e) : SlotOk W' O' H' s e := by
  cases e with
  | non => trivial
  | dat d => obtain ⟨v, e1, q⟩ := h; exact ⟨v, e1, q.to k⟩
  | raw v => exact h
  | own a ds => obtain ⟨e1, vs, e2, q⟩ := h; exact ⟨e1, vs, (hO a ds rfl).trans e2, q.to k⟩
theorem Slots.to (k : ∀ a o, ¬ W a → H a = some o → ¬ W' a ∧ H' a = some o) : ∀ {σ : L2.St} {env : List Ent}, (∀ a, a ∈ owned env → O' a = O a) → Slots W O H σ env → Slots W' O' H' σ env
  | [], [], _, _ => trivial
  | s :: σ, e :: env, hO, h => ⟨h.1.to k (fun a ds z => hO a (by subst z; exact List.mem_cons_self)), Slots.to k (fun a z => hO a (by cases e <;> first | exact z | exact List.mem_cons_of_mem _ z)) h.2⟩
  | [], _ :: _, _, h => h.elim
  | _ :: _, [], _, h => h.elim
theorem Slots.get : ∀ {σ : L2.St} {env : List Ent} {i : Nat} {e : Ent}, Slots W O H σ env → env[i]? = some e → ∃ s, σ[i]? = some s ∧ SlotOk W O H s e
  | [], [], _, _, _, z => by simp at z
  | s :: σ, c :: env, 0, e, h, z => by simp at z; subst z; exact ⟨s, rfl, h.1⟩
  | s :: σ, c :: env, i + 1, e, h, z => by
    obtain ⟨s', e1, q⟩ := Slots.get (i := i) (e := e) h.2 (by simpa using z)
    exact ⟨s', by simpa using e1, q⟩
  | [], _ :: _, _, _, h, _ => h.elim
  | _ :: _, [], _, _, h, _ => h.elim
theorem Slots.set : ∀ {σ : L2.St} {env : List Ent} (i : Nat) {s : Option V} {e : Ent}, Slots W O H σ env → SlotOk W O H s e → Slots W O H (σ.set i s) (env.set i e)
  | [], [], _, _, _, h, _ => h
  | c :: σ, b :: env, 0, s, e, h, z => ⟨z, h.2⟩
  | c :: σ, b :: env, i + 1, s, e, h, z => ⟨h.1, Slots.set i h.2 z⟩
  | [], _ :: _, _, _, _, h, _ => h.elim
  | _ :: _, [], _, _, _, h, _ => h.elim
end
theorem owned_get : ∀ {env : List Ent} {i : Nat} {a : Addr} {ds : List PyData}, env[i]? = some (.own a ds) → a ∈ owned env
  | c :: env, 0, a, ds, e => by simp at e; subst e; exact List.mem_cons_self
  | c :: env, i + 1, a, ds, e => by
    have q := owned_get (env := env) (i := i) (a := a) (ds := ds) (by simpa using e)
    cases c <;> first | exact q | exact List.mem_cons_of_mem _ q
  | [], _, _, _, e => by simp at e
/-- a slot that holds no list of one's own is stored -/
theorem owned_set_sub : ∀ {env : List Ent} (i : Nat) {e : Ent}, (∀ a ds, e ≠ .own a ds) → ∀ a, a ∈ owned (env.set i e) → a ∈ owned env
  | [], _, _, _, a, h => h
  | c :: env, 0, e, he, a, h => by
    have h' : a ∈ owned env := by
      cases e with
      | own b ds => exact absurd rfl (he b ds)
      | non => exact h
      | dat d => exact h
      | raw v => exact h
    cases c <;> first | exact h' | exact List.mem_cons_of_mem _ h'
  | c :: env, i + 1, e, he, a, h => by
    cases c with
    | own b ds =>
      rcases List.mem_cons.mp (show a ∈ b :: owned (env.set i e) from h) with z | z
      · exact z ▸ List.mem_cons_self
      · exact List.mem_cons_of_mem _ (owned_set_sub i he a z)
    | non => exact owned_set_sub (env := env) i he a h
    | dat d => exact owned_set_sub (env := env) i he a h
    | raw v => exact owned_set_sub (env := env) i he a h
theorem owned_set_nd : ∀ {env : List Ent} (i : Nat) {e : Ent}, (∀ a ds, e ≠ .own a ds) → (owned env).Nodup → (owned (env.set i e)).Nodup
  | [], _, _, _, h => h
  | c :: env, 0, e, he, h => by
    have h' : (owned env).Nodup := by cases c <;> first | exact h | exact (List.nodup_cons.mp h).2
    cases e with
    | own b ds => exact absurd rfl (he b ds)
    | non => exact h'
    | dat d => exact h'
    | raw v => exact h'
  | c :: env, i + 1, e, he, h => by
    cases c with
    | own b ds =>
      have q := List.nodup_cons.mp (show (b :: owned env).Nodup from h)
      exact List.nodup_cons.mpr ⟨fun z => q.1 (owned_set_sub i he b z), owned_set_nd i he q.2⟩
    | non => exact owned_set_nd (env := env) i he h
    | dat d => exact owned_set_nd (env := env) i he h
    | raw v => exact owned_set_nd (env := env) i he h
/-- .. a list of one's own, new or in the place of itself -/
theorem owned_set_own : ∀ {env : List Ent} (i : Nat) {b : Addr} {ds : List PyData} (a : Addr), a ∈ owned (env.set i (.own b ds)) → a = b ∨ a ∈ owned env
  | [], _, _, _, a, h => .inr h
  | c :: env, 0, b, ds, a, h => by
    rcases List.mem_cons.mp (show a ∈ b :: owned env from h) with z | z
    · exact .inl z
    · right
      cases c <;> first | exact z | exact List.mem_cons_of_mem _ z
  | c :: env, i + 1, b, ds, a, h => by
    cases c with
    | own b' ds' =>
      rcases List.mem_cons.mp (show a ∈ b' :: owned (env.set i (.own b ds)) from h) with z | z
      · exact .inr (z ▸ List.mem_cons_self)
      · rcases owned_set_own i a z with q | q
        · exact .inl q
        · exact .inr (List.mem_cons_of_mem _ q)
    | non => exact owned_set_own (env := env) i a h
    | dat d => exact owned_set_own (env := env) i a h
    | raw v => exact owned_set_own (env := env) i a h
theorem owned_set_own_nd : ∀ {env : List Ent} (i : Nat) {b : Addr} {ds : List PyData}, (b ∉ owned env ∨ ∃ es, env[i]? = some (.own b es)) → (owned env).Nodup → (owned (env.set i (.own b ds))).Nodup
  | [], _, _, _, _, h => h
  | c :: env, 0, b, ds, hb, h => by
    have h' : (owned env).Nodup := by cases c <;> first | exact h | exact (List.nodup_cons.mp h).2
    refine List.nodup_cons.mpr ⟨?_, h'⟩
    rcases hb with hb | ⟨es, hb⟩
    · intro z
      apply hb
      cases c <;> first | exact z | exact List.mem_cons_of_mem _ z
    · have e : c = .own b es := by simpa using hb
      subst e
      exact (List.nodup_cons.mp h).1
  | c :: env, i + 1, b, ds, hb, h => by
    have hb' : (b ∉ owned env ∨ ∃ es, env[i]? = some (.own b es)) := by
      rcases hb with hb | ⟨es, hb⟩
      · left; intro z; apply hb; cases c <;> first | exact z | exact List.mem_cons_of_mem _ z
      · exact .inr ⟨es, by simpa using hb⟩
    cases c with
    | own b' ds' =>
      have q := List.nodup_cons.mp (show (b' :: owned env).Nodup from h)
      refine List.nodup_cons.mpr ⟨fun z => ?_, owned_set_own_nd i hb' q.2⟩
      rcases owned_set_own i b' z with r | r
      · subst r
        rcases hb with hb | ⟨es, hb⟩
        · exact hb List.mem_cons_self
        · exact q.1 (owned_get (i := i) (by simpa using hb))
      · exact q.1 r
    | non => exact owned_set_own_nd (env := env) i hb' h
    | dat d => exact owned_set_own_nd (env := env) i hb' h
    | raw v => exact owned_set_own_nd (env := env) i hb' h
theorem Slots.own_in {W : Addr → Prop} {O : Lk} {H : Hp} : ∀ {σ : L2.St} {env : List Ent} {a : Addr}, Slots W O H σ env → a ∈ owned env → O a ≠ none
  | [], [], _, _, z => by simp [owned] at z
  | s :: σ, c :: env, a, h, z => by
    cases c with
    | own b ds =>
      rcases List.mem_cons.mp (show a ∈ b :: owned env from z) with q | q
      · subst q
        obtain ⟨_, vs, e, _⟩ := h.1
        rw [e]; exact nofun
      · exact Slots.own_in h.2 q
    | non => exact Slots.own_in (env := env) h.2 z
    | dat d => exact Slots.own_in (env := env) h.2 z
    | raw v => exact Slots.own_in (env := env) h.2 z
  | [], _ :: _, _, h, _ => h.elim
  | _ :: _, [], _, h, _ => h.elim

/-! ### expressions -/
def EW (B : Fr) (env : List Ent) (te : TE) (Q : PyData → Prop) : Prop := ∀ (O : Lk) (σ : L2.St) (H : Hp), (B.lock O).J H → Slots (B.lock O).W O H σ env → ∀ R : VK,
  (∀ d v H2, Q d → Gro (B.lock O) H H2 → Dq (B.lock O).W H2 v d → R v H2) → te σ H R
def TW (B : Fr) (env : List Ent) (tt : TT) (Q : Bool → Prop) : Prop := ∀ (O : Lk) (σ : L2.St) (H : Hp), (B.lock O).J H → Slots (B.lock O).W O H σ env → ∀ R : Bool → Hp → Prop,
  (∀ b H2, Q b → Gro (B.lock O) H H2 → R b H2) → tt σ H R
def EA (B : Fr) (env : List Ent) (ta : TA) (Q : List Ent → Prop) : Prop := ∀ (O : Lk) (σ : L2.St) (H : Hp), (B.lock O).J H → Slots (B.lock O).W O H σ env → ∀ R : List V → Hp → Prop,
  (∀ es vs H2, Q es → Gro (B.lock O) H H2 → Slots (B.lock O).W O H2 (vs.map some) es → R vs H2) → ta σ H R
section
variable {B : Fr} {env : List Ent} {te ta tb : TE} {tt tu : TT} {Q : PyData → Prop}
theorem Slots.gro {B : Fr} {O : Lk} {H H' : Hp} {σ : L2.St} {env : List Ent} (h : Slots (B.lock O).W O H σ env) (g : Gro (B.lock O) H H') : Slots (B.lock O).W O H' σ env :=
  h.to (fun a o w e => ⟨w, g.1 a o w e⟩) (fun _ _ => rfl)
theorem EW.mono {Q' : PyData → Prop} (h : EW B env te Q) (q : ∀ d, Q d → Q' d) : EW B env te Q' := fun O σ H j s R r => h O σ H j s R fun d v H2 a => r d v H2 (q d a)
theorem TW.mono {P P' : Bool → Prop} (h : TW B env tt P) (q : ∀ d, P d → P' d) : TW B env tt P' := fun O σ H j s R r => h O σ H j s R fun d H2 a => r d H2 (q d a)
theorem ew_var {i : Nat} {d : PyData} (h : env[i]? = some (.dat d)) (q : Q d) : EW B env (tVar i) Q := fun O σ H j s R r => by
  obtain ⟨s', e, v, e2, k⟩ := s.get h
  subst e2
  exact ⟨v, e, r d v H q (.refl j) k⟩
theorem ew_int {i : Int} (q : Q (.int i)) : EW B env (tC (.int i)) Q := fun O σ H j s R r => r _ _ H q (.refl j) (.int i)
theorem ew_bl {b : Bool} (q : Q (.bool b)) : EW B env (tC (.bl b)) Q := fun O σ H j s R r => r _ _ H q (.refl j) (.bl b)
theorem ew_str {x : Str} (q : Q (.str x)) : EW B env (tC (.str x)) Q := fun O σ H j s R r => r _ _ H q (.refl j) (.str x)
theorem ew_non (q : Q .none) : EW B env (tC .non) Q := fun O σ H j s R r => r _ _ H q (.refl j) .non
theorem ea_nil {Q : List Ent → Prop} (q : Q []) : EA B env tNil Q := fun O σ H j s R r => r [] [] H q (.refl j) trivial
theorem ea_cons {tr : TA} {Q : List Ent → Prop} (h : EW B env te fun d => EA B env tr fun es => Q (.dat d :: es)) : EA B env (tCons te tr) Q := fun O σ H j s R r =>
  h O σ H j s _ fun d v H2 q g k => q O σ H2 g.2 (s.gro g) _ fun es vs H3 q3 g3 k3 => r _ _ H3 q3 (g.trans g3) ⟨⟨v, rfl, k.gro g3⟩, k3⟩
/-- an argument that is handed on as it is: the source -/
theorem ea_raw {i : Nat} {v : V} {tr : TA} {Q : List Ent → Prop} (e : env[i]? = some (.raw v)) (h : EA B env tr fun es => Q (.raw v :: es)) : EA B env (tCons (tVar i) tr) Q := fun O σ H j s R r => by
  obtain ⟨s', e1, k⟩ := s.get e
  cases (show s' = some v from k)
  exact ⟨v, e1, h O σ H j s _ fun es vs H3 q3 g3 k3 => r _ _ H3 q3 g3 ⟨rfl, k3⟩⟩
def dats (ds : List PyData) : List Ent := ds.map .dat
theorem slots_dats {W : Addr → Prop} {O : Lk} {H : Hp} : ∀ {vs : List V} {ds : List PyData}, Slots W O H (vs.map some) (dats ds) → DqA W H vs ds
  | [], [], _ => .nil
  | v :: vs, d :: ds, h => by
    obtain ⟨⟨v', e, k⟩, h2⟩ := h
    cases e
    exact .cons k (slots_dats h2)
  | [], _ :: _, h => h.elim
  | _ :: _, [], h => h.elim
/-- the arguments are data -/
def AllD (Q : List PyData → Prop) (es : List Ent) : Prop := ∃ ds, es = dats ds ∧ Q ds
theorem AllD.nil {Q : List PyData → Prop} (q : Q []) : AllD Q [] := ⟨[], rfl, q⟩
theorem AllD.cons {Q : List PyData → Prop} {d : PyData} {es : List Ent} (h : AllD (fun ds => Q (d :: ds)) es) : AllD Q (.dat d :: es) := by
  obtain ⟨ds, e, q⟩ := h
  subst e
  exact ⟨d :: ds, rfl, q⟩
theorem ew_tup {t : TA} (h : EA B env t (AllD fun ds => ds.length ≤ 100000 ∧ Q (.tuple ds))) : EW B env (tTup t) Q := fun O σ H j s R r =>
  h O σ H j s _ fun es vs H2 ⟨ds, e, hl, q⟩ g k => by
    subst e
    have kk := slots_dats k
    refine ⟨by rw [kk.len]; exact Nat.le_trans hl (by decide), fun p hp => ?_⟩
    have g2 : Gro (B.lock O) H2 (upd H2 p (.tup vs)) := .new g.2 hp
    exact r _ _ _ q (g.trans g2) (.tup (Fr.fresh g.2 hp) upd_same (kk.gro g2))
theorem ew_lst {t : TA} (h : EA B env t (AllD fun ds => ds.length ≤ 100000 ∧ Q (.list ds))) : EW B env (tLst t) Q := fun O σ H j s R r =>
  h O σ H j s _ fun es vs H2 ⟨ds, e, hl, q⟩ g k => by
    subst e
    have kk := slots_dats k
    refine ⟨by rw [kk.len]; exact Nat.le_trans hl (by decide), fun p hp => ?_⟩
    have g2 : Gro (B.lock O) H2 (upd H2 p (.lst vs)) := .new g.2 hp
    exact r _ _ _ q (g.trans g2) (.lst (Fr.fresh g.2 hp) upd_same (kk.gro g2))

/-! operations by data -/
def OD (r : R2) (x y : PyData) (Q : PyData → Prop) : Prop := ∀ (F : Fr) (H : Hp) (u v : V), F.J H → Dq F.W H u x → Dq F.W H v y → ∀ R : VK, (∀ d w H2, Q d → Gro F H H2 → Dq F.W H2 w d → R w H2) → r u v H R
def UD (r : V → Hp → VK → Prop) (x : PyData) (Q : PyData → Prop) : Prop := ∀ (F : Fr) (H : Hp) (u : V), F.J H → Dq F.W H u x → ∀ R : VK, (∀ d w H2, Q d → Gro F H H2 → Dq F.W H2 w d → R w H2) → r u H R
def CD (r : List V → Hp → VK → Prop) (ds : List PyData) (Q : PyData → Prop) : Prop := ∀ (F : Fr) (H : Hp) (vs : List V), F.J H → DqA F.W H vs ds → ∀ R : VK, (∀ d w H2, Q d → Gro F H H2 → Dq F.W H2 w d → R w H2) → r vs H R
theorem ew_op {r : R2} (h : EW B env ta fun x => EW B env tb fun y => OD r x y Q) : EW B env (tOp r ta tb) Q := fun O σ H j s R k =>
  h O σ H j s _ fun x u H2 q g kx => q O σ H2 g.2 (s.gro g) _ fun y v H3 q3 g3 ky => q3 (B.lock O) H3 u v g3.2 (kx.gro g3) ky R fun d w H4 qd g4 kd => k d w H4 qd ((g.trans g3).trans g4) kd
theorem ew_un {r : V → Hp → VK → Prop} (h : EW B env ta fun x => UD r x Q) : EW B env (tUn r ta) Q := fun O σ H j s R k =>
  h O σ H j s _ fun x u H2 q g kx => q (B.lock O) H2 u g.2 kx R fun d w H4 qd g4 kd => k d w H4 qd (g.trans g4) kd
theorem ew_cb {r : List V → Hp → VK → Prop} {t : TA} (h : EA B env t (AllD fun ds => CD r ds Q)) : EW B env (tCB r t) Q := fun O σ H j s R k =>
  h O σ H j s _ fun es vs H2 ⟨ds, e, q⟩ g kx => by
    subst e
    exact q (B.lock O) H2 vs g.2 (slots_dats kx) R fun d w H4 qd g4 kd => k d w H4 qd (g.trans g4) kd
theorem od_I0 {f : Int → Int → Int} {x y : PyData} (h : ∃ i j, x = .int i ∧ y = .int j ∧ Q (.int (f i j))) : OD (rI0 fun i j => V.int (f i j)) x y Q := fun F H u v j kx ky R r => by
  obtain ⟨i, k, rfl, rfl, q⟩ := h
  cases kx
  cases ky
  exact ⟨i, k, rfl, rfl, r _ _ H q (.refl j) (.int _)⟩
theorem od_I {f : Int → Int → Int} {C : Int → Int → Prop} {x y : PyData} (h : ∃ i j, x = .int i ∧ y = .int j ∧ C i j ∧ Q (.int (f i j))) : OD (rI C fun i j => V.int (f i j)) x y Q := fun F H u v j kx ky R r => by
  obtain ⟨i, k, rfl, rfl, c, q⟩ := h
  cases kx
  cases ky
  exact ⟨i, k, rfl, rfl, c, r _ _ H q (.refl j) (.int _)⟩
theorem od_B0 {f : Int → Int → Bool} {x y : PyData} (h : ∃ i j, x = .int i ∧ y = .int j ∧ Q (.bool (f i j))) : OD (rI0 fun i j => V.bl (f i j)) x y Q := fun F H u v j kx ky R r => by
  obtain ⟨i, k, rfl, rfl, q⟩ := h
  cases kx
  cases ky
  exact ⟨i, k, rfl, rfl, r _ _ H q (.refl j) (.bl _)⟩
theorem ud_I {f : Int → Int} {x : PyData} (h : ∃ i, x = .int i ∧ Q (.int (f i))) : UD (rU fun i => V.int (f i)) x Q := fun F H u j kx R r => by
  obtain ⟨i, rfl, q⟩ := h
  cases kx
  exact ⟨i, rfl, r _ _ H q (.refl j) (.int _)⟩
theorem od_eqI {x y : PyData} (h : ∃ i j, x = .int i ∧ y = .int j ∧ Q (.bool (decide (i = j)))) : OD rEq x y Q := fun F H u v j kx ky R r => by
  obtain ⟨i, k, rfl, rfl, q⟩ := h
  cases kx
  cases ky
  refine ⟨rfl, ?_⟩
  have e : decide (V.int i = V.int k) = decide (i = k) := by rw [decide_eq_decide]; constructor <;> intro z <;> first | (cases z; rfl) | rw [z]
  rw [e]
  exact r _ _ H q (.refl j) (.bl _)
theorem od_neI {x y : PyData} (h : ∃ i j, x = .int i ∧ y = .int j ∧ Q (.bool (!decide (i = j)))) : OD rNe x y Q := fun F H u v j kx ky R r => by
  obtain ⟨i, k, rfl, rfl, q⟩ := h
  cases kx
  cases ky
  refine ⟨rfl, ?_⟩
  have e : decide (V.int i = V.int k) = decide (i = k) := by rw [decide_eq_decide]; constructor <;> intro z <;> first | (cases z; rfl) | rw [z]
  rw [e]
  exact r _ _ H q (.refl j) (.bl _)
theorem od_eqS {x y : PyData} (h : ∃ i j, x = .str i ∧ y = .str j ∧ Q (.bool (decide (i = j)))) : OD rEq x y Q := fun F H u v j kx ky R r => by
  obtain ⟨i, k, rfl, rfl, q⟩ := h
  cases kx
  cases ky
  refine ⟨rfl, ?_⟩
  have e : decide (V.str i = V.str k) = decide (i = k) := by rw [decide_eq_decide]; constructor <;> intro z <;> first | (cases z; rfl) | rw [z]
  rw [e]
  exact r _ _ H q (.refl j) (.bl _)
theorem od_neS {x y : PyData} (h : ∃ i j, x = .str i ∧ y = .str j ∧ Q (.bool (!decide (i = j)))) : OD rNe x y Q := fun F H u v j kx ky R r => by
  obtain ⟨i, k, rfl, rfl, q⟩ := h
  cases kx
  cases ky
  refine ⟨rfl, ?_⟩
  have e : decide (V.str i = V.str k) = decide (i = k) := by rw [decide_eq_decide]; constructor <;> intro z <;> first | (cases z; rfl) | rw [z]
  rw [e]
  exact r _ _ H q (.refl j) (.bl _)
theorem at_map {xs : List V} {ds : List PyData} {W : Addr → Prop} {H : Hp} (k : DqA W H xs ds) {i : Int} {d : PyData} (e : atI ds i = some d) : ∃ v, atI xs i = some v ∧ Dq W H v d := by
  unfold atI at e ⊢
  rw [k.len]
  cases hq : ixN ds.length i with
  | none => rw [hq] at e; cases e
  | some n =>
    rw [hq] at e
    exact k.get e
/-- t[i], a tuple or a list -/
theorem od_ixT {K : PySem.W.Frag} {x y : PyData} (h : ∃ ds i d, x = .tuple ds ∧ y = .int i ∧ atI ds i = some d ∧ Q d) : OD (rIxT K) x y Q := fun F H u v j kx ky R r => by
  obtain ⟨ds, i, d, rfl, rfl, e, q⟩ := h
  cases ky
  cases kx with
  | tup w hs ha =>
    obtain ⟨z, e2, kz⟩ := at_map ha e
    exact ⟨_, _, i, z, rfl, rfl, SqT.of hs, e2, r d z H q (.refl j) kz⟩
theorem od_ixL {K : PySem.W.Frag} {x y : PyData} (h : ∃ ds i d, x = .list ds ∧ y = .int i ∧ atI ds i = some d ∧ Q d) : OD (rIxL K) x y Q := fun F H u v j kx ky R r => by
  obtain ⟨ds, i, d, rfl, rfl, e, q⟩ := h
  cases ky
  cases kx with
  | lst w hs ha =>
    obtain ⟨z, e2, kz⟩ := at_map ha e
    exact ⟨_, _, i, z, rfl, rfl, SqL.of hs, e2, r d z H q (.refl j) kz⟩
def itemsOf : PyData → Option (List PyData)
  | .list ds => some ds
  | .tuple ds => some ds
  | _ => none
theorem od_ix {K : PySem.W.Frag} {x y : PyData} (h : ∃ ds i d, itemsOf x = some ds ∧ y = .int i ∧ atI ds i = some d ∧ Q d) : OD (rIx K) x y Q := fun F H u v j kx ky R r => by
  obtain ⟨ds, i, d, hx, rfl, e, q⟩ := h
  cases x with
  | list xs => cases hx; exact .inl (od_ixL ⟨ds, i, d, rfl, rfl, e, q⟩ F H u v j kx ky R r)
  | tuple xs => cases hx; exact .inr (.inl (od_ixT ⟨ds, i, d, rfl, rfl, e, q⟩ F H u v j kx ky R r))
  | none => cases hx
  | bool _ => cases hx
  | int _ => cases hx
  | str _ => cases hx
  | dict _ => cases hx
end

/-! ### tests -/
section
variable {B : Fr} {env : List Ent} {te ta tb : TE} {tt tu : TT} {Q : Bool → Prop}
theorem tw_test (h : EW B env te fun d => ∃ b, d = .bool b ∧ Q b) : TW B env (tTest te) Q := fun O σ H j s R r =>
  h O σ H j s _ fun d v H2 ⟨b, e, q⟩ g k => by
    subst e
    cases k
    exact ⟨b, rfl, r b H2 q g⟩
theorem tw_B (h : EW B env te fun d => ∃ b, d = .bool b ∧ Q b) : TW B env (tB te) Q := tw_test h
theorem tw_and (h : TW B env tt fun b => if b = true then TW B env tu Q else Q false) : TW B env (tAnd tt tu) Q := fun O σ H j s R r =>
  h O σ H j s _ fun b H2 q g => by
    cases b with
    | true => exact q O σ H2 g.2 (s.gro g) R fun b H3 q3 g3 => r b H3 q3 (g.trans g3)
    | false => exact r false H2 q g
theorem tw_or (h : TW B env tt fun b => if b = true then Q true else TW B env tu Q) : TW B env (tOr tt tu) Q := fun O σ H j s R r =>
  h O σ H j s _ fun b H2 q g => by
    cases b with
    | false => exact q O σ H2 g.2 (s.gro g) R fun b H3 q3 g3 => r b H3 q3 (g.trans g3)
    | true => exact r true H2 q g
theorem tw_not (h : TW B env tt fun b => Q (!b)) : TW B env (tNot tt) Q := fun O σ H j s R r => h O σ H j s _ fun b H2 q g => r _ H2 q g
theorem tw_yes (h : Q true) : TW B env tYes Q := fun O σ H j s R r => r true H h (.refl j)
variable {P : PyData → Prop}
theorem ew_if (h : TW B env tt fun b => if b = true then EW B env ta P else EW B env tb P) : EW B env (tIf tt ta tb) P := fun O σ H j s R r =>
  h O σ H j s _ fun b H2 q g => by
    cases b with
    | true => exact q O σ H2 g.2 (s.gro g) R fun d v H3 q3 g3 k => r d v H3 q3 (g.trans g3) k
    | false => exact q O σ H2 g.2 (s.gro g) R fun d v H3 q3 g3 k => r d v H3 q3 (g.trans g3) k
theorem ew_isN (h : EW B env ta fun x => P (.bool (match x with | .none => true | _ => false))) : EW B env (tIsN ta) P := fun O σ H j s R r =>
  h O σ H j s _ fun d v H2 q g k => by
    cases k <;> exact r _ _ H2 q g (.bl _)
theorem ew_andV (h : EW B env ta fun x => ∃ b, x = .bool b ∧ if b = true then EW B env tb P else P (.bool false)) : EW B env (tAndV ta tb) P := fun O σ H j s R r =>
  h O σ H j s _ fun d v H2 ⟨b, e, q⟩ g k => by
    subst e
    cases k
    refine ⟨b, rfl, ?_⟩
    cases b with
    | true => exact q O σ H2 g.2 (s.gro g) R fun d v H3 q3 g3 k => r d v H3 q3 (g.trans g3) k
    | false => exact r _ _ H2 q g (.bl _)
theorem ew_orV (h : EW B env ta fun x => ∃ b, x = .bool b ∧ if b = true then P (.bool true) else EW B env tb P) : EW B env (tOrV ta tb) P := fun O σ H j s R r =>
  h O σ H j s _ fun d v H2 ⟨b, e, q⟩ g k => by
    subst e
    cases k
    refine ⟨b, rfl, ?_⟩
    cases b with
    | false => exact q O σ H2 g.2 (s.gro g) R fun d v H3 q3 g3 k => r d v H3 q3 (g.trans g3) k
    | true => exact r _ _ H2 q g (.bl _)
theorem ew_notV (h : EW B env ta fun x => ∃ b, x = .bool b ∧ P (.bool (!b))) : EW B env (tNotV ta) P := fun O σ H j s R r =>
  h O σ H j s _ fun d v H2 ⟨b, e, q⟩ g k => by
    subst e
    cases k
    exact ⟨b, rfl, r _ _ H2 q g (.bl _)⟩
end

/-! ### built-ins by data -/
section
variable {K : PySem.W.Frag} {Q : PyData → Prop} {ds : List PyData}
theorem cd_len (h : ∃ x xs, ds = [x] ∧ itemsOf x = some xs ∧ Q (.int xs.length)) : CD (fun vs H R => ∃ p ys, vs = [V.ref p] ∧ (SqL K H p ys ∨ SqT K H p ys) ∧ R (V.int ys.length) H) ds Q := fun F H vs j k R r => by
  obtain ⟨x, xs, rfl, hx, q⟩ := h
  cases k with
  | cons k1 k2 =>
    cases k2
    cases k1 with
    | lst w e ha =>
      cases hx
      refine ⟨_, _, rfl, .inl (SqL.of e), ?_⟩
      rw [ha.len]
      exact r _ _ H q (.refl j) (.int _)
    | tup w e ha =>
      cases hx
      refine ⟨_, _, rfl, .inr (SqT.of e), ?_⟩
      rw [ha.len]
      exact r _ _ H q (.refl j) (.int _)
    | non => cases hx
    | bl _ => cases hx
    | int _ => cases hx
    | str _ => cases hx
theorem cd_tuple (h : ∃ x xs, ds = [x] ∧ itemsOf x = some xs ∧ Q (.tuple xs)) : CD (fun vs H R => ∃ p ys, vs = [V.ref p] ∧ ((SqL K H p ys ∧ ∀ l : Addr, H l = none → R (V.ref l) (upd H l (HO.tup ys))) ∨ SqT K H p ys ∧ R (V.ref p) H)) ds Q := fun F H vs j k R r => by
  obtain ⟨x, xs, rfl, hx, q⟩ := h
  cases k with
  | cons k1 k2 =>
    cases k2
    cases k1 with
    | @lst _ vl _ w e ha =>
      cases hx
      refine ⟨_, _, rfl, .inl ⟨SqL.of e, fun l hl => ?_⟩⟩
      have g : Gro F H (upd H l (.tup vl)) := .new j hl
      exact r _ _ _ q g (.tup (Fr.fresh j hl) upd_same (ha.gro g))
    | tup w e ha =>
      cases hx
      exact ⟨_, _, rfl, .inr ⟨SqT.of e, r _ _ H q (.refl j) (.tup w e ha)⟩⟩
    | non => cases hx
    | bl _ => cases hx
    | int _ => cases hx
    | str _ => cases hx
theorem cd_list (h : ∃ x xs, ds = [x] ∧ itemsOf x = some xs ∧ Q (.list xs)) : CD (fun vs H R => ∃ p ys, vs = [V.ref p] ∧ (SqL K H p ys ∨ SqT K H p ys) ∧ ∀ l : Addr, H l = none → R (V.ref l) (upd H l (HO.lst ys))) ds Q := fun F H vs j k R r => by
  obtain ⟨x, xs, rfl, hx, q⟩ := h
  cases k with
  | cons k1 k2 =>
    cases k2
    cases k1 with
    | @lst _ vl _ w e ha =>
      cases hx
      refine ⟨_, _, rfl, .inl (SqL.of e), fun l hl => ?_⟩
      have g : Gro F H (upd H l (.lst vl)) := .new j hl
      exact r _ _ _ q g (.lst (Fr.fresh j hl) upd_same (ha.gro g))
    | @tup _ vl _ w e ha =>
      cases hx
      refine ⟨_, _, rfl, .inr (SqT.of e), fun l hl => ?_⟩
      have g : Gro F H (upd H l (.lst vl)) := .new j hl
      exact r _ _ _ q g (.lst (Fr.fresh j hl) upd_same (ha.gro g))
    | non => cases hx
    | bl _ => cases hx
    | int _ => cases hx
    | str _ => cases hx
theorem cd_abs (h : ∃ i, ds = [.int i] ∧ Q (.int (if i < 0 then -i else i))) : CD (fun vs H R => ∃ i, vs = [V.int i] ∧ R (V.int (if i < 0 then -i else i)) H) ds Q := fun F H vs j k R r => by
  obtain ⟨i, rfl, q⟩ := h
  cases k with
  | cons k1 k2 =>
    cases k2
    cases k1
    exact ⟨i, rfl, r _ _ H q (.refl j) (.int _)⟩
theorem cd_int1 (h : ∃ i, ds = [.int i] ∧ Q (.int i)) : CD (fun vs H R => (∃ i, vs = [V.int i] ∧ R (V.int i) H) ∨ ∃ k, vs = [V.bl k] ∧ R (V.int (if k = true then 1 else 0)) H) ds Q := fun F H vs j k R r => by
  obtain ⟨i, rfl, q⟩ := h
  cases k with
  | cons k1 k2 =>
    cases k2
    cases k1
    exact .inl ⟨i, rfl, r _ _ H q (.refl j) (.int _)⟩
theorem cd_max2 (h : ∃ i k, ds = [.int i, .int k] ∧ Q (.int (if k > i then k else i))) : CD (fun vs H R => ∃ i j, vs = [V.int i, V.int j] ∧ R (V.int (if j > i then j else i)) H) ds Q := fun F H vs j k R r => by
  obtain ⟨a, b, rfl, q⟩ := h
  cases k with
  | cons k1 k2 =>
    cases k2 with
    | cons k2 k3 =>
      cases k3
      cases k1
      cases k2
      exact ⟨a, b, rfl, r _ _ H q (.refl j) (.int _)⟩
theorem cd_gcd (h : ∃ a b : Int, ds = [.int a, .int b] ∧ Q (.int ((Nat.gcd a.natAbs b.natAbs : Nat) : Int))) : CD rGcd ds Q := fun F H vs j k R r => by
  obtain ⟨a, b, rfl, q⟩ := h
  cases k with
  | cons k1 k2 =>
    cases k2 with
    | cons k2 k3 =>
      cases k3
      cases k1
      cases k2
      exact ⟨a, b, rfl, r _ _ H q (.refl j) (.int _)⟩
theorem cd_sum (h : ∃ ns : List Int, ds = [.list (ns.map PyData.int)] ∧ Q (.int ns.sum)) : CD (rSum K) ds Q := fun F H vs j k R r => by
  obtain ⟨ns, rfl, q⟩ := h
  cases k with
  | cons k1 k2 =>
    cases k2
    cases k1 with
    | lst w e ha =>
      have z := ha.ints
      subst z
      exact ⟨_, ns, rfl, SqL.of e, r _ _ H q (.refl j) (.int _)⟩
theorem cd_all (h : ∃ ns : List Bool, ds = [.list (ns.map PyData.bool)] ∧ Q (.bool (ns.all id))) : CD (rAll K) ds Q := fun F H vs j k R r => by
  obtain ⟨ns, rfl, q⟩ := h
  cases k with
  | cons k1 k2 =>
    cases k2
    cases k1 with
    | lst w e ha =>
      have z := ha.bools
      subst z
      exact ⟨_, ns, rfl, SqL.of e, r _ _ H q (.refl j) (.bl _)⟩
theorem od_cat {x y : PyData} (h : ∃ xs ys, x = .list xs ∧ y = .list ys ∧ xs.length + ys.length ≤ 100000 ∧ Q (.list (xs ++ ys))) : OD rCat x y Q := fun F H u v j kx ky R r => by
  obtain ⟨xs, ys, rfl, rfl, hl, q⟩ := h
  cases kx with
  | @lst _ vl _ w e ha =>
    cases ky with
    | @lst _ ul _ w2 e2 hb =>
      refine ⟨_, _, _, _, rfl, rfl, e, e2, ?_, fun p hp => ?_⟩
      · rw [ha.len, hb.len]; exact Nat.le_trans hl (by decide)
      · have g : Gro F H (upd H p (.lst (vl ++ ul))) := .new j hp
        exact r _ _ _ q g (.lst (Fr.fresh j hp) upd_same ((ha.append hb).gro g))
theorem od_catT {x y : PyData} (h : ∃ xs ys, x = .tuple xs ∧ y = .tuple ys ∧ xs ≠ [] ∧ xs.length + ys.length ≤ 100000 ∧ Q (.tuple (xs ++ ys))) : OD (rCatT K) x y Q := fun F H u v j kx ky R r => by
  obtain ⟨xs, ys, rfl, rfl, h0, hl, q⟩ := h
  cases kx with
  | @tup _ vl _ w e ha =>
    cases ky with
    | @tup _ ul _ w2 e2 hb =>
      have l1 := ha.len
      have l2 := hb.len
      refine ⟨_, _, _, _, rfl, rfl, SqT.of e, SqT.of e2, ?_, ?_, fun z => ?_, fun z p hp => ?_⟩
      · intro z; subst z; exact h0 (List.length_eq_zero_iff.mp (by simpa using l1.symm))
      · rw [l1, l2]; exact Nat.le_trans hl (by decide)
      · subst z
        have z2 : ys = [] := List.length_eq_zero_iff.mp (by simpa using l2.symm)
        subst z2
        rw [List.append_nil] at q
        exact r _ _ _ q (.refl j) (.tup w e ha)
      · have g : Gro F H (upd H p (.tup (vl ++ ul))) := .new j hp
        exact r _ _ _ q g (.tup (Fr.fresh j hp) upd_same ((ha.append hb).gro g))
end

/-! ### calls -/
def spG (m : Fr → List Ent → (PyData → Prop) → Prop) : Sp := fun vs H Q _ => ∃ (B : Fr) (O : Lk) (es : List Ent) (R : PyData → Prop), m B es R ∧ owned es = [] ∧ (B.lock O).J H ∧ Slots (B.lock O).W O H (vs.map some) es ∧
  ∀ d v H2, R d → Gro (B.lock O) H H2 → Dq (B.lock O).W H2 v d → Q v H2
def Plain : List Ent → Prop := fun es => owned es = []
def PlainE : Ent → Prop
  | .own _ _ => False
  | _ => True
theorem owned_dat {d : PyData} {es : List Ent} (h : owned es = []) : owned (.dat d :: es) = [] := h
theorem ew_call {B : Fr} {env : List Ent} {t : TA} {m : Fr → List Ent → (PyData → Prop) → Prop} {E : XK} {Q : PyData → Prop} (h : EA B env t fun es => owned es = [] ∧ m B es Q) : EW B env (tCall (spG m) [] E t) Q := fun O σ H j s R r =>
  h O σ H j s _ fun es vs H2 ⟨no, hm⟩ g k => by
    show spG m (vs ++ []) H2 R E
    rw [List.append_nil]
    exact ⟨B, O, es, Q, hm, no, g.2, k, fun d v H3 q3 g3 k3 => r d v H3 q3 (g.trans g3) k3⟩

theorem datNo {d : PyData} : ∀ a ds, Ent.dat d ≠ .own a ds := fun _ _ h => nomatch h
theorem rawNo {v : V} : ∀ a ds, Ent.raw v ≠ .own a ds := fun _ _ h => nomatch h
/-! ### statements -/
structure St (B : Fr) (Z : Lk) (H0 : Hp) (U : Addr → Prop) (env : List Ent) (O : Lk) (σ : L2.St) (H : Hp) : Prop where
  j : (B.lock O).J H
  sl : Slots (B.lock O).W O H σ env
  nd : (owned env).Nodup
  z : ∀ a o, Z a = some o → O a = some o ∧ a ∉ owned env
  keep : ∀ a o, ¬ B.W a → Z a = none → ¬ U a → H0 a = some o → H a = some o
  dom : ∀ a, O a ≠ none → Z a ≠ none ∨ U a ∨ H0 a = none
def Rt (B : Fr) (Z : Lk) (H0 : Hp) (U : Addr → Prop) (H : Hp) : Prop := (B.lock Z).J H ∧ ∀ a o, ¬ B.W a → Z a = none → ¬ U a → H0 a = some o → H a = some o
structure Post where
  N : List Ent → Prop
  R : PyData → Prop
  B : List Ent → Prop := fun _ => False
  C : List Ent → Prop := fun _ => False
structure EndOk (B : Fr) (Z : Lk) (H0 : Hp) (U : Addr → Prop) (P : Post) (D : Ends) : Prop where
  nx : ∀ env O σ H, P.N env → St B Z H0 U env O σ H → D.nx σ H
  rt : ∀ d v H, P.R d → Rt B Z H0 U H → Dq (B.lock Z).W H v d → D.rt v H
  bk : ∀ env O σ H, P.B env → St B Z H0 U env O σ H → D.bk σ H
  ct : ∀ env O σ H, P.C env → St B Z H0 U env O σ H → D.ct σ H
def SW (B : Fr) (env : List Ent) (ts : TS) (P : Post) : Prop := ∀ (Z : Lk) (H0 : Hp) (U : Addr → Prop) (O : Lk) (σ : L2.St) (H : Hp) (D : Ends), St B Z H0 U env O σ H → EndOk B Z H0 U P D → ts D σ H
section
variable {B : Fr} {Z : Lk} {H0 H H2 : Hp} {U : Addr → Prop} {env : List Ent} {O : Lk} {σ : L2.St} {P : Post} {D : Ends}
theorem St.gro (s : St B Z H0 U env O σ H) (g : Gro (B.lock O) H H2) : St B Z H0 U env O σ H2 :=
  ⟨g.2, s.sl.gro g, s.nd, s.z, fun a o hb hz hu h0 => by
    have e := s.keep a o hb hz hu h0
    cases q : O a with
    | none => exact g.1 a o (fun w => w.elim hb (fun x => x q)) e
    | some o' =>
      have e1 := (s.j.2 a o' q).2
      rw [e] at e1
      cases e1
      exact (g.2.2 a o q).2, s.dom⟩
theorem St.rt (s : St B Z H0 U env O σ H) : Rt B Z H0 U H := ⟨⟨s.j.1, fun a o e => s.j.2 a o (s.z a o e).1⟩, s.keep⟩
theorem St.wz (s : St B Z H0 U env O σ H) {a : Addr} (h : ¬ (B.lock O).W a) : ¬ (B.lock Z).W a := fun w => h (by
  rcases w with w | w
  · exact .inl w
  · right
    cases q : Z a with
    | none => exact absurd q w
    | some o => rw [(s.z a o q).1]; exact nofun)
theorem St.out (s : St B Z H0 U env O σ H) {v : V} {d : PyData} (k : Dq (B.lock O).W H v d) : Dq (B.lock Z).W H v d := Dq.to (fun a o w e => ⟨s.wz w, e⟩) d v k
/-- a slot is stored: data -/
theorem St.set (s : St B Z H0 U env O σ H) (i : Nat) {v : V} {d : PyData} (k : Dq (B.lock O).W H v d) : St B Z H0 U (env.set i (.dat d)) O (σ.set i (some v)) H :=
  ⟨s.j, s.sl.set i ⟨v, rfl, k⟩, owned_set_nd i datNo s.nd, fun a o e => ⟨(s.z a o e).1, fun m => (s.z a o e).2 (owned_set_sub i datNo a m)⟩, s.keep, s.dom⟩
theorem St.sraw (s : St B Z H0 U env O σ H) (i : Nat) (v : V) : St B Z H0 U (env.set i (.raw v)) O (σ.set i (some v)) H :=
  ⟨s.j, s.sl.set i rfl, owned_set_nd i rawNo s.nd, fun a o e => ⟨(s.z a o e).1, fun m => (s.z a o e).2 (owned_set_sub i rawNo a m)⟩, s.keep, s.dom⟩
theorem sw_seq {t u : TS} (h : SW B env t ⟨fun e => SW B e u P, P.R, P.B, P.C⟩) : SW B env (tSeq t u) P := fun Z H0 U O σ H D s e =>
  h Z H0 U O σ H _ s ⟨fun env2 O2 σ2 H2 hn s2 => hn Z H0 U O2 σ2 H2 D s2 e, e.rt, e.bk, e.ct⟩
theorem sw_set {i : Nat} {te : TE} (h : EW B env te fun d => P.N (env.set i (.dat d))) : SW B env (tAsg te (gName i)) P := fun Z H0 U O σ H D s e =>
  h O σ H s.j s.sl _ fun d v H2 q g k => e.nx _ O _ H2 q ((s.gro g).set i k)
theorem sw_ret {te : TE} (h : EW B env te P.R) : SW B env (tRet te) P := fun Z H0 U O σ H D s e =>
  h O σ H s.j s.sl _ fun d v H2 q g k => e.rt d v H2 q (s.gro g).rt ((s.gro g).out k)
theorem sw_retN (h : P.R .none) : SW B env tRetN P := fun Z H0 U O σ H D s e => e.rt .none .non H h s.rt .non
theorem sw_expr {te : TE} (h : EW B env te fun _ => P.N env) : SW B env (tDrop te) P := fun Z H0 U O σ H D s e =>
  h O σ H s.j s.sl _ fun d v H2 q g k => e.nx env O σ H2 q (s.gro g)
theorem sw_nx (h : P.N env) : SW B env tNext P := fun Z H0 U O σ H D s e => e.nx env O σ H h s
theorem sw_bk (h : P.B env) : SW B env tBreak P := fun Z H0 U O σ H D s e => e.bk env O σ H h s
theorem sw_ct (h : P.C env) : SW B env tCont P := fun Z H0 U O σ H D s e => e.ct env O σ H h s
theorem sw_if {tt : TT} {t u : TS} (h : TW B env tt fun b => if b = true then SW B env t P else SW B env u P) : SW B env (tIfS tt t u) P := fun Z H0 U O σ H D s e =>
  h O σ H s.j s.sl _ fun b H2 q g => by
    cases b with
    | true => exact q Z H0 U O σ H2 D (s.gro g) e
    | false => exact q Z H0 U O σ H2 D (s.gro g) e
theorem SW.mono {P' : Post} {ts : TS} (h : SW B env ts P) (n : ∀ e, P.N e → P'.N e) (r : ∀ d, P.R d → P'.R d) (b : ∀ e, P.B e → P'.B e) (c : ∀ e, P.C e → P'.C e) : SW B env ts P' := fun Z H0 U O σ H D s e =>
  h Z H0 U O σ H D s ⟨fun v O σ H q => e.nx v O σ H (n v q), fun d v H q => e.rt d v H (r d q), fun v O σ H q => e.bk v O σ H (b v q), fun v O σ H q => e.ct v O σ H (c v q)⟩
/-- a list of one's own is from now on data -/
theorem sw_freeze {i : Nat} {a : Addr} {ds : List PyData} {ts : TS} (hi : env[i]? = some (.own a ds)) (h : SW B (env.set i (.dat (.list ds))) ts P) : SW B env ts P := fun Z H0 U O σ H D s e => by
  obtain ⟨c, e1, e2, vs, e3, k⟩ := s.sl.get hi
  subst e2
  have hin : a ∈ owned env := owned_get hi
  have hz : Z a = none := by
    cases q : Z a with
    | none => rfl
    | some o => exact absurd hin (s.z a o q).2
  let O2 : Lk := fun b => if b = a then none else O b
  have o2 : ∀ b, b ≠ a → O2 b = O b := fun b hb => if_neg hb
  have o2a : O2 a = none := if_pos rfl
  have sub : ∀ b o, O2 b = some o → b ≠ a ∧ O b = some o := fun b o q => by
    by_cases hb : b = a
    · subst hb; rw [o2a] at q; cases q
    · exact ⟨hb, (o2 b hb).symm.trans q⟩
  have wk : ∀ b, ¬ (B.lock O).W b → ¬ (B.lock O2).W b := fun b w w2 => w (w2.elim .inl fun x => .inr (by
    cases q : O2 b with
    | none => exact absurd q x
    | some o => rw [(sub b o q).2]; exact nofun))
  have j2 : (B.lock O2).J H := ⟨s.j.1, fun b o q => s.j.2 b o (sub b o q).2⟩
  have wa : ¬ (B.lock O2).W a := fun w => w.elim (s.j.2 a _ e3).1 fun x => x o2a
  have kk : Dq (B.lock O2).W H (.ref a) (.list ds) := .lst wa (s.j.2 a _ e3).2 (DqA.to (fun b o w q => ⟨wk b w, q⟩) ds vs k)
  have own2 : ∀ b, b ∈ owned (env.set i (.dat (.list ds))) → b ≠ a := by
    have : ∀ (env : List Ent) (i : Nat), env[i]? = some (.own a ds) → (owned env).Nodup → a ∉ owned (env.set i (.dat (.list ds))) := by
      intro env
      induction env with
      | nil => intro i hi; simp at hi
      | cons c r ih =>
        intro i hi nd
        cases i with
        | zero =>
          simp at hi
          subst hi
          exact (List.nodup_cons.mp nd).1
        | succ i =>
          have hi' : r[i]? = some (.own a ds) := by simpa using hi
          cases c with
          | own b es =>
            intro z
            rcases List.mem_cons.mp (show a ∈ b :: owned (r.set i _) from z) with q | q
            · subst q; exact (List.nodup_cons.mp nd).1 (owned_get hi')
            · exact ih i hi' (List.nodup_cons.mp nd).2 q
          | non => exact ih i hi' nd
          | dat d => exact ih i hi' nd
          | raw v => exact ih i hi' nd
    intro b hb q
    subst q
    exact this env i hi s.nd hb
  refine h Z H0 U O2 σ H D ⟨j2, ?_, owned_set_nd i datNo s.nd, fun b o q => ?_, s.keep, fun b q => ?_⟩ e
  · have q1 : Slots (B.lock O2).W O H σ (env.set i (.dat (.list ds))) := by
      have q0 : Slots (B.lock O2).W O H σ env := s.sl.to (fun b o w q => ⟨wk b w, q⟩) fun _ _ => rfl
      have q1 := q0.set i (s := some (.ref a)) (e := .dat (.list ds)) ⟨_, rfl, kk⟩
      have es : σ.set i (some (.ref a)) = σ := by
        obtain ⟨hl, he⟩ := List.getElem?_eq_some_iff.mp e1
        conv => rhs; rw [← List.set_getElem_self hl]
        rw [he]
      rw [es] at q1
      exact q1
    exact q1.to (fun b o w q => ⟨w, q⟩) fun b hb => o2 b (own2 b hb)
  · have n : b ≠ a := fun z => by subst z; rw [hz] at q; cases q
    exact ⟨(o2 b n).trans (s.z b o q).1, fun m => (s.z b o q).2 (owned_set_sub i datNo b m)⟩
  · cases q2 : O2 b with
    | none => exact absurd q2 q
    | some o => exact s.dom b (by rw [(sub b o q2).2]; exact nofun)
/-- x = a list that is new: one's own -/
theorem sw_new {i : Nat} {t : TA} (h : EA B env t (AllD fun ds => ds.length ≤ 100000 ∧ ∀ a, P.N (env.set i (.own a ds)))) : SW B env (tAsg (tLst t) (gName i)) P := fun Z H0 U O σ H D s e => by
  refine h O σ H s.j s.sl _ fun es vs H2 ⟨ds, e1, hl, q⟩ g k => ?_
  subst e1
  have kk := slots_dats k
  refine ⟨by rw [kk.len]; exact Nat.le_trans hl (by decide), fun p hp => ?_⟩
  have s2 := s.gro g
  have np : ¬ (B.lock O).W p := Fr.fresh g.2 hp
  have g2 : Gro (B.lock O) H2 (upd H2 p (.lst vs)) := .new g.2 hp
  have s3 := s2.gro g2
  let O2 : Lk := fun b => if b = p then some (.lst vs) else O b
  have o2 : ∀ b, b ≠ p → O2 b = O b := fun b hb => if_neg hb
  have o2p : O2 p = some (.lst vs) := if_pos rfl
  have opn : O p = none := by
    cases q : O p with
    | none => rfl
    | some o => exact absurd (Or.inr (by rw [q]; exact nofun)) np
  have npo : p ∉ owned env := fun m => (s.sl.own_in m) opn
  have jj : (B.lock O2).J (upd H2 p (.lst vs)) := ⟨s3.j.1, fun b o q => by
    by_cases hb : b = p
    · subst hb
      rw [o2p] at q
      cases q
      exact ⟨fun w => np (.inl w), upd_same⟩
    · rw [o2 b hb] at q
      exact s3.j.2 b o q⟩
  have wk : ∀ b, b ≠ p → ¬ (B.lock O).W b → ¬ (B.lock O2).W b := fun b hb w w2 => w (w2.elim .inl fun x => .inr (by rw [← o2 b hb]; exact x))
  have k3 : DqA (B.lock O2).W (upd H2 p (.lst vs)) vs ds := DqA.to (fun b o w q => ⟨wk b (ne_of_none q hp) w, by rw [upd_ne (ne_of_none q hp)]; exact q⟩) ds vs kk
  refine e.nx _ O2 _ _ (q p) ⟨jj, ?_, owned_set_own_nd i (.inl npo) s.nd, fun b o z => ?_, s3.keep, fun b z => ?_⟩
  · refine Slots.set i ?_ ⟨rfl, vs, o2p, k3⟩
    exact s2.sl.to (fun b o w q => ⟨wk b (ne_of_none q hp) w, by rw [upd_ne (ne_of_none q hp)]; exact q⟩) fun b hb => o2 b (fun z => npo (z ▸ hb))
  · have nb : b ≠ p := fun z2 => by
      subst z2
      rw [(s.z b o z).1] at opn
      cases opn
    refine ⟨(o2 b nb).trans (s.z b o z).1, fun m => ?_⟩
    rcases owned_set_own i b m with r | r
    · exact nb r
    · exact (s.z b o z).2 r
  · by_cases hb : b = p
    · subst hb
      cases q1 : H0 b with
      | none => exact .inr (.inr rfl)
      | some o =>
        by_cases hu : U b
        · exact .inr (.inl hu)
        · have zb : Z b = none := by
            cases q2 : Z b with
            | none => rfl
            | some o' => rw [(s.z b o' q2).1] at opn; cases opn
          have q3 := s2.keep b o (fun w => np (.inl w)) zb hu q1
          rw [hp] at q3
          cases q3
    · exact s.dom b (by rw [← o2 b hb]; exact z)
/-- x.append(e), x a list of one's own -/
theorem sw_append {i : Nat} {a : Addr} {ds : List PyData} {K : PySem.W.Frag} {te : TE} (hi : env[i]? = some (.own a ds)) (hl : ds.length < 100000) (h : EW B env te fun d => P.N (env.set i (.own a (ds ++ [d])))) :
    SW B env (tDrop (tBM K "list" rAppend (tVar i) (tCons te tNil))) P := fun Z H0 U O σ H D s e => by
  obtain ⟨c, e1, e2, vs, e3, k⟩ := s.sl.get hi
  subst e2
  refine ⟨_, e1, .inl ⟨rfl, _, SqL.of (s.j.2 a _ e3).2⟩, h O σ H s.j s.sl _ fun d v H2 q g kd => ?_⟩
  have s2 := s.gro g
  have hL := (g.2.2 a _ e3).2
  refine ⟨a, vs, v, rfl, rfl, hL, by rw [k.len]; exact Nat.lt_of_lt_of_le hl (by decide), ?_⟩
  have hin : a ∈ owned env := owned_get hi
  let O2 : Lk := fun b => if b = a then some (.lst (vs ++ [v])) else O b
  have o2 : ∀ b, b ≠ a → O2 b = O b := fun b hb => if_neg hb
  have o2a : O2 a = some (.lst (vs ++ [v])) := if_pos rfl
  have wiff : ∀ b, ¬ (B.lock O).W b → b ≠ a ∧ ¬ (B.lock O2).W b := fun b w => by
    have hb : b ≠ a := fun z => w (.inr (by rw [z, e3]; exact nofun))
    exact ⟨hb, fun w2 => w (w2.elim .inl fun x => .inr (by rw [← o2 b hb]; exact x))⟩
  have mv : ∀ b o, ¬ (B.lock O).W b → H2 b = some o → ¬ (B.lock O2).W b ∧ (upd H2 a (.lst (vs ++ [v]))) b = some o := fun b o w q => ⟨(wiff b w).2, by rw [upd_ne (wiff b w).1]; exact q⟩
  have nBa : ¬ B.W a := (s.j.2 a _ e3).1
  have jj : (B.lock O2).J (upd H2 a (.lst (vs ++ [v]))) := ⟨B.loc H2 _ (fun b w => upd_ne (fun z => nBa (z ▸ w))) s2.j.1, fun b o q => by
    by_cases hb : b = a
    · subst hb
      rw [o2a] at q
      cases q
      exact ⟨nBa, upd_same⟩
    · rw [o2 b hb] at q
      exact ⟨(s2.j.2 b o q).1, by rw [upd_ne hb]; exact (s2.j.2 b o q).2⟩⟩
  have k2 := k.gro g
  have k3 : DqA (B.lock O2).W (upd H2 a (.lst (vs ++ [v]))) (vs ++ [v]) (ds ++ [d]) := (DqA.to mv ds vs k2).append (.cons (Dq.to mv d v kd) .nil)
  have hz : Z a = none := by
    cases q : Z a with
    | none => rfl
    | some o => exact absurd hin (s.z a o q).2
  have es : σ.set i (some (.ref a)) = σ := by
    obtain ⟨hl, he⟩ := List.getElem?_eq_some_iff.mp e1
    conv => rhs; rw [← List.set_getElem_self hl]
    rw [he]
  refine e.nx _ O2 σ _ q ⟨jj, ?_, owned_set_own_nd i (.inr ⟨ds, hi⟩) s.nd, fun b o z => ?_, fun b o w zb u h0 => ?_, fun b z => ?_⟩
  · -- the slots
    have own1 : ∀ b, b ∈ owned (env.set i (.raw (.ref a))) → b ≠ a := by
      have : ∀ (env : List Ent) (i : Nat), env[i]? = some (.own a ds) → (owned env).Nodup → a ∉ owned (env.set i (.raw (.ref a))) := by
        intro env
        induction env with
        | nil => intro i hi; simp at hi
        | cons c r ih =>
          intro i hi nd
          cases i with
          | zero =>
            simp at hi
            subst hi
            exact (List.nodup_cons.mp nd).1
          | succ i =>
            have hi' : r[i]? = some (.own a ds) := by simpa using hi
            cases c with
            | own b es =>
              intro z
              rcases List.mem_cons.mp (show a ∈ b :: owned (r.set i _) from z) with q | q
              · subst q; exact (List.nodup_cons.mp nd).1 (owned_get hi')
              · exact ih i hi' (List.nodup_cons.mp nd).2 q
            | non => exact ih i hi' nd
            | dat d => exact ih i hi' nd
            | raw v => exact ih i hi' nd
      intro b hb q
      subst q
      exact this env i hi s.nd hb
    have q0 : Slots (B.lock O).W O H2 (σ.set i (some (.ref a))) (env.set i (.raw (.ref a))) := s2.sl.set i rfl
    have q1 : Slots (B.lock O2).W O2 (upd H2 a (.lst (vs ++ [v]))) (σ.set i (some (.ref a))) (env.set i (.raw (.ref a))) := q0.to mv fun b hb => o2 b (own1 b hb)
    have q2 := q1.set i (s := some (.ref a)) (e := .own a (ds ++ [d])) ⟨rfl, vs ++ [v], o2a, k3⟩
    rw [List.set_set, List.set_set, es] at q2
    exact q2
  · have nb : b ≠ a := fun z2 => by subst z2; rw [hz] at z; cases z
    refine ⟨(o2 b nb).trans (s.z b o z).1, fun m => ?_⟩
    rcases owned_set_own i b m with r | r
    · exact nb r
    · exact (s.z b o z).2 r
  · have q := s2.keep b o w zb u h0
    by_cases hb : b = a
    · subst hb
      rcases s.dom b (by rw [e3]; exact nofun) with r | r | r
      · exact absurd zb r
      · exact absurd r u
      · rw [h0] at r; cases r
    · rw [upd_ne hb]; exact q
  · by_cases hb : b = a
    · subst hb; exact s.dom b (by rw [e3]; exact nofun)
    · exact s.dom b (by rw [← o2 b hb]; exact z)
/-- return x, x a list of one's own -/
theorem sw_retOwn {i : Nat} {a : Addr} {ds : List PyData} (hi : env[i]? = some (.own a ds)) (h : P.R (.list ds)) : SW B env (tRet (tVar i)) P := by
  refine sw_freeze hi (sw_ret (ew_var (d := .list ds) ?_ h))
  have hl : i < env.length := (List.getElem?_eq_some_iff.mp hi).1
  rw [List.getElem?_set_self hl]
end
end Dl
end
section
set_option Elab.async false
set_option linter.all false
set_option maxRecDepth 100000
namespace Dl
open PySem L2 PySem.Spec PyProof.Rows RZ

/-! ### what is walked -/
def Good (W : Addr → Prop) (H2 H : Hp) : Prop := ∀ a o, ¬ W a → H2 a = some o → H a = some o
def Yl (W : Addr → Prop) (H2 : Hp) (ds : List PyData) (i : Nat) (H : Hp) (x : V) (H' : Hp) : Prop :=
  (∃ d, ds[i]? = some d ∧ H' = H ∧ Dq W H2 x d) ∨ (∃ T x1 x2 d1 d2, x = .ref T ∧ H T = none ∧ H' = upd H T (.tup [x1, x2]) ∧ ds[i]? = some (.tuple [d1, d2]) ∧ Dq W H2 x1 d1 ∧ Dq W H2 x2 d2)
abbrev Its (W : Addr → Prop) (H2 : Hp) (ds : List PyData) (J : It) : Prop := Walk J ds.length (Good W H2) (Yl W H2 ds)
def IT (B : Fr) (env : List Ent) (wi : TI) (Q : List PyData → Prop) : Prop := ∀ (O : Lk) (σ : L2.St) (H : Hp), (B.lock O).J H → Slots (B.lock O).W O H σ env → ∀ R : It → Hp → Prop,
  (∀ ds J H2, Q ds → Gro (B.lock O) H H2 → Its (B.lock O).W H2 ds J → R J H2) → wi σ H R
section
variable {B : Fr} {env : List Ent} {te : TE} {ta : TA} {Q : List PyData → Prop} {K : PySem.W.Frag}
theorem its_list {W : Addr → Prop} {H2 : Hp} {a : Addr} {xs : List V} {ds : List PyData} (w : ¬ W a) (e : H2 a = some (.lst xs)) (k : DqA W H2 xs ds) : Its W H2 ds (Itl K a) := by
  unfold Its
  rw [← k.len]
  refine (walk_list (K := K) (a := a) (xs := xs)).mono (fun H g => SqL.of (g a _ w e)) fun i H x H' hi g y => ?_
  obtain ⟨d, e1, q⟩ := k.getV y.2
  exact .inl ⟨d, e1, y.1, q⟩
theorem its_tup {W : Addr → Prop} {H2 : Hp} {a : Addr} {xs : List V} {ds : List PyData} (w : ¬ W a) (e : H2 a = some (.tup xs)) (k : DqA W H2 xs ds) : Its W H2 ds (Itt K a) := by
  unfold Its
  rw [← k.len]
  refine (walk_tup (K := K) (a := a) (xs := xs)).mono (fun H g => SqT.of (g a _ w e)) fun i H x H' hi g y => ?_
  obtain ⟨d, e1, q⟩ := k.getV y.2
  exact .inl ⟨d, e1, y.1, q⟩
theorem it_list (h : EW B env te fun d => ∃ ds, d = .list ds ∧ Q ds) : IT B env (iList K te) Q := fun O σ H j s R r =>
  h O σ H j s _ fun d v H2 ⟨ds, e, q⟩ g k => by
    subst e
    cases k with
    | lst w e ha => exact ⟨_, rfl, ⟨_, SqL.of e⟩, r ds _ H2 q g (its_list w e ha)⟩
theorem it_tup (h : EW B env te fun d => ∃ ds, d = .tuple ds ∧ Q ds) : IT B env (iTup K te) Q := fun O σ H j s R r =>
  h O σ H j s _ fun d v H2 ⟨ds, e, q⟩ g k => by
    subst e
    cases k with
    | tup w e ha => exact ⟨_, rfl, ⟨_, SqT.of e⟩, r ds _ H2 q g (its_tup w e ha)⟩
def rangeD (lo : Int) (n : Nat) : List PyData := (List.range n).map fun (i : Nat) => PyData.int (lo + (i : Int))
theorem its_range {W : Addr → Prop} {H2 : Hp} {lo : Int} {n : Nat} : Its W H2 (rangeD lo n) (Itr lo n) := by
  have hl : (rangeD lo n).length = n := by simp [rangeD]
  unfold Its
  rw [hl]
  refine (walk_range (lo := lo) (n := n)).mono (fun _ _ => trivial) fun i H x H' hi g y => ?_
  refine .inl ⟨.int (lo + i), ?_, y.1, ?_⟩
  · simp [rangeD, hi]
  · rw [y.2]; exact .int _
theorem it_range1 (h : EA B env ta (AllD fun es => ∃ n : Int, es = [.int n] ∧ -(2 ^ 62) ≤ n ∧ n < 2 ^ 62 ∧ Q (rangeD 0 n.toNat))) : IT B env (iRng1 ta) Q := fun O σ H j s R r =>
  h O σ H j s _ fun es vs H2 ⟨ds, e, n, e2, h1, h2, q⟩ g k => by
    subst e
    subst e2
    have kk := slots_dats k
    cases kk with
    | cons k1 k2 =>
      cases k2
      cases k1
      exact ⟨n, rfl, h1, h2, r _ _ H2 q g its_range⟩
def zipD (xs ys : List PyData) : List PyData := List.zipWith (fun a b => .tuple [a, b]) xs ys
theorem zipD_get {xs ys : List PyData} {i : Nat} {a b : PyData} (h1 : xs[i]? = some a) (h2 : ys[i]? = some b) : (zipD xs ys)[i]? = some (.tuple [a, b]) := by
  simp [zipD, List.getElem?_zipWith, h1, h2]
theorem it_enum (h : EA B env ta (AllD fun es => ∃ ds, es = [.list ds] ∧ Q (zipD (rangeD 0 ds.length) ds))) : IT B env (iEnum K ta) Q := fun O σ H j s R r =>
  h O σ H j s _ fun es vs H2 ⟨ds, e, ds2, e2, q⟩ g k => by
    subst e
    subst e2
    have kk := slots_dats k
    cases kk with
    | cons k1 k2 =>
      cases k2
      cases k1 with
      | @lst a xs _ w e ha =>
        refine ⟨a, xs, rfl, SqL.of e, r _ _ H2 q g ?_⟩
        have hl : (zipD (rangeD 0 ds2.length) ds2).length = xs.length := by simp [zipD, rangeD, ha.len]
        unfold Its
        rw [hl]
        refine (walk_enum (K := K) (a := a) (xs := xs)).mono (fun H g => SqL.of (g a _ w e)) fun i H x H' hi g y => ?_
        obtain ⟨T, x1, x2, e1, e2, e3, e4, e5⟩ := y
        cases e4
        obtain ⟨d, e6, q6⟩ := ha.getV e5
        refine .inr ⟨T, _, x2, .int (0 + (i : Nat)), d, e1, e2, e3, zipD_get ?_ e6, ?_, q6⟩
        · have : i < ds2.length := by rw [← ha.len]; exact hi
          simp [rangeD, this]
        · rw [Int.zero_add]; exact .int _
theorem it_zip (h : EA B env ta (AllD fun es => ∃ xs ys, (es = [.list xs, .list ys] ∨ es = [.tuple xs, .tuple ys]) ∧ Q (zipD xs ys))) : IT B env (iZipA K ta) Q := fun O σ H j s R r =>
  h O σ H j s _ fun es vs H2 ⟨ds, e, xs, ys, e2, q⟩ g k => by
    subst e
    have kk := slots_dats k
    rcases e2 with e2 | e2
    · subst e2
      cases kk with
      | cons k1 k2 =>
        cases k2 with
        | cons k2 k3 =>
          cases k3
          cases k1 with
          | @lst a us _ w e ha =>
            cases k2 with
            | @lst b vs _ w2 e2 hb =>
              refine ⟨a, b, us, vs, rfl, .inl ⟨SqL.of e, SqL.of e2, r _ _ H2 q g ?_⟩⟩
              have hl : (zipD xs ys).length = min us.length vs.length := by simp [zipD, ha.len, hb.len]
              unfold Its
              rw [hl]
              refine (walk_zip (K := K) (a := a) (b := b) (xs := us) (ys := vs) rfl).mono (fun H g => ⟨SqL.of (g a _ w e), SqL.of (g b _ w2 e2)⟩) fun i H x H' hi g y => ?_
              obtain ⟨T, x1, x2, e1, e2, e3, e4, e5⟩ := y
              obtain ⟨d, e6, q6⟩ := ha.getV e4
              obtain ⟨d2, e7, q7⟩ := hb.getV e5
              exact .inr ⟨T, x1, x2, d, d2, e1, e2, e3, zipD_get e6 e7, q6, q7⟩
    · subst e2
      cases kk with
      | cons k1 k2 =>
        cases k2 with
        | cons k2 k3 =>
          cases k3
          cases k1 with
          | @tup a us _ w e ha =>
            cases k2 with
            | @tup b vs _ w2 e2 hb =>
              refine ⟨a, b, us, vs, rfl, .inr ⟨SqT.of e, SqT.of e2, r _ _ H2 q g ?_⟩⟩
              have hl : (zipD xs ys).length = min us.length vs.length := by simp [zipD, ha.len, hb.len]
              unfold Its
              rw [hl]
              have wz : Walk (ItzT K a b) (min us.length vs.length) (fun H => SqT K H a us ∧ SqT K H b vs) (YPair (fun i => us[i]?) (fun i => vs[i]?)) := by
                refine ⟨fun i _ hi q => ?_, fun _ q => ⟨us, vs, q.1, q.2, by omega⟩, fun i H v H' _ q y => ?_⟩
                · have h1 : i < us.length := by omega
                  have h2 : i < vs.length := by omega
                  exact ⟨us, vs, us[i], vs[i], q.1, q.2, by simp [h1], by simp [h2]⟩
                · obtain ⟨T, x, z, h1, h2, h3, h4, h5⟩ := y
                  exact ⟨T, x, z, h1, h2, h3, h4 us q.1, h5 vs q.2⟩
              refine wz.mono (fun H g => ⟨SqT.of (g a _ w e), SqT.of (g b _ w2 e2)⟩) fun i H x H' hi g y => ?_
              obtain ⟨T, x1, x2, e1, e2, e3, e4, e5⟩ := y
              obtain ⟨d, e6, q6⟩ := ha.getV e4
              obtain ⟨d2, e7, q7⟩ := hb.getV e5
              exact .inr ⟨T, x1, x2, d, d2, e1, e2, e3, zipD_get e6 e7, q6, q7⟩
end

/-! ### targets -/
def GW (B : Fr) (env : List Ent) (g : TG) (d : PyData) (Q : List Ent → Prop) : Prop := ∀ (Z : Lk) (H0 : Hp) (U : Addr → Prop) (O : Lk) (σ : L2.St) (H : Hp) (v : V), St B Z H0 U env O σ H → Dq (B.lock O).W H v d → ∀ R : L2.St → Hp → Prop,
  (∀ e2 σ2, Q e2 → St B Z H0 U e2 O σ2 H → R σ2 H) → g v σ H R
def GWs (B : Fr) (env : List Ent) (g : TGs) (ds : List PyData) (Q : List Ent → Prop) : Prop := ∀ (Z : Lk) (H0 : Hp) (U : Addr → Prop) (O : Lk) (σ : L2.St) (H : Hp) (vs : List V), St B Z H0 U env O σ H → DqA (B.lock O).W H vs ds → ∀ R : L2.St → Hp → Prop,
  (∀ e2 σ2, Q e2 → St B Z H0 U e2 O σ2 H → R σ2 H) → g vs σ H R
section
variable {B : Fr} {env : List Ent} {Q : List Ent → Prop} {d : PyData} {K : PySem.W.Frag}
theorem gw_name {i : Nat} (q : Q (env.set i (.dat d))) : GW B env (gName i) d Q := fun Z H0 U O σ H v s k R r => r _ _ q (s.set i k)
theorem gws_nil (q : Q env) : GWs B env gNil [] Q := fun Z H0 U O σ H vs s k R r => by
  cases k
  exact ⟨rfl, r env σ q s⟩
theorem gws_cons {g : TG} {gs : TGs} {ds : List PyData} (h : GW B env g d fun e => GWs B e gs ds Q) : GWs B env (gCons g gs) (d :: ds) Q := fun Z H0 U O σ H vs s k R r => by
  cases k with
  | @cons v vs _ _ k1 k2 => exact ⟨v, vs, rfl, h Z H0 U O σ H v s k1 _ fun e2 σ2 q s2 => q Z H0 U O σ2 H vs s2 k2 R r⟩
theorem gw_tup {gs : TGs} {n : Nat} (h : ∃ ds, d = .tuple ds ∧ ds.length = n ∧ GWs B env gs ds Q) : GW B env (gTup K n gs) d Q := fun Z H0 U O σ H v s k R r => by
  obtain ⟨ds, rfl, hl, q⟩ := h
  cases k with
  | tup w e ha => exact ⟨_, _, rfl, SqT.of e, by rw [ha.len]; exact hl, q Z H0 U O σ H _ s ha R r⟩
theorem sw_asg {te : TE} {g : TG} {P : Post} (h : EW B env te fun d => GW B env g d P.N) : SW B env (tAsg te g) P := fun Z H0 U O σ H D s e =>
  h O σ H s.j s.sl _ fun d v H2 q gr k => q Z H0 U O σ H2 v (s.gro gr) k _ fun e2 σ2 n s2 => e.nx e2 O σ2 H2 n s2
theorem sw_par {i j : Nat} {ta : TA} {P : Post} (h : EA B env ta (AllD fun ds => ∃ a b, ds = [a, b] ∧ P.N ((env.set i (.dat a)).set j (.dat b)))) : SW B env (tPar i j ta) P := fun Z H0 U O σ H D s e =>
  h O σ H s.j s.sl _ fun es vs H2 ⟨ds, e1, a, b, e2, n⟩ gr k => by
    subst e1
    subst e2
    have kk := slots_dats k
    cases kk with
    | cons k1 k2 =>
      cases k2 with
      | cons k2 k3 =>
        cases k3
        exact ⟨_, _, rfl, e.nx _ O _ H2 n (((s.gro gr).set i k1).set j k2)⟩
end

/-! ### for -/
section
variable {B : Fr} {Z : Lk} {H0 H2 H3 : Hp} {U : Addr → Prop} {env e3 : List Ent} {O O3 : Lk} {σ σ3 : L2.St}
theorem St.old (s : St B Z H0 U env O σ H2) {a : Addr} (h : H2 a = none) : Z a ≠ none ∨ U a ∨ H0 a = none := by
  cases q : H0 a with
  | none => exact .inr (.inr rfl)
  | some o =>
    by_cases hu : U a
    · exact .inr (.inl hu)
    · cases qz : Z a with
      | some o' => exact .inl nofun
      | none =>
        by_cases hb : B.W a
        · exact absurd h (B.dom H2 a s.j.1 hb)
        · have := s.keep a o hb qz hu q
          rw [h] at this
          cases this
theorem St.back (s : St B Z H0 U env O σ H2) (t : St B Z H2 (fun a => O a ≠ none) e3 O3 σ3 H3) : St B Z H0 U e3 O3 σ3 H3 :=
  ⟨t.j, t.sl, t.nd, t.z, fun a o hb hz hu h0 => t.keep a o hb hz (fun ho => (s.dom a ho).elim (fun x => x hz) fun x => x.elim hu fun y => by rw [h0] at y; cases y) (s.keep a o hb hz hu h0),
    fun a ho => by
      rcases t.dom a ho with x | x | x
      · exact .inl x
      · exact s.dom a x
      · exact s.old x⟩
theorem St.backR (s : St B Z H0 U env O σ H2) (t : Rt B Z H2 (fun a => O a ≠ none) H3) : Rt B Z H0 U H3 :=
  ⟨t.1, fun a o hb hz hu h0 => t.2 a o hb hz (fun ho => (s.dom a ho).elim (fun x => x hz) fun x => x.elim hu fun y => by rw [h0] at y; cases y) (s.keep a o hb hz hu h0)⟩
theorem St.inner (s : St B Z H0 U env O σ H2) : St B Z H2 (fun a => O a ≠ none) env O σ H2 := ⟨s.j, s.sl, s.nd, s.z, fun _ _ _ _ _ e => e, fun _ x => .inr (.inl x)⟩
/-- what the walked thing leans on stays -/
theorem St.good (s : St B Z H0 U env O σ H2) (t : St B Z H2 (fun a => O a ≠ none) e3 O3 σ3 H3) {a : Addr} {o : HO} (w : ¬ (B.lock O).W a) (e : H2 a = some o) : ¬ (B.lock O3).W a ∧ H3 a = some o := by
  have hz : Z a = none := by
    cases q : Z a with
    | none => rfl
    | some o' => exact absurd (Or.inr (by rw [(s.z a o' q).1]; exact nofun)) w
  have ho : ¬ O a ≠ none := fun x => w (.inr x)
  refine ⟨fun w3 => ?_, t.keep a o (fun x => w (.inl x)) hz ho e⟩
  rcases w3 with x | x
  · exact w (.inl x)
  · rcases t.dom a x with y | y | y
    · exact y hz
    · exact ho y
    · rw [e] at y; cases y
theorem sw_for {wi : TI} {g : TG} {tb : TS} {P : Post} (h : IT B env wi fun ds => ∃ Iv : Nat → List Ent → Prop, Iv 0 env ∧
    (∀ i d e, ds[i]? = some d → Iv i e → GW B e g d fun e2 => SW B e2 tb ⟨Iv (i + 1), P.R, P.N, Iv (i + 1)⟩) ∧ ∀ e, Iv ds.length e → P.N e) : SW B env (tFor wi g tb) P := fun Z H0 U O σ H D s e => by
  refine h O σ H s.j s.sl _ fun ds J H2 ⟨Iv, h0, hs, hd⟩ gr w => ?_
  have s2 := s.gro gr
  refine for_it w (fun i σ H => ∃ e O3, Iv i e ∧ St B Z H2 (fun a => O a ≠ none) e O3 σ H) ⟨env, O, h0, s2.inner⟩ (fun i σ H _ ⟨e3, O3, _, t⟩ a o w q => (s2.good t w q).2) (fun i x σ3 H3 H4 hi ⟨e3, O3, inv, t⟩ y => ?_) (fun σ3 H3 ⟨e3, O3, inv, t⟩ => e.nx _ O3 _ _ (hd e3 inv) (s2.back t))
  have mv : ∀ a o, ¬ (B.lock O).W a → H2 a = some o → ¬ (B.lock O3).W a ∧ H3 a = some o := fun a o w q => s2.good t w q
  have ends : EndOk B Z H2 (fun a => O a ≠ none) ⟨Iv (i + 1), P.R, P.N, Iv (i + 1)⟩ { D with nx := fun σ H => ∃ e O3, Iv (i + 1) e ∧ St B Z H2 (fun a => O a ≠ none) e O3 σ H, ct := fun σ H => ∃ e O3, Iv (i + 1) e ∧ St B Z H2 (fun a => O a ≠ none) e O3 σ H, bk := D.nx } :=
    ⟨fun v O5 σ5 H5 n t5 => ⟨v, O5, n, t5⟩, fun d v H5 r t5 k => e.rt d v H5 r (s2.backR t5) k, fun v O5 σ5 H5 n t5 => e.nx v O5 σ5 H5 n (s2.back t5), fun v O5 σ5 H5 n t5 => ⟨v, O5, n, t5⟩⟩
  rcases y with ⟨d, e1, e2, k⟩ | ⟨T, x1, x2, d1, d2, e1, e2, e3', e4, k1, k2⟩
  · subst e2
    exact hs i d e3 e1 inv Z H2 _ O3 σ3 _ x t (Dq.to mv d x k) _ fun e5 σ5 q5 t5 => q5 Z H2 _ O3 σ5 _ _ t5 ends
  · subst e1
    subst e3'
    have g4 : Gro (B.lock O3) H3 (upd H3 T (.tup [x1, x2])) := .new t.j e2
    have nT := Fr.fresh t.j e2
    have k5 : Dq (B.lock O3).W (upd H3 T (.tup [x1, x2])) (.ref T) (.tuple [d1, d2]) := .tup nT upd_same (.cons ((Dq.to mv d1 x1 k1).gro g4) (.cons ((Dq.to mv d2 x2 k2).gro g4) .nil))
    exact hs i _ e3 e4 inv Z H2 _ O3 σ3 _ _ (t.gro g4) k5 _ fun e5 σ5 q5 t5 => q5 Z H2 _ O3 σ5 _ _ t5 ends
theorem sw_while {c : TT} {tb : TS} {P : Post} (h : ∃ Iv : Nat → List Ent → Prop, (∃ m, Iv m env) ∧ ∀ m e, Iv m e → TW B e c fun b =>
    if b = true then SW B e tb ⟨fun e' => ∃ m', m' < m ∧ Iv m' e', P.R, P.N, fun e' => ∃ m', m' < m ∧ Iv m' e'⟩ else P.N e) : SW B env (tWhile c tb) P := fun Z H0 U O σ H D s e => by
  obtain ⟨Iv, ⟨m0, h0⟩, hs⟩ := h
  refine ⟨fun m σ H => ∃ e O3, Iv m e ∧ St B Z H0 U e O3 σ H, ⟨m0, env, O, h0, s⟩, fun m σ3 H3 ⟨e3, O3, inv, t⟩ => ?_⟩
  refine hs m e3 inv O3 σ3 H3 t.j t.sl _ fun b H4 q g => ?_
  cases b with
  | true =>
    rw [if_pos rfl]
    rw [if_pos rfl] at q
    refine ⟨fun σ' H' => ∃ m', m' < m ∧ ∃ e O3, Iv m' e ∧ St B Z H0 U e O3 σ' H', fun σ' H' z => z, q Z H0 U O3 σ3 H4 _ (t.gro g) ⟨fun v O5 σ5 H5 ⟨m', hm, n⟩ t5 => ⟨m', hm, v, O5, n, t5⟩, e.rt, e.nx, fun v O5 σ5 H5 ⟨m', hm, n⟩ t5 => ⟨m', hm, v, O5, n, t5⟩⟩⟩
  | false =>
    rw [if_neg Bool.false_ne_true]
    rw [if_neg Bool.false_ne_true] at q
    exact e.nx e3 O3 σ3 H4 q (t.gro g)
end

/-! ### comprehensions -/
def wipeE (env : List Ent) : List Nat → List Ent
  | [] => env
  | v :: vs => (wipeE env vs).set v .non
theorem wipe_set {σ : L2.St} {i : Nat} {x : Option V} : ∀ {vs : List Nat}, i ∈ vs → wipe (σ.set i x) vs = wipe σ vs := by
  have gen : ∀ vs : List Nat, wipe (σ.set i x) vs = if i ∈ vs then wipe σ vs else (wipe σ vs).set i x := by
    intro vs
    induction vs with
    | nil => simp [wipe]
    | cons v vs ih =>
      show (wipe (σ.set i x) vs).set v none = _
      rw [ih]
      by_cases h : i ∈ vs
      · rw [if_pos h, if_pos (List.mem_cons_of_mem _ h)]; rfl
      · rw [if_neg h]
        by_cases e : i = v
        · subst e
          rw [if_pos List.mem_cons_self, List.set_set]; rfl
        · rw [if_neg (by intro z; rcases List.mem_cons.mp z with q | q; exact e q; exact h q), List.set_comm _ _ (by exact e)]; rfl
  intro vs h
  rw [gen, if_pos h]
theorem wipe_wipe {σ : L2.St} {vs : List Nat} : wipe (wipe σ vs) vs = wipe σ vs := by
  have gen : ∀ us : List Nat, (∀ i ∈ us, i ∈ vs) → wipe (wipe σ us) vs = wipe σ vs := by
    intro us
    induction us with
    | nil => intro _; rfl
    | cons v us ih =>
      intro h
      show wipe ((wipe σ us).set v none) vs = _
      rw [wipe_set (h v List.mem_cons_self), ih fun i hi => h i (List.mem_cons_of_mem _ hi)]
  exact gen vs fun _ h => h
theorem Slots.wipe {W : Addr → Prop} {O : Lk} {H : Hp} {σ : L2.St} {env : List Ent} (h : Slots W O H σ env) : ∀ vs : List Nat, Slots W O H (L2.wipe σ vs) (wipeE env vs)
  | [] => h
  | v :: vs => (Slots.wipe h vs).set v trivial
def GC (B : Fr) (vs : List Nat) (env : List Ent) (g : TG) (d : PyData) (Q : List Ent → Prop) : Prop := ∀ (O : Lk) (σ : L2.St) (H : Hp) (v : V), (B.lock O).J H → Slots (B.lock O).W O H σ env → Dq (B.lock O).W H v d → ∀ R : L2.St → Hp → Prop,
  (∀ e2 σ2, Q e2 → Slots (B.lock O).W O H σ2 e2 → wipe σ2 vs = wipe σ vs → R σ2 H) → g v σ H R
def GCs (B : Fr) (vs : List Nat) (env : List Ent) (g : TGs) (ds : List PyData) (Q : List Ent → Prop) : Prop := ∀ (O : Lk) (σ : L2.St) (H : Hp) (xs : List V), (B.lock O).J H → Slots (B.lock O).W O H σ env → DqA (B.lock O).W H xs ds → ∀ R : L2.St → Hp → Prop,
  (∀ e2 σ2, Q e2 → Slots (B.lock O).W O H σ2 e2 → wipe σ2 vs = wipe σ vs → R σ2 H) → g xs σ H R
section
variable {B : Fr} {vs : List Nat} {env : List Ent} {Q : List Ent → Prop} {d : PyData} {K : PySem.W.Frag}
theorem gc_name {i : Nat} (hi : i ∈ vs) (q : Q (env.set i (.dat d))) : GC B vs env (gName i) d Q := fun O σ H v j s k R r => r _ _ q (s.set i ⟨v, rfl, k⟩) (wipe_set hi)
theorem gcs_nil (q : Q env) : GCs B vs env gNil [] Q := fun O σ H xs j s k R r => by
  cases k
  exact ⟨rfl, r env σ q s rfl⟩
theorem gcs_cons {g : TG} {gs : TGs} {ds : List PyData} (h : GC B vs env g d fun e => GCs B vs e gs ds Q) : GCs B vs env (gCons g gs) (d :: ds) Q := fun O σ H xs j s k R r => by
  cases k with
  | @cons v us _ _ k1 k2 => exact ⟨v, us, rfl, h O σ H v j s k1 _ fun e2 σ2 q s2 w => q O σ2 H us j s2 k2 R fun e3 σ3 q3 s3 w3 => r e3 σ3 q3 s3 (w3.trans w)⟩
theorem gc_tup {gs : TGs} {n : Nat} (h : ∃ ds, d = .tuple ds ∧ ds.length = n ∧ GCs B vs env gs ds Q) : GC B vs env (gTup K n gs) d Q := fun O σ H v j s k R r => by
  obtain ⟨ds, rfl, hl, q⟩ := h
  cases k with
  | tup w e ha => exact ⟨_, _, rfl, SqT.of e, by rw [ha.len]; exact hl, q O σ H _ j s ha R r⟩
theorem ew_lc {wi : TI} {g : TG} {tt : TT} {te : TE} {P : PyData → Prop} (h : IT B env wi fun ds => ds.length ≤ 100000 ∧ ∃ Iv : Nat → List PyData → Prop, Iv 0 [] ∧
    (∀ i d acc, ds[i]? = some d → Iv i acc → GC B vs (wipeE env vs) g d fun e2 => TW B e2 tt fun b => if b = true then EW B e2 te fun y => Iv (i + 1) (acc ++ [y]) else Iv (i + 1) acc) ∧
    ∀ acc, Iv ds.length acc → P (.list acc)) : EW B env (tLc wi g tt te vs) P := fun O σ H j s R r => by
  refine h O σ H j s _ fun ds J H1 ⟨hlen, Iv, h0, hs, hd⟩ gr w D hD => ?_
  have s1 := s.gro gr
  have nD : ¬ (B.lock O).W D := Fr.fresh gr.2 hD
  have oD : O D = none := by
    cases q : O D with
    | none => rfl
    | some o => exact absurd (Or.inr (by rw [q]; exact nofun)) nD
  refine lc_it w (fun i H => ∃ acc ad, H D = some (.lst acc) ∧ DqA (fun a => (B.lock O).W a ∨ a = D) H acc ad ∧ Iv i ad ∧ acc.length ≤ i ∧ (∀ a o, ¬ (B.lock O).W a → H1 a = some o → H a = some o) ∧ (B.lock O).J H)
    ⟨[], [], upd_same, .nil, h0, Nat.le_refl _, fun a o w q => by rw [upd_ne (ne_of_none q hD)]; exact q, (Gro.new gr.2 hD).2⟩ (fun i H hi ⟨_, _, _, _, _, _, k, _⟩ a o w q => k a o w q) (fun i x H3 H4 hi ⟨acc, ad, e1, ka, inv, hl, kp, jj⟩ y => ?_) (fun H3 ⟨acc, ad, e1, ka, inv, hl, kp, jj⟩ => ?_)
  · -- one turn: the new list is locked meanwhile
    let O2 : Lk := fun a => if a = D then some (.lst acc) else O a
    have o2 : ∀ a, a ≠ D → O2 a = O a := fun a ha => if_neg ha
    have o2D : O2 D = some (.lst acc) := if_pos rfl
    have w2 : ∀ a, ¬ (B.lock O).W a → a ≠ D → ¬ (B.lock O2).W a := fun a w ha x => w (x.elim .inl fun z => .inr (by rw [← o2 a ha]; exact z))
    have w2' : ∀ a, ¬ (B.lock O2).W a → ¬ (B.lock O).W a ∧ a ≠ D := fun a w => by
      have ha : a ≠ D := fun z => w (.inr (by rw [z, o2D]; exact nofun))
      exact ⟨fun x => w (x.elim .inl fun z => .inr (by rw [o2 a ha]; exact z)), ha⟩
    have jO2 : ∀ H5 : Hp, (B.lock O).J H5 → H5 D = some (.lst acc) → (B.lock O2).J H5 := fun H5 j5 e5 => ⟨j5.1, fun a o q => by
      by_cases ha : a = D
      · subst ha
        rw [o2D] at q
        cases q
        exact ⟨fun z => nD (.inl z), e5⟩
      · rw [o2 a ha] at q
        exact j5.2 a o q⟩
    have mv : ∀ a o, ¬ (B.lock O).W a → H1 a = some o → ¬ (B.lock O2).W a ∧ H3 a = some o := fun a o w q => ⟨w2 a w (ne_of_none q hD), kp a o w q⟩
    have fin : ∀ (H5 : Hp) (x : V) (d : PyData), (B.lock O2).J H5 → (∀ a o, ¬ (B.lock O2).W a → H3 a = some o → H5 a = some o) → ds[i]? = some d → Dq (B.lock O2).W H5 x d →
        g x (wipe σ vs) H5 fun σ2 H2 => wipe σ2 vs = wipe σ vs ∧ tt σ2 H2 fun b H3 => if b = true then te σ2 H3 fun y H4 => ∃ acc, H4 D = some (.lst acc) ∧ acc.length < sizeLine ∧ (∃ acc2 ad, (upd H4 D (.lst (acc ++ [y]))) D = some (.lst acc2) ∧ DqA (fun a => (B.lock O).W a ∨ a = D) (upd H4 D (.lst (acc ++ [y]))) acc2 ad ∧ Iv (i + 1) ad ∧ acc2.length ≤ i + 1 ∧ (∀ a o, ¬ (B.lock O).W a → H1 a = some o → (upd H4 D (.lst (acc ++ [y]))) a = some o) ∧ (B.lock O).J (upd H4 D (.lst (acc ++ [y]))))
          else ∃ acc2 ad, H3 D = some (.lst acc2) ∧ DqA (fun a => (B.lock O).W a ∨ a = D) H3 acc2 ad ∧ Iv (i + 1) ad ∧ acc2.length ≤ i + 1 ∧ (∀ a o, ¬ (B.lock O).W a → H1 a = some o → H3 a = some o) ∧ (B.lock O).J H3 := by
      intro H5 x d j5 k5 ed kx
      have sl5 : Slots (B.lock O2).W O2 H5 (wipe σ vs) (wipeE env vs) := by
        refine Slots.wipe ?_ vs
        exact s1.to (fun a o w q => ⟨(mv a o w q).1, k5 a o (mv a o w q).1 (mv a o w q).2⟩) fun a ha => o2 a (fun z => (s1.own_in ha) (z ▸ oD))
      have ka5 : DqA (B.lock O2).W H5 acc ad := DqA.to (fun a o w q => by
        have n1 : ¬ (B.lock O).W a := fun z => w (.inl z)
        have n2 : a ≠ D := fun z => w (.inr z)
        exact ⟨w2 a n1 n2, k5 a o (w2 a n1 n2) q⟩) ad acc ka
      have back : ∀ H6 : Hp, Gro (B.lock O2) H5 H6 → H6 D = some (.lst acc) ∧ (∀ a o, ¬ (B.lock O).W a → H1 a = some o → H6 a = some o) ∧ (B.lock O).J H6 ∧ DqA (B.lock O2).W H6 acc ad := fun H6 g6 => by
        refine ⟨(g6.2.2 D _ o2D).2, fun a o w q => g6.1 a o (mv a o w q).1 (k5 a o (mv a o w q).1 (mv a o w q).2), ⟨g6.2.1, fun a o q => ?_⟩, ka5.gro g6⟩
        have ha : a ≠ D := fun z => by subst z; rw [oD] at q; cases q
        exact g6.2.2 a o ((o2 a ha).trans q)
      refine hs i d ad ed inv O2 (wipe σ vs) H5 x j5 sl5 kx _ fun e2 σ2 q2 sl2 wp => ⟨wp.trans wipe_wipe, q2 O2 σ2 H5 j5 sl2 _ fun b H6 q6 g6 => ?_⟩
      cases b with
      | false =>
        rw [if_neg Bool.false_ne_true]
        rw [if_neg Bool.false_ne_true] at q6
        obtain ⟨b1, b2, b3, b4⟩ := back H6 g6
        exact ⟨acc, ad, b1, DqA.to (fun a o w q => ⟨fun z => z.elim (w2' a w).1 (w2' a w).2, q⟩) ad acc b4, q6, Nat.le_succ_of_le hl, b2, b3⟩
      | true =>
        rw [if_pos rfl]
        rw [if_pos rfl] at q6
        refine q6 O2 σ2 H6 g6.2 (sl2.gro g6) _ fun y v7 H7 q7 g7 k7 => ?_
        obtain ⟨b1, b2, b3, b4⟩ := back H7 (g6.trans g7)
        have mvu : ∀ a o, ¬ (B.lock O2).W a → H7 a = some o → ¬ ((B.lock O).W a ∨ a = D) ∧ (upd H7 D (.lst (acc ++ [v7]))) a = some o := fun a o w q => ⟨fun z => z.elim (w2' a w).1 (w2' a w).2, by rw [upd_ne (w2' a w).2]; exact q⟩
        refine ⟨acc, b1, Nat.lt_of_le_of_lt hl (Nat.lt_of_lt_of_le (Nat.lt_of_lt_of_le hi hlen) (by decide)), acc ++ [v7], ad ++ [y], upd_same, (DqA.to mvu ad acc b4).append (.cons (Dq.to mvu y v7 k7) .nil), q7, ?_, fun a o w q => by rw [upd_ne (ne_of_none q hD)]; exact b2 a o w q, (B.lock O).loc H7 _ (fun a w => upd_ne (fun z => nD (z ▸ w))) b3⟩
        rw [List.length_append, List.length_singleton]
        omega
    rcases y with ⟨d, e2, e3, k⟩ | ⟨T, x1, x2, d1, d2, e2, e3, e4, e5, k1, k2⟩
    · subst e3
      exact fin _ x d (jO2 _ jj e1) (fun _ _ _ q => q) e2 (Dq.to mv d x k)
    · subst e2
      subst e4
      have jz := jO2 _ jj e1
      have g4 : Gro (B.lock O2) H3 (upd H3 T (.tup [x1, x2])) := .new jz e3
      have nT := Fr.fresh jz e3
      exact fin _ _ _ g4.2 g4.1 e5 (.tup nT upd_same (.cons ((Dq.to mv d1 x1 k1).gro g4) (.cons ((Dq.to mv d2 x2 k2).gro g4) .nil)))
  · refine r _ _ H3 (hd ad inv) ⟨fun a o w q => kp a o w (gr.1 a o w q), jj⟩ (.lst nD e1 (DqA.to (fun a o w q => ⟨fun z => w (.inl z), q⟩) ad acc ka))
/-- each item made by itself: f -/
theorem ew_lcMap {wi : TI} {g : TG} {te : TE} {P : PyData → Prop} (f : PyData → PyData) (h : IT B env wi fun ds => ds.length ≤ 100000 ∧
    (∀ d, d ∈ ds → GC B vs (wipeE env vs) g d fun e2 => EW B e2 te fun y => y = f d) ∧ P (.list (ds.map f))) : EW B env (tLc wi g tYes te vs) P := by
  refine ew_lc fun O σ H j s R r => h O σ H j s R fun ds J H2 ⟨hl, hs, hp⟩ gr w => r ds J H2 ⟨hl, fun i acc => acc = (ds.take i).map f, rfl, fun i d acc e inv => ?_, fun acc inv => ?_⟩ gr w
  · intro O σ H v j s k R r
    refine hs d (List.mem_of_getElem? e) O σ H v j s k R fun e2 σ2 q s2 w2 => r e2 σ2 (tw_yes ?_) s2 w2
    rw [if_pos rfl]
    refine q.mono fun y hy => ?_
    subst inv
    rw [hy, List.take_add_one, e, List.map_append]
    rfl
  · subst inv
    rw [List.take_length]
    exact hp
/-- .. or drawn: each is G -/
theorem ew_lcAll {wi : TI} {g : TG} {te : TE} {P : PyData → Prop} (G : PyData → Prop) (h : IT B env wi fun ds => ds.length ≤ 100000 ∧
    (∀ d, d ∈ ds → GC B vs (wipeE env vs) g d fun e2 => EW B e2 te G) ∧ ∀ acc : List PyData, acc.length = ds.length → (∀ y, y ∈ acc → G y) → P (.list acc)) : EW B env (tLc wi g tYes te vs) P := by
  refine ew_lc fun O σ H j s R r => h O σ H j s R fun ds J H2 ⟨hl, hs, hp⟩ gr w => r ds J H2 ⟨hl, fun i acc => acc.length = i ∧ ∀ y, y ∈ acc → G y, ⟨rfl, fun _ h => by cases h⟩, fun i d acc e inv => ?_, fun acc inv => ?_⟩ gr w
  · intro O σ H v j s k R r
    refine hs d (List.mem_of_getElem? e) O σ H v j s k R fun e2 σ2 q s2 w2 => r e2 σ2 (tw_yes ?_) s2 w2
    rw [if_pos rfl]
    refine q.mono fun y hy => ⟨by rw [List.length_append, List.length_singleton, inv.1], fun z hz => ?_⟩
    rcases List.mem_append.mp hz with m | m
    · exact inv.2 z m
    · have : z = y := by simpa using m
      subst this
      exact hy
  · exact hp acc inv.1 inv.2
end

/-! ### a def -/
theorem slots_len {W : Addr → Prop} {O : Lk} {H : Hp} {vs : List V} {es : List Ent} (h : Slots W O H (vs.map some) es) : vs.length = es.length := by
  induction es generalizing vs with
  | nil => cases vs with
    | nil => rfl
    | cons _ _ => exact h.elim
  | cons e es ih => cases vs with
    | nil => exact h.elim
    | cons v vs => rw [List.length_cons, List.length_cons, ih h.2]
theorem slots_app {W : Addr → Prop} {O : Lk} {H : Hp} {vs : List V} {es : List Ent} (n : Nat) (h : Slots W O H (vs.map some) es) : Slots W O H (vs.map some ++ List.replicate n none) (es ++ List.replicate n .non) := by
  induction es generalizing vs with
  | nil => cases vs with
    | nil =>
      show Slots _ _ _ (List.replicate n none) (List.replicate n .non)
      clear h
      induction n with
      | zero => trivial
      | succ n ih => exact ⟨trivial, ih⟩
    | cons _ _ => exact h.elim
  | cons e es ih => cases vs with
    | nil => exact h.elim
    | cons v vs => exact ⟨h.1, ih h.2⟩
theorem owned_app (es : List Ent) (n : Nat) : owned (es ++ List.replicate n .non) = owned es := by
  induction es with
  | nil => induction n with
    | zero => rfl
    | succ n ih => exact ih
  | cons e es ih => cases e <;> first | exact ih | (show _ :: owned (es ++ List.replicate n .non) = _; rw [ih]; rfl)
/-- from a body's reading over data to its reading over the heap -/
theorem sp_run {B : Fr} {O : Lk} {es : List Ent} {R : PyData → Prop} {H : Hp} {vs : List V} {Q : VK} {N ps : List Str} {t : TS} (hl : es.length = ps.length) (no : owned es = []) (j : (B.lock O).J H) (sl : Slots (B.lock O).W O H (vs.map some) es)
    (q : ∀ d v H2, R d → Gro (B.lock O) H H2 → Dq (B.lock O).W H2 v d → Q v H2) (hw : SW B (es ++ List.replicate (N.length - ps.length) .non) t ⟨fun _ => R .none, R, fun _ => False, fun _ => False⟩) :
    t { nx := fun _ H' => Q .non H', rt := Q } (L2.start N vs) H := by
  have back : ∀ H2, Rt B O H (fun _ => False) H2 → Gro (B.lock O) H H2 := fun H2 r2 => ⟨fun a o w e => r2.2 a o (fun z => w (.inl z)) (by
      cases z : O a with
      | none => rfl
      | some o' => exact absurd (Or.inr (by rw [z]; exact nofun)) w) (fun z => z) e, r2.1⟩
  refine hw O H (fun _ => False) O (L2.start N vs) H _ ⟨j, ?_, ?_, fun a o e => ⟨e, ?_⟩, fun _ _ _ _ _ e => e, fun a e => .inl e⟩ ⟨fun e2 O2 σ2 H2 n s2 => q .none .non H2 n (back H2 s2.rt) .non, fun d v H2 n r2 k2 => q d v H2 n (back H2 r2) k2, fun _ _ _ _ z => z.elim, fun _ _ _ _ z => z.elim⟩
  · have l1 : vs.length = ps.length := (slots_len sl).trans hl
    unfold L2.start
    rw [l1]
    exact slots_app _ sl
  · rw [owned_app, no]
    exact List.nodup_nil
  · rw [owned_app, no]
    exact nofun
theorem fn_dl {P : Program} {w : World} {K : PySem.W.Frag} {mg : Str → Option Value} {base : Heap} {x qual : Str} {st : Stmt} {f : Addr} {fd : FuncData} {N ps : List Str} {k : Nat} {m : Fr → List Ent → (PyData → Prop) → Prop}
    (F : Fun K x qual st f fd) (S : FnScope N ps (defScope st)) (len : ∀ B es R, m B es R → es.length = ps.length)
    (body : ∀ (cdv : Value) (A : Around) (outer : List Env) (s : Shared) (H : Hp) (E : XK), Room k (A.deeper (envOfC qual (defScope st) s.heap.objs.size f cdv)) → ∀ (B : Fr) (es : List Ent) (R : PyData → Prop), m B es R →
      ∃ t, PSs (cxOf CX0 P w K mg base N qual (defScope st) f cdv A outer s H E).nox (defBody st) t ∧ SW B (es ++ List.replicate (N.length - ps.length) .non) t ⟨fun _ => R .none, R, fun _ => False, fun _ => False⟩) :
    FnOk P w K mg base CX0 (k + 1) f fd ps (spG m) := by
  refine F.ok S (fun vs H Q E ⟨B, O, es, R, hm, _, _, sl, _⟩ => (slots_len sl).trans (len B es R hm)) fun cdv A outer s H vs Q E hr ⟨B, O, es, R, hm, no, j, sl, q⟩ => ?_
  obtain ⟨t, ht, hw⟩ := body cdv A outer s H E hr B es R hm
  exact ⟨t, ht, sp_run (len B es R hm) no j sl q hw⟩

/-! ### what a def of the module is, for its callers -/
def Has (P : Program) (w : World) (K : PySem.W.Frag) (mg : Str → Option Value) (base : Heap) (x : Str) (k : Nat) (ps : List Str) (sp : Sp) : Prop :=
  ∃ f fd, FnOk P w K mg base CX0 k f fd ps sp ∧ mg x = some (.ref f) ∧ PySem.W.keepIn K (.ref f) = true ∧ Binds K fd ps []
theorem Has.call {X : Cx} {x : Str} {k j : Nat} {ps : List Str} {sp : Sp} {p pos : Pos} {e : Expr} {es : List Expr} {t : TA} (h : Has X.prog X.w X.K X.mg X.base x k ps sp) (hr : Room j X.A) (ha : PA X (e :: es) t) (hk : k ≤ j := by decide) (hg : Gl X x := by rfl)
    (hdb : (x == ("__debug__" : Str)) = false := by decide) (he : starEach (e :: es) X.env = (false, eval e X.env) :: starEach es X.env := by rfl) (hpl : (backTo pos (starEach es X.env)).any (·.1) = false := by rfl) :
    PE X (.Call (.Name x p) (e :: es) [] pos) (tCall sp [] E0 t) := by
  obtain ⟨f, fd, F, m, kp, b⟩ := h
  exact pe_call F (hr.mono hk) hg m kp b .nil pass0 ha hdb he hpl
end Dl
end
section
set_option Elab.async false
set_option linter.all false
set_option maxRecDepth 100000
/-! repr of data at any depth, ints of up to 4,200 figures: the limit of figures is known from the top's statics -/
namespace Dl
open PySem L2 PySem.Spec PyProof.Rows

def NoDig (h : Heap) : Prop := ∃ mc, h.Ns cStatics mc ∧ mc "sys.int_max_str_digits" = none
theorem NoDig.keeps {h h' : Heap} (n : NoDig h) (k : ∀ b o, h.get? b = some o → h'.get? b = some o) : NoDig h' := by
  obtain ⟨mc, a, b⟩ := n
  exact ⟨mc, a.keeps k, b⟩
section
variable {prog : Program} {w : World} {A : Around} {E : Value → Shared → Prop} {s : Shared}
theorem digits_none {a : Int} {Q : Option Nat → Shared → Prop} (n : NoDig s.heap) (ha : a.natAbs.log2 < 12900) (h : Q none s) : wpAny (model prog w) A (Builtin.overDigitLimit? a) Q E s := by
  obtain ⟨mc, hn, hm⟩ := n
  unfold Builtin.overDigitLimit?
  by_cases h0 : a.natAbs.log2 < 1920
  · rw [if_pos h0]
    exact wpAny_pure h
  · rw [if_neg h0]
    refine wpAny_bind (m := Builtin.intMaxStrDigits) ?_
    unfold Builtin.intMaxStrDigits
    refine wpAny_bind (wpAny_nsGet hn ?_)
    rw [hm]
    refine wpAny_pure ?_
    have h1 : ¬ (a.natAbs.log2 / 30 + 1 > 1000) := by omega
    have h2 : a.natAbs.log2 < 3 * 4300 := by omega
    simp only [h1, if_false, h2, decide_true, Bool.or_true, if_true]
    exact wpAny_pure h
theorem int_repr_big {a : Int} {t : Tok} {Q : Fin → Shared → Prop} (n : NoDig s.heap) (ha : a.natAbs.log2 < 12900) (h : Q (.done (.ret (.str (toString a) s.toks))) { s with toks := s.toks + 1 }) :
    wpAny (model prog w) A (Builtin.«int.__repr__» ⟨[.int a t], []⟩) Q E s := by
  have hsz : (Str.ofString (toString a)).length ≤ sizeLine := by
    have e := int_text_length_le (k := 12900) (by decide) ha
    rw [PySem.ofString_length, sizeLine_eq]
    omega
  unfold Builtin.«int.__repr__»
  show wpAny _ A (do let r ← Builtin.overDigitLimit? a; _) Q E s
  refine wpAny_bind (digits_none n ha ?_)
  show wpAny _ A (do let v ← mkStr (Str.ofString (toString a)); _) Q E s
  exact wpAny_bind (wpAny_mkStr (wpAny_pure h) hsz)
theorem reprObj_big {a : Int} {t : Tok} {Q : Value → Shared → Prop} (n : NoDig s.heap) (hu : A.units < cLine) (ha : a.natAbs.log2 < 12900) (h : ∀ tk u, Q (.str (toString a) u) { s with toks := tk }) : wpAny (model prog w) A (pyReprObj (.int a t)) Q E s := by
  refine wpAny_pyReprObj_slot hu (typeIs_int s a t) F.slot_int_repr.toG (wpAny_call (codeAny_call_builtin F.slot_int_repr.plain F.entry_int_repr (F.slot_int_repr.check _ _ _ _ _ _ _ _ (typeIs_int s a t) (F.args_int_repr_1 _) (int_repr_big n ha ?_))))
  exact ⟨_, _, rfl, h _ _⟩
end
theorem reprK_int {prog : Program} {w : World} {as : List Addr} {h₀ : Heap} {d : Nat} {a : Int} {t : Tok} (n : NoDig h₀) (ha : a.natAbs.log2 < 12900) : ReprK prog w as h₀ d (.int a t) (toString a) := by
  intro base hb A g E s Q _ _ hu hk hQ
  rw [pyReprUnder_leaf (v := .int a t) (by omega) (fun _ e => nomatch e)]
  unfold pyRepr
  exact wpAny_bind (reprObj_big (n.keeps hk) (by omega) ha fun tk u => wpAny_pure (hQ s.heap tk fun _ _ e => e))

/-- data that may be shown -/
def Shw : PyData → Prop
  | .int i => i.natAbs.log2 < 12900
  | .list xs => ∀ x ∈ xs, Shw x
  | .tuple xs => ∀ x ∈ xs, Shw x
  | .dict _ => False
  | _ => True
mutual
theorem reprK_of {prog : Program} {w : World} {h₀ : Heap} (n : NoDig h₀) : ∀ {v : Value} {d : PyData} {as : List Addr}, Reads h₀ v d as → Shw d → d.shown.length ≤ sizeLine → ∃ bs, ReadAtMost h₀ d.depth bs ∧ ReprK prog w bs h₀ d.depth v d.shown
  | _, _, _, .none, _, _ => ⟨[], nofun, ReprK.of_is ReprIs.none _ _ _⟩
  | _, _, _, .bool b, _, _ => ⟨[], nofun, by rw [PyData.shown]; exact ReprK.of_is (ReprIs.bool b) _ _ _⟩
  | _, _, _, .int i t, hs, _ => ⟨[], nofun, by rw [PyData.shown]; exact reprK_int n (by unfold Shw at hs; exact hs)⟩
  | _, _, _, .str x t, _, hz => ⟨[], nofun, by rw [PyData.shown] at hz ⊢; exact ReprK.of_is (ReprIs.str x t hz) _ _ _⟩
  | _, _, _, .list (a := a) (vs := vs) (xs := xs) h1 h2 h3 h4, hs, hz => by
    unfold Shw at hs
    rw [PyData.shown] at hz
    obtain ⟨bs, hb, hk⟩ := reprKs_of n h4 hs (fun t ht => Nat.le_trans (listText_mem_le ht) hz)
    have r : Reads h₀ (.ref a) (.list xs) _ := .list h1 h2 h3 h4
    have hna : a ∉ bs := not_mem_of_deeper r (by rw [PyData.depth]; omega) hb
    refine ⟨a :: bs, ReadAtMost.cons r (by rw [PyData.depth]; omega) hb, ?_⟩
    rw [PyData.depth, PyData.shown]
    obtain ⟨l⟩ := vs
    cases l with
    | nil =>
      have z : ReadsAll h₀ [] xs _ := h4
      cases z
      rw [PyData.shownAll, listText_nil]
      exact .listEmpty h1 h2 h3
    | cons x l => exact .list h1 h2 h3 hna (by simpa using hk.length_eq) (fun i y e => hk.item i y (by simpa using e))
  | _, _, _, .tuple (a := a) (xs := xs) h1 h2 h3 h4, hs, hz => by
    unfold Shw at hs
    rw [PyData.shown] at hz
    obtain ⟨bs, hb, hk⟩ := reprKs_of n h4 hs (fun t ht => Nat.le_trans (tupleText_mem_le ht) hz)
    have r : Reads h₀ (.ref a) (.tuple xs) _ := .tuple h1 h2 h3 h4
    have hna : a ∉ bs := not_mem_of_deeper r (by rw [PyData.depth]; omega) hb
    refine ⟨a :: bs, ReadAtMost.cons r (by rw [PyData.depth]; omega) hb, ?_⟩
    rw [PyData.depth, PyData.shown]
    exact .tuple h1 h2 h3 hna hk
  | _, _, _, .dict _ _ _ _ _, hs, _ => by
    unfold Shw at hs
    exact hs.elim
theorem reprKs_of {prog : Program} {w : World} {h₀ : Heap} (n : NoDig h₀) : ∀ {vs : List Value} {ds : List PyData} {as : List Addr}, ReadsAll h₀ vs ds as → (∀ x ∈ ds, Shw x) → (∀ t ∈ PyData.shownAll ds, t.length ≤ sizeLine) →
    ∃ bs, ReadAtMost h₀ (PyData.depthAll ds) bs ∧ ReprAllK prog w bs h₀ (PyData.depthAll ds) vs (PyData.shownAll ds)
  | _, _, _, .nil, _, _ => ⟨[], nofun, by rw [PyData.shownAll]; exact .nil⟩
  | _, _, _, .cons (d := d) (ds := ds) r rs, hs, hz => by
    rw [PyData.shownAll] at hz
    obtain ⟨b1, hb1, k1⟩ := reprK_of n r (hs d List.mem_cons_self) (hz _ List.mem_cons_self)
    obtain ⟨b2, hb2, k2⟩ := reprKs_of n rs (fun x hx => hs x (List.mem_cons_of_mem _ hx)) (fun t ht => hz t (List.mem_cons_of_mem _ ht))
    refine ⟨b1 ++ b2, ?_, ?_⟩
    · rw [PyData.depthAll]
      exact (hb1.mono (Nat.le_max_left _ _)).append (hb2.mono (Nat.le_max_right _ _))
    · rw [PyData.depthAll, PyData.shownAll]
      exact .cons ((k1.more fun b hb => List.mem_append_left _ hb).level_le (Nat.le_max_left _ _)) (k2.more_le (fun b hb => List.mem_append_right _ hb) (Nat.le_max_right _ _))
end

/-- repr(d): what is written is hung on the data alone -/
def rReprB (K : PySem.W.Frag) : List V → Hp → VK → Prop := fun vs H Q => ∃ v d, vs = [v] ∧ Dp K H v d ∧ (∃ ds, d = .list ds ∨ d = .tuple ds) ∧ Shw d ∧ d.depth ≤ 50 ∧ d.shown.length ≤ sizeLine ∧ Q (.str d.shown) H
theorem call_reprB {X : Cx} (n : NoDig X.base) (hg : X.A.guards = some []) (hu : X.A.units + 64 < cLine) : CallR X (.builtin "repr") (rReprB X.K) := by
  intro pins s σ H vs us Q I r h
  obtain ⟨v, d, rfl, hd, hl, hs, hdp, hz, q⟩ := h
  cases r with
  | @cons _ u _ _ r1 rr =>
    cases rr
    obtain ⟨as, rd⟩ := Dp.reads I d v u hd r1
    have nd := n.keeps I.bk
    obtain ⟨bs, hb, hk⟩ := reprK_of (prog := X.prog) (w := X.w) nd rd hs hz
    have fin : ∀ (h' : Heap) (u : Tok) (tk : Nat), (∀ b o, s.heap.get? b = some o → h'.get? b = some o) → EP X pins σ Q (.str d.shown u) { s with heap := h', toks := tk } := fun h' u tk k => ⟨.str d.shown, H, I.kept (t' := tk) k, ⟨u, rfl⟩, q⟩
    obtain ⟨ds, hl⟩ := hl
    rcases hl with rfl | rfl
    · cases rd with
      | @list a o vs n' xs as' h1 h2 h3 h4 =>
        rw [PyData.shown] at hz fin
        unfold Shw at hs
        obtain ⟨bs, hb, hk⟩ := reprKs_of (prog := X.prog) (w := X.w) nd h4 hs (fun t ht => Nat.le_trans (listText_mem_le ht) hz)
        have r : Reads s.heap (.ref a) (.list ds) _ := .list h1 h2 h3 h4
        have hna : a ∉ bs := not_mem_of_deeper r (by rw [PyData.depth]; omega) hb
        rw [PyData.depth] at hdp
        refine call_repr_slot (T := "list") (idr := "list.__repr__") (by omega) ⟨o, h1, h2⟩ F.slot_list_repr.toG ?_
        obtain ⟨l⟩ := vs
        cases l with
        | nil =>
          have z : ReadsAll s.heap [] ds _ := h4
          cases z
          rw [PyData.shownAll, listText_nil] at fin
          exact call_list_repr_empty ⟨o, h1, h2⟩ h1 h3 ⟨_, _, rfl, fin s.heap _ _ fun _ _ e => e⟩
        | cons x l =>
          exact call_list_reprK h1 h2 h3 hna (by simpa using hk.length_eq) (fun i y e => hk.item i y (by simpa using e)) (A := X.A.in1) (g := []) hg (fun b _ => Clear.nil b) (by show X.A.units + 1 + _ < cLine; omega) (fun _ _ e => e) (fun h' u tk k => ⟨_, _, rfl, fin h' u tk k⟩) hz
    · cases rd with
      | @tuple a o vs n' xs as' h1 h2 h3 h4 =>
        rw [PyData.shown] at hz fin
        unfold Shw at hs
        obtain ⟨bs, hb, hk⟩ := reprKs_of (prog := X.prog) (w := X.w) nd h4 hs (fun t ht => Nat.le_trans (tupleText_mem_le ht) hz)
        have r : Reads s.heap (.ref a) (.tuple ds) _ := .tuple h1 h2 h3 h4
        have hna : a ∉ bs := not_mem_of_deeper r (by rw [PyData.depth]; omega) hb
        rw [PyData.depth] at hdp
        refine call_repr_slot (T := "tuple") (idr := "tuple.__repr__") (by omega) ⟨o, h1, h2⟩ F.slot_tuple_repr ?_
        exact call_tuple_reprK h1 h2 h3 hna hk (A := X.A.in1) (g := []) hg (fun b _ => Clear.nil b) (by show X.A.units + 1 + _ < cLine; omega) (fun _ _ e => e) (fun h' u tk k => ⟨_, _, rfl, fin h' u tk k⟩) hz
theorem cd_repr {K : PySem.W.Frag} {Q : PyData → Prop} {ds : List PyData} (h : ∃ d, ds = [d] ∧ (∃ xs, d = .list xs ∨ d = .tuple xs) ∧ Shw d ∧ d.depth ≤ 50 ∧ d.shown.length ≤ sizeLine ∧ Q (.str d.shown)) : CD (rReprB K) ds Q := fun F H vs j k R r => by
  obtain ⟨d, rfl, h1, h2, h3, h4, q⟩ := h
  cases k with
  | cons k1 k2 =>
    cases k2
    exact ⟨_, d, rfl, k1.dp K, h1, h2, h3, h4, r _ _ H q (.refl j) (.str _)⟩
end Dl
end
section
set_option Elab.async false
set_option linter.all false
set_option maxRecDepth 100000
namespace Dl
open PySem L2 PySem.Spec PyProof.Rows RZ

/-! ### operators whose kind is told by the data -/
section
variable {X : Cx}
def rAddA (K : PySem.W.Frag) : R2 := fun x y H Q => rI0 (fun i j => V.int (i + j)) x y H Q ∨ rCat x y H Q ∨ rCatA K x y H Q
theorem op_addA : OpR X (binaryOp .Add) (rAddA X.K) := fun pins s σ H x y v u Q I rx ry h => by
  rcases h with h | h | h
  · exact op_add pins s σ H x y v u Q I rx ry h
  · exact op_cat pins s σ H x y v u Q I rx ry h
  · exact op_catA pins s σ H x y v u Q I rx ry h
def CMulA (i j : Int) : Prop := CMulW i j ∨ CMul i j
def rMulA (K : PySem.W.Frag) : R2 := fun x y H Q => rI CMulA (fun i j => V.int (i * j)) x y H Q ∨ rRep x y H Q ∨ rRepT K x y H Q
theorem op_mulA : OpR X (binaryOp .Mult) (rMulA X.K) := fun pins s σ H x y v u Q I rx ry h => by
  rcases h with h | h | h
  · obtain ⟨i, j, rfl, rfl, c, q⟩ := h
    rcases c with c | c
    · obtain ⟨t, rfl⟩ := rx
      obtain ⟨t', rfl⟩ := ry
      exact mul_int ⟨.int _, H, I.tok _, ⟨_, rfl⟩, q⟩ c.ok
    · exact op_mul pins s σ H _ _ v u Q I rx ry ⟨i, j, rfl, rfl, c, q⟩
  · exact op_rep pins s σ H x y v u Q I rx ry h
  · exact op_repT pins s σ H x y v u Q I rx ry h
def CDivG (_ j : Int) : Prop := j ≠ 0 ∧ j.natAbs.log2 < 9000
theorem op_fdivG : OpR X (binaryOp .FloorDiv) (rI CDivG fun i j => .int (i.fdiv j)) := fun pins s σ H x y v u Q I rx ry h => by
  obtain ⟨i, j, rfl, rfl, c, q⟩ := h
  obtain ⟨t, rfl⟩ := rx
  obtain ⟨t', rfl⟩ := ry
  exact floordiv_int c.1 ⟨.int _, H, I.tok _, ⟨_, rfl⟩, q⟩ (.inl (PyProof.noPylong_of_log2 c.2))
def rEqA (K : PySem.W.Frag) : R2 := fun x y H Q => rEq x y H Q ∨ rEqD K x y H Q
def rNeA (K : PySem.W.Frag) : R2 := fun x y H Q => rNe x y H Q ∨ rNeD K x y H Q
theorem op_eqA (hu : X.A.units + 64 < cLine) : OpR X (compareOp .Eq) (rEqA X.K) := fun pins s σ H x y v u Q I rx ry h => by
  rcases h with h | h
  · exact op_eq pins s σ H x y v u Q I rx ry h
  · exact op_eqD hu pins s σ H x y v u Q I rx ry h
theorem op_neA (hu : X.A.units + 64 < cLine) : OpR X (compareOp .NotEq) (rNeA X.K) := fun pins s σ H x y v u Q I rx ry h => by
  rcases h with h | h
  · exact op_ne pins s σ H x y v u Q I rx ry h
  · exact op_neD hu pins s σ H x y v u Q I rx ry h
def rSlAny (K : PySem.W.Frag) : V → Option Int → Option Int → Hp → VK → Prop := fun x lo hi H Q => rSlL K x lo hi H Q ∨ rSlA K x lo hi H Q
theorem sl_any : SlR X (rSlAny X.K) := fun pins s σ H x v vl vu lo hi sl Q I rx hs pl pu h => by
  rcases h with h | h
  · exact sl_list pins s σ H x v vl vu lo hi sl Q I rx hs pl pu h
  · exact sl_tupA pins s σ H x v vl vu lo hi sl Q I rx hs pl pu h
end
section
variable {K : PySem.W.Frag} {Q : PyData → Prop} {x y : PyData}
theorem od_addI (h : ∃ i j, x = .int i ∧ y = .int j ∧ Q (.int (i + j))) : OD (rAddA K) x y Q := fun F H u v j kx ky R r => .inl (od_I0 (f := fun i j => i + j) h F H u v j kx ky R r)
theorem od_addL (h : ∃ xs ys, x = .list xs ∧ y = .list ys ∧ xs.length + ys.length ≤ 100000 ∧ Q (.list (xs ++ ys))) : OD (rAddA K) x y Q := fun F H u v j kx ky R r => .inr (.inl (od_cat h F H u v j kx ky R r))
theorem od_addT (h : ∃ xs ys, x = .tuple xs ∧ y = .tuple ys ∧ xs.length + ys.length ≤ 100000 ∧ Q (.tuple (xs ++ ys))) : OD (rAddA K) x y Q := fun F H u v j kx ky R r => .inr (.inr (by
  obtain ⟨xs, ys, rfl, rfl, hl, q⟩ := h
  cases kx with
  | @tup a vl _ w e ha =>
    cases ky with
    | @tup b ul _ w2 e2 hb =>
      have l1 := ha.len
      have l2 := hb.len
      refine ⟨a, b, vl, ul, rfl, rfl, SqT.of e, SqT.of e2, ?_, fun z => ?_, fun z1 z => ?_, fun z1 z p hp => ?_⟩
      · rw [l1, l2]; exact Nat.le_trans hl (by decide)
      · subst z
        have z2 : xs = [] := List.length_eq_zero_iff.mp (by simpa using l1.symm)
        subst z2
        exact r _ _ _ q (.refl j) (.tup w2 e2 hb)
      · subst z
        have z2 : ys = [] := List.length_eq_zero_iff.mp (by simpa using l2.symm)
        subst z2
        rw [List.append_nil] at q
        exact r _ _ _ q (.refl j) (.tup w e ha)
      · have g : Gro F H (upd H p (.tup (vl ++ ul))) := .new j hp
        exact r _ _ _ q g (.tup (Fr.fresh j hp) upd_same ((ha.append hb).gro g))))
theorem od_mulI (h : ∃ i j, x = .int i ∧ y = .int j ∧ CMulA i j ∧ Q (.int (i * j))) : OD (rMulA K) x y Q := fun F H u v j kx ky R r => .inl (od_I (f := fun i j => i * j) h F H u v j kx ky R r)
theorem od_eqS' {a b : Str} (q : Q (.bool (decide (a = b)))) : OD (rEqA K) (.str a) (.str b) Q := fun F H u v j kx ky R r => .inl (od_eqS ⟨a, b, rfl, rfl, q⟩ F H u v j kx ky R r)
theorem od_neS' {a b : Str} (q : Q (.bool (!decide (a = b)))) : OD (rNeA K) (.str a) (.str b) Q := fun F H u v j kx ky R r => .inl (od_neS ⟨a, b, rfl, rfl, q⟩ F H u v j kx ky R r)
theorem od_eqI' {a b : Int} (q : Q (.bool (decide (a = b)))) : OD (rEqA K) (.int a) (.int b) Q := fun F H u v j kx ky R r => .inl (od_eqI ⟨a, b, rfl, rfl, q⟩ F H u v j kx ky R r)
theorem od_neI' {a b : Int} (q : Q (.bool (!decide (a = b)))) : OD (rNeA K) (.int a) (.int b) Q := fun F H u v j kx ky R r => .inl (od_neI ⟨a, b, rfl, rfl, q⟩ F H u v j kx ky R r)
theorem od_eqD' (h : SeqAt.shaped x = true ∧ SeqAt.shaped y = true ∧ Q (.bool (PyData.eqv x y))) : OD (rEqA K) x y Q := fun F H u v j kx ky R r => .inr ⟨x, y, kx.dp K, ky.dp K, h.1, h.2.1, r _ _ H h.2.2 (.refl j) (.bl _)⟩
theorem od_neD' (h : SeqAt.shaped x = true ∧ SeqAt.shaped y = true ∧ Q (.bool (!PyData.eqv x y))) : OD (rNeA K) x y Q := fun F H u v j kx ky R r => .inr ⟨x, y, kx.dp K, ky.dp K, h.1, h.2.1, r _ _ H h.2.2 (.refl j) (.bl _)⟩
/-! slices -/
def cutD (xs : List PyData) (lo hi : Option Int) : List PyData := (xs.drop (HT.sIx xs.length 0 lo)).take (HT.sIx xs.length xs.length hi - HT.sIx xs.length 0 lo)
def SD (r : V → Option Int → Option Int → Hp → VK → Prop) (x : PyData) (lo hi : Option Int) (Q : PyData → Prop) : Prop := ∀ (F : Fr) (H : Hp) (u : V), F.J H → Dq F.W H u x → ∀ R : VK, (∀ d w H2, Q d → Gro F H H2 → Dq F.W H2 w d → R w H2) → r u lo hi H R
def EO (B : Fr) (env : List Ent) (to : TO) (Q : Option Int → Prop) : Prop := ∀ (O : Lk) (σ : L2.St) (H : Hp), (B.lock O).J H → Slots (B.lock O).W O H σ env → ∀ R : Option Int → Hp → Prop, (∀ o H2, Q o → Gro (B.lock O) H H2 → R o H2) → to σ H R
variable {B : Fr} {env : List Ent} {te : TE} {tl th : TO}
theorem eo_none {P : Option Int → Prop} (q : P none) : EO B env tNoPart P := fun O σ H j s R r => r none H q (.refl j)
theorem eo_some {P : Option Int → Prop} (h : EW B env te fun d => ∃ i, d = .int i ∧ P (some i)) : EO B env (tPart te) P := fun O σ H j s R r =>
  h O σ H j s _ fun d v H2 ⟨i, e, q⟩ g k => by
    subst e
    cases k
    exact ⟨i, rfl, r _ H2 q g⟩
theorem ew_sl {r : V → Option Int → Option Int → Hp → VK → Prop} (h : EW B env te fun x => EO B env tl fun lo => EO B env th fun hi => SD r x lo hi Q) : EW B env (tSl r te tl th) Q := fun O σ H j s R k =>
  h O σ H j s _ fun x u H2 q g kx => q O σ H2 g.2 (s.gro g) _ fun lo H3 q3 g3 => q3 O σ H3 g3.2 ((s.gro g).gro g3) _ fun hi H4 q4 g4 =>
    q4 (B.lock O) H4 u g4.2 ((kx.gro g3).gro g4) R fun d w H5 qd g5 kd => k d w H5 qd (((g.trans g3).trans g4).trans g5) kd
theorem cut_map {W : Addr → Prop} {H : Hp} {vl : List V} {ds : List PyData} (k : DqA W H vl ds) (lo hi : Option Int) : DqA W H (cutV vl lo hi) (cutD ds lo hi) := by
  unfold cutV cutD
  rw [k.len]
  exact (k.drop _).take _
theorem sd_list {lo hi : Option Int} (h : ∃ ds, x = .list ds ∧ Q (.list (cutD ds lo hi))) : SD (rSlAny K) x lo hi Q := fun F H u j kx R r => .inl (by
  obtain ⟨ds, rfl, q⟩ := h
  cases kx with
  | @lst a vl _ w e ha =>
    refine ⟨a, vl, rfl, SqL.of e, fun p hp => ?_⟩
    have g : Gro F H (upd H p (.lst (cutV vl lo hi))) := .new j hp
    exact r _ _ _ q g (.lst (Fr.fresh j hp) upd_same ((cut_map ha lo hi).gro g)))
theorem sd_tup {lo hi : Option Int} (h : ∃ ds, x = .tuple ds ∧ Q (.tuple (cutD ds lo hi))) : SD (rSlAny K) x lo hi Q := fun F H u j kx R r => .inr (by
  obtain ⟨ds, rfl, q⟩ := h
  cases kx with
  | @tup a vl _ w e ha =>
    refine ⟨a, vl, rfl, SqT.of e, fun z => ?_, fun z p hp => ?_⟩
    · have e2 : cutD ds lo hi = ds := by
        unfold cutD
        rw [← ha.len, z.1, z.2, ha.len, List.drop_zero, Nat.sub_zero, List.take_length]
      rw [e2] at q
      exact r _ _ _ q (.refl j) (.tup w e ha)
    · have g : Gro F H (upd H p (.tup (cutV vl lo hi))) := .new j hp
      exact r _ _ _ q g (.tup (Fr.fresh j hp) upd_same ((cut_map ha lo hi).gro g)))
/-! isinstance(x, T), T a built-in type -/
def tyName : PyData → String
  | .none => "NoneType"
  | .bool _ => "bool"
  | .int _ => "int"
  | .str _ => "str"
  | .list _ => "list"
  | .tuple _ => "tuple"
  | .dict _ => "dict"
theorem ew_isi {T : String} (h : EW B env te fun d => ∃ b, kitB (tyName d) T = some b ∧ Q (.bool b)) : EW B env (tCB (rIsi K) (tCons te (tCons (tC (.ty T)) tNil))) Q := fun O σ H j s R r =>
  h O σ H j s _ fun d v H2 ⟨b, e, q⟩ g k => by
    refine ⟨v, .ty T, .type (tyName d), .type T, b, rfl, .ty T, .base ?_, kit_ty e, r _ _ H2 q g (.bl _)⟩
    cases k with
    | non => exact .non
    | bl b => exact .bl b
    | int i => exact .int i
    | str x => exact .str x
    | lst w e2 ha => exact .lst e2
    | tup w e2 ha => exact .tup e2
theorem cd_int2 {ds : List PyData} (h : ∃ b : Bool, ds = [.bool b] ∧ Q (.int (if b = true then 1 else 0))) : CD (fun vs H R => (∃ i, vs = [V.int i] ∧ R (V.int i) H) ∨ ∃ k, vs = [V.bl k] ∧ R (V.int (if k = true then 1 else 0)) H) ds Q := fun F H vs j k R r => by
  obtain ⟨b, rfl, q⟩ := h
  cases k with
  | cons k1 k2 =>
    cases k2
    cases k1
    exact .inr ⟨b, rfl, r _ _ H q (.refl j) (.int _)⟩
end
end Dl
end
section
set_option Elab.async false
set_option linter.all false
set_option maxRecDepth 100000
/-! the same rules with the written part named: inside a comprehension's block the block's own context must not show -/
namespace Dl
open PySem L2 PySem.Spec PyProof.Rows RZ
section
variable {X : Cx} {K : PySem.W.Frag}
theorem kAdd (h : X.K = K) : OpR X (binaryOp .Add) (rAddA K) := h ▸ op_addA
theorem kMul (h : X.K = K) : OpR X (binaryOp .Mult) (rMulA K) := h ▸ op_mulA
theorem kEq (h : X.K = K) (hu : X.A.units + 64 < cLine) : OpR X (compareOp .Eq) (rEqA K) := h ▸ op_eqA hu
theorem kNe (h : X.K = K) (hu : X.A.units + 64 < cLine) : OpR X (compareOp .NotEq) (rNeA K) := h ▸ op_neA hu
theorem kIn (h : X.K = K) : OpR X (compareOp .In) (rIn K false) := h ▸ op_in_seq
theorem kIx (h : X.K = K) : IxR X (rIx K) := h ▸ ix_seq
theorem kSl (h : X.K = K) : SlR X (rSlAny K) := h ▸ sl_any
def rLen (K : PySem.W.Frag) : List V → Hp → VK → Prop := fun xs H Q => ∃ p ys, xs = [V.ref p] ∧ (SqL K H p ys ∨ SqT K H p ys) ∧ Q (V.int ys.length) H
theorem kLen (h : X.K = K) : CallR X (.builtin "len") (rLen K) := h ▸ call_len_seq
def rTup (K : PySem.W.Frag) : List V → Hp → VK → Prop := fun xs H Q => ∃ p ys, xs = [V.ref p] ∧ ((SqL K H p ys ∧ ∀ l : Addr, H l = none → Q (V.ref l) (upd H l (HO.tup ys))) ∨ SqT K H p ys ∧ Q (V.ref p) H)
theorem kTup (h : X.K = K) : CallR X (.type "tuple") (rTup K) := h ▸ call_tuple_of
def rLst (K : PySem.W.Frag) : List V → Hp → VK → Prop := fun xs H Q => ∃ p ys, xs = [V.ref p] ∧ (SqL K H p ys ∨ SqT K H p ys) ∧ ∀ l : Addr, H l = none → Q (V.ref l) (upd H l (HO.lst ys))
theorem kLst (h : X.K = K) : CallR X (.type "list") (rLst K) := h ▸ call_list_of
theorem kSum (h : X.K = K) (hc : X.calm = true) : CallR X (.builtin "sum") (rSum K) := h ▸ cr_sum hc
theorem kAll (h : X.K = K) (hc : X.calm = true) : CallR X (.builtin "all") (rAll K) := h ▸ cr_all hc
theorem kAny (h : X.K = K) (hc : X.calm = true) : CallR X (.builtin "any") (rAny K) := h ▸ cr_any hc
theorem kIsi (h : X.K = K) : CallR X (.builtin "isinstance") (rIsi K) := h ▸ call_isi
theorem kRepr (h : X.K = K) (n : NoDig X.base) (hg : X.A.guards = some []) (hu : X.A.units + 64 < cLine) : CallR X (.builtin "repr") (rReprB K) := h ▸ call_reprB n hg hu
def rAbs : List V → Hp → VK → Prop := fun xs H Q => ∃ i, xs = [V.int i] ∧ Q (V.int (if i < 0 then -i else i)) H
theorem kAbs : CallR X (.builtin "abs") rAbs := call_abs
def rInt1 : List V → Hp → VK → Prop := fun xs H Q => (∃ i, xs = [V.int i] ∧ Q (V.int i) H) ∨ ∃ k, xs = [V.bl k] ∧ Q (V.int (if k = true then 1 else 0)) H
theorem kInt : CallR X (.type "int") rInt1 := call_int1
def rMax2 : List V → Hp → VK → Prop := fun xs H Q => ∃ i j, xs = [V.int i, V.int j] ∧ Q (V.int (if j > i then j else i)) H
theorem kMax2 (hc : X.calm = true) : CallR X (.builtin "max") rMax2 := call_max2 hc
theorem kTg {es : List Expr} {k : Nat} {t : TGs} {n : Nat} {pos : Pos} (hK : X.K = K) (hc : X.calm = true) (h : PGs X es t)
   (hn : (assignEach es X.env).length = n := by rfl) (hst : (assignEach es X.env).findIdx? (·.1) = none := by rfl) : PG X (.Tuple es k pos) (gTup K n t) := hK ▸ pg_tup hc h hn hst
theorem kList {tg l : Expr} {tl : TE} (hK : X.K = K) (hl : PE X l tl) : PI X tg l (iList K tl) := hK ▸ pi_list hl
theorem kTuple {tg l : Expr} {tl : TE} (hK : X.K = K) (hl : PE X l tl) : PI X tg l (iTup K tl) := hK ▸ pi_tup hl
theorem kEnum {e : Expr} {ta : TA} {p pos tpos : Pos} {elts : List Expr} {kk : Nat} (hK : X.K = K) (hg : Gl X "enumerate") (hm : X.mg "enumerate" = none) (ha : PA X [e] ta) (hs : starEach [e] X.env = [(false, eval e X.env)] := by rfl) :
    PI X (.Tuple elts kk tpos) (.Call (.Name "enumerate" p) [e] [] pos) (iEnum K ta) := hK ▸ pi_enum hg hm ha hs
theorem kZip {e e2 : Expr} {ta : TA} {p pos tpos : Pos} {elts : List Expr} {kk : Nat} (hK : X.K = K) (hg : Gl X "zip") (hm : X.mg "zip" = none) (ha : PA X [e, e2] ta)
    (hs : starEach [e, e2] X.env = (false, eval e X.env) :: starEach [e2] X.env := by rfl) (hpl : (backTo pos (starEach [e2] X.env)).any (·.1) = false := by rfl) :
    PI X (.Tuple elts kk tpos) (.Call (.Name "zip" p) [e, e2] [] pos) (iZipA K ta) := hK ▸ pi_zipA hg hm ha hs hpl
theorem kBm {o e : Expr} {es : List Expr} {to : TE} {t : TA} {T id : String} {name : Str} {r : V → List V → Hp → VK → Prop} {apos cpos : Pos} (hK : X.K = K) (pa : PlainAttrs T) (slot : Slot T name id) (hty : typeOf (.builtin id) = pure (.type "method_descriptor")) (hm : MtM X id r) (ho : PE X o to) (ha : PA X (e :: es) t) (hbase : attributeBase o name X.env (eval o X.env) = eval o X.env := by rfl) (hfew : ((backTo cpos (starEach (e :: es) X.env)).all (fun x => !x.1) && (backToKw cpos (keywordEach [] X.env)).all (fun x => x.1.isSome) && decide ((e :: es).length + ([] : List Keyword).length + (if ([] : List Keyword).isEmpty then 0 else 1) < 30)) = true := by rfl) (hline : (apos.endLine == cpos.line) = true := by rfl) (hs : starEach (e :: es) X.env = (false, eval e X.env) :: starEach es X.env := by rfl) (hplain : (backTo cpos (starEach es X.env)).any (·.1) = false := by rfl) :
    PE X (.Call (.Attribute o name apos) (e :: es) [] cpos) (tBM K T r to t) := hK ▸ pe_bm pa slot hty hm ho ha hbase hfew hline hs hplain
end
section
variable {K : PySem.W.Frag} {Q : PyData → Prop} {ds : List PyData}
theorem qLen (h : ∃ x xs, ds = [x] ∧ itemsOf x = some xs ∧ Q (.int xs.length)) : CD (rLen K) ds Q := cd_len h
theorem qTup (h : ∃ x xs, ds = [x] ∧ itemsOf x = some xs ∧ Q (.tuple xs)) : CD (rTup K) ds Q := cd_tuple h
theorem qLst (h : ∃ x xs, ds = [x] ∧ itemsOf x = some xs ∧ Q (.list xs)) : CD (rLst K) ds Q := cd_list h
theorem qAbs (h : ∃ i, ds = [.int i] ∧ Q (.int (if i < 0 then -i else i))) : CD rAbs ds Q := cd_abs h
theorem qInt (h : ∃ i, ds = [.int i] ∧ Q (.int i)) : CD rInt1 ds Q := cd_int1 h
theorem qIntB (h : ∃ b : Bool, ds = [.bool b] ∧ Q (.int (if b = true then 1 else 0))) : CD rInt1 ds Q := cd_int2 h
theorem qMax2 (h : ∃ i k, ds = [.int i, .int k] ∧ Q (.int (if k > i then k else i))) : CD rMax2 ds Q := cd_max2 h
end
end Dl
end
section
set_option Elab.async false
set_option linter.all false
set_option maxRecDepth 100000
/-! promises that hold where no repr is under way: what a def that shows lists asks of its callers -/
namespace Dl
open PySem L2 PySem.Spec PyProof.Rows
structure FnG (P : Program) (w : World) (K : PySem.W.Frag) (mg : Str → Option Value) (base : Heap) (k : Nat) (f : Addr) (fd : FuncData) (ps : List Str) (sp : Sp) : Prop where
  len : ∀ vs H Q E, sp vs H Q E → vs.length = ps.length
  go : ∀ (A : Around) (out : List Env) (s : Shared) (H : Hp) (as : Args) (us : List Value) (vs : List V) (Q : VK) (E : XK), Room k A → A.guards = some [] → Env0 P w K mg base A out s H → BindsTo s fd as (ps.zip us) → Vals vs us →
    sp vs H Q E → codeAny (model P w) A (.call (.ref f) as) (CR CX0 out P w H s Q E) s
section
variable {P : Program} {w : World} {K : PySem.W.Frag} {mg : Str → Option Value} {base : Heap} {k : Nat} {f : Addr} {fd : FuncData} {ps : List Str} {sp : Sp}
theorem toG (F : FnOk P w K mg base CX0 k f fd ps sp) : FnG P w K mg base k f fd ps sp := ⟨F.len, fun A out s H as us vs Q E r _ e b v h => F.run A out s H as us vs Q E r e b v h⟩
theorem FnG.mono {j : Nat} (F : FnG P w K mg base j f fd ps sp) (h : j ≤ k) : FnG P w K mg base k f fd ps sp := ⟨F.len, fun A out s H as us vs Q E r => F.go A out s H as us vs Q E (r.mono h)⟩
/-- a def by its body, no repr being under way -/
theorem fnG_of {name qual : Str} {params : Arguments} {body : List Stmt} {scope : Scope} {dV kV doc pm cdv ct oc : Value} {an od : Option Addr} {osl : Array (Option Value)} {N : List Str}
    (lk : K.lookup f = some ⟨oc, od, .func (PySem.W.fnOf name qual params body scope dV kV doc pm an cdv ct), osl⟩) (hcd : PySem.W.codeIn K cdv qual = true) (S : FnScope N ps scope) (hlen : ∀ vs H Q E, sp vs H Q E → vs.length = ps.length)
    (hb : ∀ (A : Around) (out : List Env) (s : Shared) (H : Hp) (vs : List V) (Q : VK) (E : XK), Room k (A.deeper (envOfC qual scope s.heap.objs.size f cdv)) → A.guards = some [] → sp vs H Q E →
      ∃ t, PSs (cxOf CX0 P w K mg base N qual scope f cdv A out s H E) body t ∧ t { nx := fun _ H' => Q .non H', rt := Q } (L2.start N vs) H) :
    FnG P w K mg base (k + 1) f (PySem.W.fnOf name qual params body scope dV kV doc pm an cdv ct) ps sp := by
  refine ⟨hlen, ?_⟩
  intro A out s H as us vs Q E room gd e0 bnd rel hs
  have kin : K.In s.heap := e0.mod.kin.keeps (fun b o z => (e0.bs b o z).1)
  have lm : s.heap.NoLimit := e0.mod.nolimit.keeps (fun b o z => (e0.bs b o z).1)
  have kinds : ∀ y, y ∈ ps.zip us → scope.names.lookup y.1 = some .local ∨ (scope.names.lookup y.1 = some .cell ∧ ((cellsFrom (s.heap.objs.size + 1) scope.names []).lookup y.1).isSome = true) := by
    intro y hy
    rcases S.par y.1 (List.of_mem_zip (a := y.1) (b := y.2) hy).1 with z | z
    · left; exact z
    · right; exact ⟨z, PySem.W.cellsFrom_some _ _ _ (Or.inl z)⟩
  refine codeAny_call_function room.depth (kin _ _ lk) rfl S.co S.gen rfl (PySem.W.codeRec_of kin hcd) (bnd _ _ _ _ (wpAny_newFunctionEnv_cells S.kind kinds fun env ee s1 st => ?_))
  subst ee
  refine ⟨lm.keeps st.toInCall.keep, codeAny_func ?_⟩
  obtain ⟨t, ht, hq⟩ := hb A out s H vs Q E (room.deeper _) gd hs
  refine wpAny_mono (ht.run [] s1 (L2.start N vs) H _ (inv_start S room.hd e0 (hlen _ _ _ _ hs) rel st) hq) (fun fl s' z => ?_) (fun _ _ z => z)
  cases fl with
  | ret u =>
    obtain ⟨v, _, H', J, rv, q⟩ := z
    exact ⟨v, H', J.os, J.bare, J.base, J.hok, rv, q⟩
  | next =>
    obtain ⟨_, H', J, q⟩ := z
    exact ⟨V.non, H', J.os, J.bare, J.base, J.hok, rfl, q⟩
  | brk => exact z.elim fun _ z => z.elim fun _ z => z.2.elim
  | cont => exact z.elim fun _ z => z.elim fun _ z => z.2.elim
theorem funG {x qual : Str} {st : Stmt} {N : List Str} (F : Fun K x qual st f fd) (S : FnScope N ps (defScope st)) (len : ∀ vs H Q E, sp vs H Q E → vs.length = ps.length)
    (hb : ∀ (cdv : Value) (A : Around) (out : List Env) (s : Shared) (H : Hp) (vs : List V) (Q : VK) (E : XK), Room k (A.deeper (envOfC qual (defScope st) s.heap.objs.size f cdv)) → A.guards = some [] → sp vs H Q E →
      ∃ t, PSs (cxOf CX0 P w K mg base N qual (defScope st) f cdv A out s H E).nox (defBody st) t ∧ t { nx := fun _ H' => Q .non H', rt := Q } (L2.start N vs) H) : FnG P w K mg base (k + 1) f fd ps sp := by
  obtain ⟨oc, od, kV, doc, pm, an, cdv, ct, osl, rfl, lk, hcd⟩ := F.ex
  exact fnG_of lk hcd S len fun A out s H vs Q E room gd hs => (hb cdv A out s H vs Q E room gd hs).elim fun t z => ⟨t, z.1.nox, z.2⟩
end
theorem guards_deeper {A : Around} {env : Env} (h : A.guards = some []) : (A.deeper env).guards = some [] := h
/-- what a def of the module is, for its callers -/
def HasG (P : Program) (w : World) (K : PySem.W.Frag) (mg : Str → Option Value) (base : Heap) (x : Str) (k : Nat) (ps : List Str) (sp : Sp) : Prop :=
  ∃ f fd, FnG P w K mg base k f fd ps sp ∧ mg x = some (.ref f) ∧ PySem.W.keepIn K (.ref f) = true ∧ Binds K fd ps []
theorem HasG.call {X : Cx} {x : Str} {k j : Nat} {ps : List Str} {sp : Sp} {p pos : Pos} {e : Expr} {es : List Expr} {t : TA} (h : HasG X.prog X.w X.K X.mg X.base x k ps sp) (hr : Room j X.A) (gd : X.A.guards = some []) (ha : PA X (e :: es) t) (hk : k ≤ j := by decide) (hg : Gl X x := by rfl)
    (hdb : (x == ("__debug__" : Str)) = false := by decide) (he : starEach (e :: es) X.env = (false, eval e X.env) :: starEach es X.env := by rfl) (hpl : (backTo pos (starEach es X.env)).any (·.1) = false := by rfl) :
    PE X (.Call (.Name x p) (e :: es) [] pos) (tCall sp [] E0 t) := by
  obtain ⟨f, fd, F, m, kp, b⟩ := h
  constructor
  intro pins s σ H Q I h
  refine wpAny_Call_Name_kw (ld_glob I hg m (PySem.W.callWith_K (h₀ := X.base) I.ok.mod.kin kp (thn (ha.run pos pins s σ H _ I h) ?_) he hpl) hdb)
  rintro us s1 ⟨vs, H1, I1, r, q⟩
  refine ⟨I1.kIn, ?_⟩
  have q' : sp vs H1 Q E0 := by
    have z : sp (vs ++ []) H1 Q E0 := q
    rw [List.append_nil] at z
    exact z
  have hl : us.length = ps.length := by rw [← r.length]; exact F.len _ _ _ _ q'
  have bb := b s1 us I1.kIn (by simpa using hl)
  rw [List.append_nil] at bb
  refine wpAny_call (codeAny_mono (F.go X.A X.stack s1 H1 ⟨us, []⟩ us vs Q E0 (hr.mono hk) gd I1.env0 bb r q') ?_)
  intro rr s' hq
  cases rr with
  | error e => exact hq.elim
  | ok fl =>
    cases fl with
    | ret u => exact I1.after hq
    | next => exact hq.elim
    | brk => exact hq.elim
    | cont => exact hq.elim
theorem Has.toG {P : Program} {w : World} {K : PySem.W.Frag} {mg : Str → Option Value} {base : Heap} {x : Str} {k : Nat} {ps : List Str} {sp : Sp} (h : Has P w K mg base x k ps sp) : HasG P w K mg base x k ps sp := by
  obtain ⟨f, fd, F, r⟩ := h
  exact ⟨f, fd, Dl.toG F, r⟩
theorem fn_dlG {P : Program} {w : World} {K : PySem.W.Frag} {mg : Str → Option Value} {base : Heap} {x qual : Str} {st : Stmt} {f : Addr} {fd : FuncData} {N ps : List Str} {k : Nat} {m : Fr → List Ent → (PyData → Prop) → Prop}
    (F : Fun K x qual st f fd) (S : FnScope N ps (defScope st)) (len : ∀ B es R, m B es R → es.length = ps.length)
    (body : ∀ (cdv : Value) (A : Around) (outer : List Env) (s : Shared) (H : Hp) (E : XK), Room k (A.deeper (envOfC qual (defScope st) s.heap.objs.size f cdv)) → (A.deeper (envOfC qual (defScope st) s.heap.objs.size f cdv)).guards = some [] → ∀ (B : Fr) (es : List Ent) (R : PyData → Prop), m B es R →
      ∃ t, PSs (cxOf CX0 P w K mg base N qual (defScope st) f cdv A outer s H E).nox (defBody st) t ∧ SW B (es ++ List.replicate (N.length - ps.length) .non) t ⟨fun _ => R .none, R, fun _ => False, fun _ => False⟩) :
    FnG P w K mg base (k + 1) f fd ps (spG m) := by
  refine funG F S (fun vs H Q E ⟨B, O, es, R, hm, _, _, sl, _⟩ => (slots_len sl).trans (len B es R hm)) fun cdv A outer s H vs Q E hr gd ⟨B, O, es, R, hm, no, j, sl, q⟩ => ?_
  obtain ⟨t, ht, hw⟩ := body cdv A outer s H E hr gd B es R hm
  exact ⟨t, ht, sp_run (len B es R hm) no j sl q hw⟩
section
variable {B : Fr} {env : List Ent}
theorem ew_varE {i : Nat} {Q : PyData → Prop} (h : ∃ d, env[i]? = some (.dat d) ∧ Q d) : EW B env (tVar i) Q := by
  obtain ⟨d, e, q⟩ := h
  exact ew_var e q
theorem ea_rawE {i : Nat} {tr : TA} {Q : List Ent → Prop} (h : ∃ v, env[i]? = some (.raw v) ∧ EA B env tr fun es => Q (.raw v :: es)) : EA B env (tCons (tVar i) tr) Q := by
  obtain ⟨v, e, q⟩ := h
  exact ea_raw e q
end
end Dl
end
section
set_option Elab.async false
set_option linter.all false
set_option maxRecDepth 100000
namespace K01
open PySem L2 PySem.Spec PyProof.Rows Dl
def top (i : Nat) : Stmt := PySem.Challenge.pw_everygust_k01_fractions.main.body.getD i (.Pass ⟨0, 0, 0, 0⟩)
abbrev st_fraction_of : Stmt := top 2
abbrev names_fraction_of : List Str := ["p", "q", "shared"]
abbrev pars_fraction_of : List Str := ["p", "q"]
theorem sc_fraction_of : FnScope names_fraction_of pars_fraction_of (defScope st_fraction_of) := ⟨rfl, rfl, rfl, by decide +kernel, rfl, by decide +kernel, by decide +kernel⟩
abbrev st_plus : Stmt := top 3
abbrev names_plus : List Str := ["one", "other"]
abbrev pars_plus : List Str := ["one", "other"]
theorem sc_plus : FnScope names_plus pars_plus (defScope st_plus) := ⟨rfl, rfl, rfl, by decide +kernel, rfl, by decide +kernel, by decide +kernel⟩
abbrev st_minus : Stmt := top 4
abbrev names_minus : List Str := ["one", "other"]
abbrev pars_minus : List Str := ["one", "other"]
theorem sc_minus : FnScope names_minus pars_minus (defScope st_minus) := ⟨rfl, rfl, rfl, by decide +kernel, rfl, by decide +kernel, by decide +kernel⟩
abbrev st_times : Stmt := top 5
abbrev names_times : List Str := ["one", "other"]
abbrev pars_times : List Str := ["one", "other"]
theorem sc_times : FnScope names_times pars_times (defScope st_times) := ⟨rfl, rfl, rfl, by decide +kernel, rfl, by decide +kernel, by decide +kernel⟩
abbrev st_over : Stmt := top 6
abbrev names_over : List Str := ["one", "other"]
abbrev pars_over : List Str := ["one", "other"]
theorem sc_over : FnScope names_over pars_over (defScope st_over) := ⟨rfl, rfl, rfl, by decide +kernel, rfl, by decide +kernel, by decide +kernel⟩
abbrev st_total : Stmt := top 7
abbrev names_total : List Str := ["fractions", "found", "one"]
abbrev pars_total : List Str := ["fractions"]
theorem sc_total : FnScope names_total pars_total (defScope st_total) := ⟨rfl, rfl, rfl, by decide +kernel, rfl, by decide +kernel, by decide +kernel⟩
abbrev st_is_less : Stmt := top 8
abbrev names_is_less : List Str := ["one", "other"]
abbrev pars_is_less : List Str := ["one", "other"]
theorem sc_is_less : FnScope names_is_less pars_is_less (defScope st_is_less) := ⟨rfl, rfl, rfl, by decide +kernel, rfl, by decide +kernel, by decide +kernel⟩
abbrev st_lowest : Stmt := top 9
abbrev names_lowest : List Str := ["fractions", "found", "one"]
abbrev pars_lowest : List Str := ["fractions"]
theorem sc_lowest : FnScope names_lowest pars_lowest (defScope st_lowest) := ⟨rfl, rfl, rfl, by decide +kernel, rfl, by decide +kernel, by decide +kernel⟩
abbrev st_highest : Stmt := top 10
abbrev names_highest : List Str := ["fractions", "found", "one"]
abbrev pars_highest : List Str := ["fractions"]
theorem sc_highest : FnScope names_highest pars_highest (defScope st_highest) := ⟨rfl, rfl, rfl, by decide +kernel, rfl, by decide +kernel, by decide +kernel⟩
abbrev st_floor_of : Stmt := top 11
abbrev names_floor_of : List Str := ["t"]
abbrev pars_floor_of : List Str := ["t"]
theorem sc_floor_of : FnScope names_floor_of pars_floor_of (defScope st_floor_of) := ⟨rfl, rfl, rfl, by decide +kernel, rfl, by decide +kernel, by decide +kernel⟩
abbrev st_ceiling_of : Stmt := top 12
abbrev names_ceiling_of : List Str := ["t"]
abbrev pars_ceiling_of : List Str := ["t"]
theorem sc_ceiling_of : FnScope names_ceiling_of pars_ceiling_of (defScope st_ceiling_of) := ⟨rfl, rfl, rfl, by decide +kernel, rfl, by decide +kernel, by decide +kernel⟩
abbrev st_l_source : Stmt := top 14
abbrev names_l_source : List Str := ["script", "mixed", "cell"]
abbrev pars_l_source : List Str := ["script"]
theorem sc_l_source : FnScope names_l_source pars_l_source (defScope st_l_source) := ⟨rfl, rfl, rfl, by decide +kernel, rfl, by decide +kernel, by decide +kernel⟩
abbrev st_l_pick : Stmt := top 15
abbrev names_l_pick : List Str := ["source", "many", "left", "mixed"]
abbrev pars_l_pick : List Str := ["source", "many"]
theorem sc_l_pick : FnScope names_l_pick pars_l_pick (defScope st_l_pick) := ⟨rfl, rfl, rfl, by decide +kernel, rfl, by decide +kernel, by decide +kernel⟩
abbrev st_l_of : Stmt := top 16
abbrev names_l_of : List Str := ["source", "some"]
abbrev pars_l_of : List Str := ["source", "some"]
theorem sc_l_of : FnScope names_l_of pars_l_of (defScope st_l_of) := ⟨rfl, rfl, rfl, by decide +kernel, rfl, by decide +kernel, by decide +kernel⟩
abbrev st_l_mixed : Stmt := top 17
abbrev names_l_mixed : List Str := ["source", "things", "rest", "lap"]
abbrev pars_l_mixed : List Str := ["source", "things"]
theorem sc_l_mixed : FnScope names_l_mixed pars_l_mixed (defScope st_l_mixed) := ⟨rfl, rfl, rfl, by decide +kernel, rfl, by decide +kernel, by decide +kernel⟩
abbrev st_l_least : Stmt := top 18
abbrev names_l_least : List Str := ["a", "b", "one", "other"]
abbrev pars_l_least : List Str := ["a", "b"]
theorem sc_l_least : FnScope names_l_least pars_l_least (defScope st_l_least) := ⟨rfl, rfl, rfl, by decide +kernel, rfl, by decide +kernel, by decide +kernel⟩
abbrev st_l_plus : Stmt := top 19
abbrev names_l_plus : List Str := ["x", "y"]
abbrev pars_l_plus : List Str := ["x", "y"]
theorem sc_l_plus : FnScope names_l_plus pars_l_plus (defScope st_l_plus) := ⟨rfl, rfl, rfl, by decide +kernel, rfl, by decide +kernel, by decide +kernel⟩
abbrev st_l_great : Stmt := top 20
abbrev names_l_great : List Str := ["source", "figures", "found", "lap"]
abbrev pars_l_great : List Str := ["source", "figures"]
theorem sc_l_great : FnScope names_l_great pars_l_great (defScope st_l_great) := ⟨rfl, rfl, rfl, by decide +kernel, rfl, by decide +kernel, by decide +kernel⟩
abbrev st_l_drawn : Stmt := top 21
abbrev names_l_drawn : List Str := ["source", "way", "sign"]
abbrev pars_l_drawn : List Str := ["source"]
theorem sc_l_drawn : FnScope names_l_drawn pars_l_drawn (defScope st_l_drawn) := ⟨rfl, rfl, rfl, by decide +kernel, rfl, by decide +kernel, by decide +kernel⟩
abbrev st_l_pair_right : Stmt := top 22
abbrev names_l_pair_right : List Str := ["source", "x", "y", "due", "told", "one", "whole", "late", "less"]
abbrev pars_l_pair_right : List Str := ["source", "x", "y"]
theorem sc_l_pair_right : FnScope names_l_pair_right pars_l_pair_right (defScope st_l_pair_right) := ⟨rfl, rfl, rfl, by decide +kernel, rfl, by decide +kernel, by decide +kernel⟩
abbrev st_l_made_right : Stmt := top 23
abbrev names_l_made_right : List Str := ["source", "p", "q", "by", "some", "due", "one", "other"]
abbrev pars_l_made_right : List Str := ["source"]
theorem sc_l_made_right : FnScope names_l_made_right pars_l_made_right (defScope st_l_made_right) := ⟨rfl, rfl, rfl, by decide +kernel, rfl, by decide +kernel, by decide +kernel⟩
abbrev st_l_list_right : Stmt := top 24
abbrev names_l_list_right : List Str := ["source", "some", "lap", "kept", "due", "low", "high", "one", "given"]
abbrev pars_l_list_right : List Str := ["source"]
theorem sc_l_list_right : FnScope names_l_list_right pars_l_list_right (defScope st_l_list_right) := ⟨rfl, rfl, rfl, by decide +kernel, rfl, by decide +kernel, by decide +kernel⟩
abbrev st_law : Stmt := top 25
abbrev names_law : List Str := ["script", "source", "lap", "x", "y", "told", "half"]
abbrev pars_law : List Str := ["script"]
theorem sc_law : FnScope names_law pars_law (defScope st_law) := ⟨rfl, rfl, rfl, by decide +kernel, rfl, by decide +kernel, by decide +kernel⟩
end K01
end
section
set_option Elab.async false
set_option linter.all false
set_option maxRecDepth 100000
namespace K01
open PySem L2 PySem.Spec PyProof.Rows Dl
/-! ### the source of draws -/
abbrev kCells : Key := Sum.inr "cells"
abbrev kLeft : Key := Sum.inr "left"
abbrev kMixed : Key := Sum.inr "mixed"
abbrev kTurn : Key := Sum.inr "turn"
theorem k1 : ¬ kCells = kLeft := by decide +kernel
theorem k2 : ¬ kMixed = kLeft := by decide +kernel
theorem k3 : ¬ kTurn = kLeft := by decide +kernel
theorem k4 : ¬ kCells = kTurn := by decide +kernel
theorem k5 : ¬ kLeft = kTurn := by decide +kernel
theorem k6 : ¬ kMixed = kTurn := by decide +kernel
theorem k7 : ¬ kCells = kMixed := by decide +kernel
theorem k8 : ¬ kLeft = kMixed := by decide +kernel
theorem k9 : ¬ kTurn = kMixed := by decide +kernel
structure SrcC (p l : Addr) (H : Hp) (kvs : List (Key × V)) (cells : List Int) (x m t : Int) : Prop where
  hd : H p = some (.dK kvs)
  hn : kvs.length ≤ 100
  hc : valV kvs kCells = some (.ref l)
  hx : valV kvs kLeft = some (.int x)
  hm : valV kvs kMixed = some (.int m)
  ht : valV kvs kTurn = some (.int t)
  hl : H l = some (.lst (cells.map V.int))
  hb : -(2 ^ 64) < m ∧ m < 2 ^ 64
def Src (p l : Addr) (H : Hp) : Prop := ∃ kvs cells x m t, SrcC p l H kvs cells x m t
def Fsrc (p l : Addr) : Fr where
  W := fun a => a = p ∨ a = l
  J := Src p l
  loc := fun H H' e ⟨kvs, cells, x, m, t, s⟩ => ⟨kvs, cells, x, m, t, by rw [e p (.inl rfl)]; exact s.hd, s.hn, s.hc, s.hx, s.hm, s.ht, by rw [e l (.inr rfl)]; exact s.hl, s.hb⟩
  dom := fun H a ⟨kvs, cells, x, m, t, s⟩ w => by
    rcases w with w | w
    · rw [w, s.hd]; exact nofun
    · rw [w, s.hl]; exact nofun
/-- the source has been drawn from, all else is as it was -/
def Drw (p l : Addr) (H H' : Hp) : Prop := ∀ a o, a ≠ p → a ≠ l → H a = some o → H' a = some o
theorem Drw.gro {p l : Addr} {O : Lk} {H H' : Hp} (d : Drw p l H H') (j : ((Fsrc p l).lock O).J H) (s : Src p l H') : Gro ((Fsrc p l).lock O) H H' :=
  ⟨fun a o w e => d a o (fun z => w (.inl (.inl z))) (fun z => w (.inl (.inr z))) e, s, fun a o e => ⟨(j.2 a o e).1, d a o (fun z => (j.2 a o e).1 (.inl z)) (fun z => (j.2 a o e).1 (.inr z)) (j.2 a o e).2⟩⟩
theorem putK_len {kvs : List (Key × V)} {k : Key} {v w : V} (h : valV kvs k = some w) : (putK kvs k v).length = kvs.length := by
  unfold putK
  rw [valV_any, h]
  simp
theorem SrcC.put {p l : Addr} {H : Hp} {kvs : List (Key × V)} {cells : List Int} {x m t : Int} (s : SrcC p l H kvs cells x m t) : p ≠ l := ne_of s.hd s.hl (by intro z; cases z)
theorem SrcC.gL {p l : Addr} {H : Hp} {kvs : List (Key × V)} {cells : List Int} {x m t : Int} (s : SrcC p l H kvs cells x m t) : DGet H p (.str "left") (some (.int x)) := by
  have e := DGet.k (k := kLeft) s.hd
  rw [s.hx] at e
  exact e
theorem SrcC.gC {p l : Addr} {H : Hp} {kvs : List (Key × V)} {cells : List Int} {x m t : Int} (s : SrcC p l H kvs cells x m t) : DGet H p (.str "cells") (some (.ref l)) := by
  have e := DGet.k (k := kCells) s.hd
  rw [s.hc] at e
  exact e
theorem SrcC.gM {p l : Addr} {H : Hp} {kvs : List (Key × V)} {cells : List Int} {x m t : Int} (s : SrcC p l H kvs cells x m t) : DGet H p (.str "mixed") (some (.int m)) := by
  have e := DGet.k (k := kMixed) s.hd
  rw [s.hm] at e
  exact e
theorem SrcC.gT {p l : Addr} {H : Hp} {kvs : List (Key × V)} {cells : List Int} {x m t : Int} (s : SrcC p l H kvs cells x m t) : DGet H p (.str "turn") (some (.int t)) := by
  have e := DGet.k (k := kTurn) s.hd
  rw [s.ht] at e
  exact e
theorem SrcC.pL {p l : Addr} {H : Hp} {kvs : List (Key × V)} {cells : List Int} {x m t : Int} (s : SrcC p l H kvs cells x m t) (y : Int) : SrcC p l (upd H p (.dK (putK kvs kLeft (.int y)))) (putK kvs kLeft (.int y)) cells y m t :=
  ⟨upd_same, by rw [putK_len s.hx]; exact s.hn, by rw [valV_put, if_neg k1]; exact s.hc, by rw [valV_put, if_pos rfl], by rw [valV_put, if_neg k2]; exact s.hm, by rw [valV_put, if_neg k3]; exact s.ht, by rw [upd_ne s.put.symm]; exact s.hl, s.hb⟩
theorem SrcC.pT {p l : Addr} {H : Hp} {kvs : List (Key × V)} {cells : List Int} {x m t : Int} (s : SrcC p l H kvs cells x m t) (y : Int) : SrcC p l (upd H p (.dK (putK kvs kTurn (.int y)))) (putK kvs kTurn (.int y)) cells x m y :=
  ⟨upd_same, by rw [putK_len s.ht]; exact s.hn, by rw [valV_put, if_neg k4]; exact s.hc, by rw [valV_put, if_neg k5]; exact s.hx, by rw [valV_put, if_neg k6]; exact s.hm, by rw [valV_put, if_pos rfl], by rw [upd_ne s.put.symm]; exact s.hl, s.hb⟩
theorem SrcC.pM {p l : Addr} {H : Hp} {kvs : List (Key × V)} {cells : List Int} {x m t : Int} (s : SrcC p l H kvs cells x m t) (y : Int) (hy : -(2 ^ 64) < y ∧ y < 2 ^ 64) : SrcC p l (upd H p (.dK (putK kvs kMixed (.int y)))) (putK kvs kMixed (.int y)) cells x y t :=
  ⟨upd_same, by rw [putK_len s.hm]; exact s.hn, by rw [valV_put, if_neg k7]; exact s.hc, by rw [valV_put, if_neg k8]; exact s.hx, by rw [valV_put, if_pos rfl], by rw [valV_put, if_neg k9]; exact s.ht, by rw [upd_ne s.put.symm]; exact s.hl, hy⟩
theorem SrcC.pop {p l : Addr} {H : Hp} {kvs : List (Key × V)} {cells : List Int} {x m t : Int} (s : SrcC p l H kvs cells x m t) : SrcC p l (upd H l (.lst (cells.map V.int).dropLast)) kvs cells.dropLast x m t :=
  ⟨by rw [upd_ne s.put]; exact s.hd, s.hn, s.hc, s.hx, s.hm, s.ht, by rw [upd_same, List.map_dropLast], s.hb⟩
theorem Drw.put {p l : Addr} {H H1 : Hp} {o : HO} (d : Drw p l H H1) : Drw p l H (upd H1 p o) := fun a u h1 h2 e => by rw [upd_ne h1]; exact d a u h1 h2 e
theorem Drw.putl {p l : Addr} {H H1 : Hp} {o : HO} (d : Drw p l H H1) : Drw p l H (upd H1 l o) := fun a u h1 h2 e => by rw [upd_ne h2]; exact d a u h1 h2 e
theorem len100 {kvs : List (Key × V)} (h : kvs.length ≤ 100) : kvs.length < sizeLine := Nat.lt_of_le_of_lt h (by decide)
theorem max_eq {many : Int} : (if many > 1 then many else 1) = max 1 many := by
  rw [Int.max_def]; split <;> split <;> omega
theorem while_at {c : TT} {tb : TS} {D : Ends} {σ : L2.St} {H : Hp} (W : Nat → Hp → Prop) (h0 : ∃ m, W m H) (after : ∀ H1, (∃ m, W m H1) → D.nx σ H1)
    (turn : (∀ H1, (∃ m, W m H1) → D.nx σ H1) → ∀ m H1, W m H1 → c σ H1 fun b H2 => if b = true then tb { D with nx := fun σ' H' => σ' = σ ∧ ∃ m', m' < m ∧ W m' H', ct := fun σ' H' => σ' = σ ∧ ∃ m', m' < m ∧ W m' H', bk := D.nx } σ H2 else D.nx σ H2)
    (mono : ∀ σ H Q Q', (∀ b H1, Q b H1 → Q' b H1) → c σ H Q → c σ H Q') : tWhile c tb D σ H := by
  refine ⟨fun m σ' H' => σ' = σ ∧ W m H', ?_, ?_⟩
  · obtain ⟨m, w⟩ := h0
    exact ⟨m, rfl, w⟩
  · rintro m σ' H1 ⟨rfl, w⟩
    refine mono _ _ _ _ (fun b H2 q => ?_) (turn after m H1 w)
    cases b with
    | true =>
      rw [if_pos rfl] at q
      rw [if_pos rfl]
      exact ⟨_, fun σ2 H2 ⟨e, m', hm, w2⟩ => ⟨m', hm, e, w2⟩, q⟩
    | false => exact q
def mPick (B : Fr) (es : List Ent) (R : PyData → Prop) : Prop := ∃ (p l : Addr) (many : Int), B = Fsrc p l ∧ es = [.raw (.ref p), .dat (.int many)] ∧ many.natAbs < 2 ^ 64 ∧ ∀ r : Int, 0 ≤ r → r < max 1 many → R (.int r)
structure Tx (mg : Str → Option Value) : Prop where
  len : mg "len" = none
  abs : mg "abs" = none
  int : mg "int" = none
  max : mg "max" = none
  list : mg "list" = none
  tuple : mg "tuple" = none
  range : mg "range" = none
  repr : mg "repr" = none
  all : mg "all" = none
  isinstance : mg "isinstance" = none
  gcd : mg "gcd" = some (.builtin "math.gcd")
section
variable {P : Program} {w : World} {K : PySem.W.Frag} {mg : Str → Option Value} {base : Heap}
theorem ok_pick {f : Addr} {fd : FuncData} (F : Fun K "_law_pick" "_law_pick" st_l_pick f fd) (T : Tx mg) : FnOk P w K mg base CX0 1 f fd ["source", "many"] (spG mPick) := by
  have nd := sc_l_pick.nd
  refine F.ok sc_l_pick (fun vs H Q E h => ?_) (fun cdv A outer s H vs Q E hr h => ?_)
  · obtain ⟨B, O, es, R, ⟨p, l, many, rfl, rfl, _⟩, _, _, sl, _⟩ := h
    match vs, sl with
    | [_, _], _ => rfl
  · obtain ⟨B, O, es, R, ⟨p, l, many, rfl, rfl, hm, hR⟩, _, j, sl, k⟩ := h
    have hu := hu_of hr
    have hu64 := hr.units
    obtain ⟨e1, e2⟩ : vs = [.ref p, .int many] ∧ True := by
      match vs, sl with
      | [a, b], sl =>
        obtain ⟨c1, ⟨v, c2, c3⟩, _⟩ := sl
        cases c1
        cases c2
        cases c3
        exact ⟨rfl, trivial⟩
    subst e1
    refine ⟨_, (pss_cons (ps_while PassesOwn.never (PW.pt (pw_and (pt_cmpR op_gt (pv 1) pe_int (nomark _)) (pw_and (pt_cmpR op_lt (pe_dget hu (pv 0) pe_str (fun _ _ => rfl)) pe_int (nomark _)) (pw_and1 (pt_cmpR op_gt (pe_callB call_len_seq (by rfl) T.len (by decide +kernel) (pa_cons (pe_dget hu (pv 0) pe_str (fun _ _ => rfl)) pa_nil)) pe_int (nomark _)))))) (pss_one (ps_dput hu (pv 0) pe_str (pe_bm0 PySem.F.plainAttrs_list PySem.F.slot_list_pop PySem.F.type_list_pop mt_pop (pe_dget hu (pv 0) pe_str (fun _ _ => rfl))) rfl)))
      (pss_cons (ps_set (i := 2) nd rfl (by first | exact Or.inl rfl | exact Or.inr rfl) (pe_dget hu (pv 0) pe_str (fun _ _ => rfl)))
      (pss_cons (ps_if (PW.pt (pw_or (pt_cmpR op_lt (pv 1) pe_int (nomark _)) (pw_or1 (pt_cmpR op_gt (pv 2) pe_int (nomark _))))) (pss_cons (ps_dput hu (pv 0) pe_str (pe_op op_fdivG (pv 2) (pe_callB (call_max2 rfl) (by rfl) T.max (by decide +kernel) (pa_cons pe_int (pa_cons (pv 1) pa_nil)))) rfl)
      (pss_one (ps_ret (pe_op op_modN (pe_callTy call_int1 (by rfl) T.int (by decide +kernel) (pa_cons (pv 2) pa_nil)) (pe_callB (call_max2 rfl) (by rfl) T.max (by decide +kernel) (pa_cons pe_int (pa_cons (pv 1) pa_nil))))))) pss_nil)
      (pss_cons (ps_dput hu (pv 0) pe_str (pe_op op_addA (pe_dget hu (pv 0) pe_str (fun _ _ => rfl)) pe_int) rfl)
      (pss_cons (ps_set (i := 3) nd rfl (by first | exact Or.inl rfl | exact Or.inr rfl) (pe_op op_modN (pe_callTy call_int1 (by rfl) T.int (by decide +kernel) (pa_cons (pe_op op_addA (pe_dget hu (pv 0) pe_str (fun _ _ => rfl)) (pe_op op_mulA (pe_dget hu (pv 0) pe_str (fun _ _ => rfl)) pe_int)) pa_nil)) pe_int))
      (pss_cons (ps_set (i := 3) nd rfl (by first | exact Or.inl rfl | exact Or.inr rfl) (pe_op op_modN (pe_callTy call_int1 (by rfl) T.int (by decide +kernel) (pa_cons (pe_op op_addA (pe_op op_mulA (pv 3) (pv 3)) (pe_op op_mulA (pe_dget hu (pv 0) pe_str (fun _ _ => rfl)) pe_int)) pa_nil)) pe_int))
      (pss_cons (ps_dput hu (pv 0) pe_str (pv 3) rfl)
      (pss_one (ps_ret (pe_op op_modN (pe_callTy call_int1 (by rfl) T.int (by decide +kernel) (pa_cons (pe_op op_fdivG (pv 3) pe_int) pa_nil)) (pv 1))))))))))), ?_⟩
    have fin : ∀ (H2 : Hp) (kvs : List (Key × V)) (cells : List Int) (x m t : Int), SrcC p l H2 kvs cells x m t → Drw p l H H2 → ∀ r : Int, 0 ≤ r → r < max 1 many → Q (.int r) H2 := fun H2 kvs cells x m t s2 d2 r h0 h1 =>
      k _ _ _ (hR r h0 h1) (d2.gro j ⟨kvs, cells, x, m, t, s2⟩) (.int r)
    have hpos : 0 < max 1 many := by omega
    have hlog : (max 1 many).natAbs.log2 < 9000 := by
      have h1 : (max 1 many).natAbs.log2 < 64 := PySem.Flt.log2_lt_of (by decide) (show (max 1 many).natAbs < 2 ^ 64 by omega)
      omega
    -- the while
    refine while_at (fun m H' => Drw p l H H' ∧ ∃ kvs cells x mm t, SrcC p l H' kvs cells x mm t ∧ m = cells.length) ?_ ?_ ?_ ?_
    · obtain ⟨kvs, cells, x, mm, t, s⟩ := j.1
      exact ⟨cells.length, fun a o _ _ e => e, kvs, cells, x, mm, t, s, rfl⟩
    · rintro H1 ⟨m, dr, kvs, cells, x, mm, t, s, rfl⟩
      -- left = source['left']
      refine ⟨_, rfl, p, _, rfl, s.gL, ?_⟩
      refine ⟨_, rfl, _, _, rfl, rfl, _, rfl, ?_⟩
      by_cases c1 : many < 2
      · rw [decide_eq_true c1]
        refine iteT (iteT ?_)
        refine ⟨_, rfl, _, rfl, 1, many, rfl, x, _, rfl, rfl, ?d1, _, rfl, p, _, rfl, DPut.k (k := kLeft) s.hd (len100 s.hn), ?_⟩
        (case d1 => (rw [max_eq]; exact ⟨by omega, hlog⟩))
        refine ⟨_, rfl, .inl ⟨x, rfl, _, rfl, 1, many, rfl, x, _, rfl, rfl, ?d2, ?_⟩⟩
        (case d2 => (rw [max_eq]; exact (by omega : max 1 many ≠ 0)))
        rw [max_eq]
        exact fin _ _ _ _ _ _ (s.pL _) dr.put _ (Int.fmod_nonneg_of_pos _ hpos) (Int.fmod_lt_of_pos _ hpos)
      · rw [decide_eq_false c1]
        refine iteF ⟨_, rfl, _, _, rfl, rfl, _, rfl, ?_⟩
        by_cases c2 : 1 < x
        · rw [decide_eq_true c2]
          refine iteT ?_
          refine ⟨_, rfl, _, rfl, 1, many, rfl, x, _, rfl, rfl, ?d1, _, rfl, p, _, rfl, DPut.k (k := kLeft) s.hd (len100 s.hn), ?_⟩
          (case d1 => (rw [max_eq]; exact ⟨by omega, hlog⟩))
          refine ⟨_, rfl, .inl ⟨x, rfl, _, rfl, 1, many, rfl, x, _, rfl, rfl, ?d2, ?_⟩⟩
          (case d2 => (rw [max_eq]; exact (by omega : max 1 many ≠ 0)))
          rw [max_eq]
          exact fin _ _ _ _ _ _ (s.pL _) dr.put _ (Int.fmod_nonneg_of_pos _ hpos) (Int.fmod_lt_of_pos _ hpos)
        · rw [decide_eq_false c2]
          refine iteF ?_
          refine ⟨_, rfl, p, _, rfl, s.gT, .inl ⟨t, 1, rfl, rfl, _, rfl, p, _, rfl, DPut.k (k := kTurn) s.hd (len100 s.hn), ?_⟩⟩
          have s2 := s.pT (t + 1)
          refine ⟨_, rfl, p, _, rfl, s2.gM, _, rfl, p, _, rfl, s2.gT, .inl ⟨_, _, rfl, rfl, .inr (.inr ⟨by decide, by decide⟩), .inl ⟨_, _, rfl, rfl, .inl ⟨_, rfl, _, _, rfl, rfl, (show (998244353 : Int) ≠ 0 by decide), ?_⟩⟩⟩⟩
          have b1 := Int.fmod_nonneg_of_pos (mm + (t + 1) * 104729) (show (0 : Int) < 998244353 by decide)
          have b2 := Int.fmod_lt_of_pos (mm + (t + 1) * 104729) (show (0 : Int) < 998244353 by decide)
          refine ⟨_, rfl, _, rfl, .inl ⟨_, _, rfl, rfl, .inr (.inl ⟨by omega, by omega⟩), _, rfl, p, _, rfl, s2.gT, .inl ⟨_, _, rfl, rfl, .inr (.inr ⟨by decide, by decide⟩), .inl ⟨_, _, rfl, rfl, .inl ⟨_, rfl, _, _, rfl, rfl, (show (2147483647 : Int) ≠ 0 by decide), ?_⟩⟩⟩⟩⟩
          have b3 := Int.fmod_nonneg_of_pos ((mm + (t + 1) * 104729).fmod 998244353 * (mm + (t + 1) * 104729).fmod 998244353 + (t + 1) * 17) (show (0 : Int) < 2147483647 by decide)
          have b4 := Int.fmod_lt_of_pos ((mm + (t + 1) * 104729).fmod 998244353 * (mm + (t + 1) * 104729).fmod 998244353 + (t + 1) * 17) (show (0 : Int) < 2147483647 by decide)
          refine ⟨_, rfl, _, rfl, p, _, rfl, DPut.k (k := kMixed) s2.hd (len100 s2.hn), ?_⟩
          refine ⟨_, rfl, _, _, rfl, rfl, ⟨by decide, by decide⟩, .inl ⟨_, rfl, _, rfl, _, _, rfl, rfl, (show many ≠ 0 by omega), ?_⟩⟩
          have e : max 1 many = many := by omega
          refine fin _ _ _ _ _ _ (s2.pM _ ⟨by omega, by omega⟩) dr.put.put _ ?_ ?_
          · exact Int.fmod_nonneg_of_pos _ (by omega)
          · rw [e]; exact Int.fmod_lt_of_pos _ (by omega)
    · intro after m H1 ⟨dr, kvs, cells, x, mm, t, s, hm⟩
      subst hm
      have aft := after H1 ⟨_, dr, kvs, cells, x, mm, t, s, rfl⟩
      by_cases c1 : 1 < many
      · refine ⟨_, rfl, _, _, rfl, rfl, _, rfl, ?_⟩
        rw [decide_eq_true c1]
        refine iteT ⟨_, rfl, p, _, rfl, s.gL, _, _, rfl, rfl, _, rfl, ?_⟩
        by_cases c2 : x < 2
        · rw [decide_eq_true c2]
          refine iteT ⟨_, rfl, p, _, rfl, s.gC, l, _, rfl, .inl (SqL.of s.hl), _, _, rfl, rfl, _, rfl, ?_⟩
          by_cases c3 : (0 : Int) < ((cells.map V.int).length : Nat)
          · rw [decide_eq_true c3]
            refine iteT ?_
            obtain ⟨c, hc⟩ : ∃ c : Int, (cells.map V.int)[(cells.map V.int).length - 1]? = some (V.int c) := by
              rw [List.length_map] at c3 ⊢
              refine ⟨cells[cells.length - 1]'(by omega), ?_⟩
              rw [List.getElem?_map, List.getElem?_eq_getElem (by omega)]
              rfl
            refine ⟨_, rfl, p, _, rfl, s.gC, .inl ⟨rfl, _, SqL.of s.hl⟩, l, _, _, rfl, rfl, s.hl, hc, ?_⟩
            have s2 := s.pop
            refine ⟨_, rfl, p, _, rfl, DPut.k (k := kLeft) s2.hd (len100 s2.hn), rfl, cells.dropLast.length, ?_, dr.putl.put, _, _, _, _, _, s2.pL c, rfl⟩
            rw [List.length_dropLast]
            rw [List.length_map] at c3
            omega
          · rw [decide_eq_false c3]
            exact iteF aft
        · rw [decide_eq_false c2]
          exact iteF aft
      · refine ⟨_, rfl, _, _, rfl, rfl, _, rfl, ?_⟩
        rw [decide_eq_false c1]
        exact iteF aft
    · rintro σ H Q Q' hq ⟨a1, a2, i1, j1, b1, b2, k1, k2, h⟩
      refine ⟨a1, a2, i1, j1, b1, b2, k1, k2, ?_⟩
      cases k1 with
      | false => exact hq _ _ h
      | true =>
        obtain ⟨c1, c2, p1, v1, d1, d2, i2, j2, b3, b4, k3, k4, h⟩ := h
        refine ⟨c1, c2, p1, v1, d1, d2, i2, j2, b3, b4, k3, k4, ?_⟩
        cases k3 with
        | false => exact hq _ _ h
        | true =>
          obtain ⟨c3, c4, p2, v2, d3, d4, p3, ys, b5, b6, i3, j3, b7, b8, k5, k6, h⟩ := h
          exact ⟨c3, c4, p2, v2, d3, d4, p3, ys, b5, b6, i3, j3, b7, b8, k5, k6, hq _ _ h⟩
end
end K01
end
section
set_option Elab.async false
set_option linter.all false
set_option maxRecDepth 100000
namespace K01
open PySem L2 PySem.Spec PyProof.Rows Dl
section
variable {P : Program} {w : World} {K : PySem.W.Frag} {mg : Str → Option Value} {base : Heap}
def spSource (K : PySem.W.Frag) : Sp := fun vs H Q _ => ∃ (a : Addr) (ns : List Int), vs = [.ref a] ∧ SqL K H a (ns.map V.int) ∧ ns.length ≤ 63 ∧ ∀ p l H', Same H H' → H p = none → H l = none → Src p l H' → Q (.ref p) H'
theorem merge4 {v1 v2 v3 v4 : V} : mergeK [] [(kCells, v1), (kLeft, v2), (kMixed, v3), (kTurn, v4)] = [(kCells, v1), (kLeft, v2), (kMixed, v3), (kTurn, v4)] := by
  show putK (putK (putK (putK [] kCells v1) kLeft v2) kMixed v3) kTurn v4 = _
  have n0 : valV ([] : List (Key × V)) kCells = none := rfl
  have n1 : valV [(kCells, v1)] kLeft = none := by rw [valV_neg k1]; rfl
  have n2 : valV [(kCells, v1), (kLeft, v2)] kMixed = none := by rw [valV_neg k7, valV_neg k8]; rfl
  have n3 : valV [(kCells, v1), (kLeft, v2), (kMixed, v3)] kTurn = none := by rw [valV_neg k4, valV_neg k5, valV_neg k6]; rfl
  rw [putK_new _ n0]
  show putK (putK (putK [(kCells, v1)] kLeft v2) kMixed v3) kTurn v4 = _
  rw [putK_new _ n1]
  show putK (putK [(kCells, v1), (kLeft, v2)] kMixed v3) kTurn v4 = _
  rw [putK_new _ n2]
  show putK [(kCells, v1), (kLeft, v2), (kMixed, v3)] kTurn v4 = _
  rw [putK_new _ n3]
  rfl
theorem ok_source {f : Addr} {fd : FuncData} (F : Fun K "_law_source" "_law_source" st_l_source f fd) (T : Tx mg) : FnOk P w K mg base CX0 1 f fd ["script"] (spSource K) := by
  have nd := sc_l_source.nd
  refine F.ok sc_l_source (fun vs H Q E h => ?_) (fun cdv A outer s H vs Q E hr h => ?_)
  · obtain ⟨a, ns, rfl, _⟩ := h
    rfl
  · obtain ⟨a, ns, rfl, hS, hn, k⟩ := h
    have hu := hu_of hr
    refine ⟨_, (pss_cons (ps_set (i := 1) nd rfl (Or.inl rfl) pe_int)
      (pss_cons (ps_for PassesOwn.never rfl (pi_list (pv 0)) (pg_name (i := 2) nd rfl (by first | exact Or.inl rfl | exact Or.inr rfl)) (pss_one (ps_set (i := 1) nd rfl (Or.inl rfl) (pe_op op_modN (pe_callTy call_int1 (by rfl) T.int (by decide +kernel) (pa_cons (pe_op op_addA (pe_op op_addA (pe_op op_mulA (pv 1) pe_int) (pe_op op_mulA (pv 2) pe_int)) pe_int) pa_nil)) pe_int))))
      (pss_one (ps_ret (pe_disp (pps_cons pe_str (pe_revL (pe_lc (own := [("cell", 2)]) rfl nd (pi_list (pv 0)) (blkOk_by (N := names_l_source) (sc := defScope st_l_source) (by decide +kernel)) (fun _ _ _ _ _ => (pg_name (i := 2) nd rfl (by first | exact Or.inl rfl | exact Or.inr rfl))) (fun _ _ _ _ _ => pts_nil) (fun _ _ _ _ _ => (pe_callB call_abs (by rfl) T.abs (by decide +kernel) (pa_cons (pv 2) pa_nil)))))
        (pps_cons pe_str pe_int (pps_cons pe_str (pv 1) (pps_cons pe_str pe_int pps_nil)))) (by rfl) (by rfl) (fun z => by cases z) (by decide)))))), ?_⟩
    refine ⟨_, rfl, a, rfl, ⟨_, hS⟩, for_list (K := K) (a := a) (xs := ns.map V.int) (fun i σ H2 => ∃ (m : Int) (v : Option V), σ = [some (.ref a), some (.int m), v] ∧ (-(2 ^ 64) < m ∧ m < 2 ^ 64) ∧ H2 = H) ⟨11, none, rfl, ⟨by decide, by decide⟩, rfl⟩ (fun i σ H2 _ ⟨_, _, _, _, e⟩ => by rw [e]; exact hS) ?_ ?_⟩
    · rintro i y σ H2 hi ⟨m, v, rfl, hb, rfl⟩
      obtain ⟨c, rfl⟩ : ∃ c, y = V.int c := by
        rw [List.getElem?_map] at hi
        cases e : ns[i]? with
        | none => rw [e] at hi; cases hi
        | some z => rw [e] at hi; exact ⟨z, (Option.some.inj hi).symm⟩
      refine ⟨_, rfl, .inl ⟨_, _, rfl, rfl, .inr (.inl hb), _, rfl, .inl ⟨_, _, rfl, rfl, .inr (.inr ⟨by decide, by decide⟩), .inl ⟨_, _, rfl, rfl, .inl ⟨_, _, rfl, rfl, .inl ⟨_, rfl, _, _, rfl, rfl, (show (2147483629 : Int) ≠ 0 by decide), ?_⟩⟩⟩⟩⟩⟩
      have b1 := Int.fmod_nonneg_of_pos (m * 69069 + c * 31 + 5) (show (0 : Int) < 2147483629 by decide)
      have b2 := Int.fmod_lt_of_pos (m * 69069 + c * 31 + 5) (show (0 : Int) < 2147483629 by decide)
      exact ⟨_, _, rfl, ⟨by omega, by omega⟩, rfl⟩
    · rintro σ H2 ⟨m, v, rfl, hb, rfl⟩
      intro p hp
      have sH : Same H2 (upd H2 p (.dK [])) := fun b o e => by rw [upd_ne (ne_of_none e hp)]; exact e
      refine ⟨_, rfl, a, rfl, ⟨_, sH.seq hS⟩, fun D hD => ?_⟩
      have npD : D ≠ p := fun z => by rw [z, upd_same] at hD; cases hD
      have hD0 : H2 D = none := by rw [upd_ne npD] at hD; exact hD
      refine lc_list (K := K) (a := a) (xs := ns.map V.int) (fun i H3 => Same H2 H3 ∧ H3 p = some (.dK []) ∧ ∃ cs : List Int, H3 D = some (.lst (cs.map V.int)) ∧ cs.length = i) ⟨fun b o e => ?_, ?_, [], upd_same, rfl⟩ (fun i H3 _ ⟨sm, _⟩ => sm.seq hS) (fun i x H3 hi ⟨sm, ep, cs, ed, hl⟩ => ?_) ?_
      · rw [upd_ne (ne_of_none e hD0)]; exact sH b o e
      · rw [upd_ne npD.symm]; exact upd_same
      · obtain ⟨c, rfl⟩ : ∃ c, x = V.int c := by
          rw [List.getElem?_map] at hi
          cases e : ns[i]? with
          | none => rw [e] at hi; cases hi
          | some z => rw [e] at hi; exact ⟨z, (Option.some.inj hi).symm⟩
        have hi2 : i < ns.length := by
          have := (List.getElem?_eq_some_iff.mp hi).1
          rwa [List.length_map] at this
        refine ⟨rfl, ?_⟩
        refine ⟨_, rfl, c, rfl, _, ed, ?_, fun b o e => ?_, ?_, cs ++ [if c < 0 then -c else c], ?_, ?_⟩
        · rw [List.length_map, hl]; exact Nat.lt_of_lt_of_le (Nat.lt_of_lt_of_le hi2 hn) (by decide)
        · rw [upd_ne (ne_of_none e hD0)]; exact sm b o e
        · rw [upd_ne npD.symm]; exact ep
        · rw [upd_same, List.map_append]; rfl
        · rw [List.length_append, List.length_singleton, hl]
      · rintro H3 ⟨sm, ep, cs, ed, hl⟩
        refine ⟨D, _, rfl, SqL.of ed, fun l hl2 => ?_⟩
        have nlp : l ≠ p := fun z => by rw [z, ep] at hl2; cases hl2
        refine ⟨_, rfl, ?_⟩
        refine ⟨by rw [upd_ne nlp.symm]; exact ep, [(kCells, .ref l), (kLeft, .int 1), (kMixed, .int m), (kTurn, .int 0)], rfl, (show 4 ≤ 15 by decide), ?_⟩
        rw [merge4]
        refine k p l _ (fun b o e => ?_) hp (sm.free hl2) ⟨_, cs.reverse, 1, m, 0, upd_same, (show 4 ≤ 100 by decide), valV_pos rfl, by rw [valV_neg k1, valV_pos rfl], by rw [valV_neg k7, valV_neg k8, valV_pos rfl], by rw [valV_neg k4, valV_neg k5, valV_neg k6, valV_pos rfl], ?_, hb⟩
        · rw [upd_ne (ne_of_none e hp), upd_ne (ne_of_none (sm b o e) hl2)]; exact sm b o e
        · rw [upd_ne nlp, upd_same, List.map_reverse]
end
end K01
end
section
set_option Elab.async false
set_option linter.all false
set_option maxRecDepth 100000
namespace K01
open PySem L2 PySem.Spec PyProof.Rows Dl RZ

theorem ex_b {b : Bool} {Q : Bool → Prop} (q : Q b) : ∃ c, PyData.bool b = .bool c ∧ Q c := ⟨b, rfl, q⟩
theorem ex_i {b : Int} {Q : Int → Prop} (q : Q b) : ∃ c, PyData.int b = .int c ∧ Q c := ⟨b, rfl, q⟩
theorem ex_t {b : List PyData} {Q : List PyData → Prop} (q : Q b) : ∃ c, PyData.tuple b = .tuple c ∧ Q c := ⟨b, rfl, q⟩
theorem ex_l {b : List PyData} {Q : List PyData → Prop} (q : Q b) : ∃ c, PyData.list b = .list c ∧ Q c := ⟨b, rfl, q⟩
theorem ex_2 {a b : PyData} {Q : PyData → PyData → Prop} (q : Q a b) : ∃ c d, [a, b] = [c, d] ∧ Q c d := ⟨a, b, rfl, q⟩
theorem len_and {ds : List PyData} {A : Prop} (h : ds.length ≤ 100000) (a : A) : ds.length ≤ 100000 ∧ A := ⟨h, a⟩
theorem own_and {es : List Ent} {A : Prop} (h : owned es = []) (a : A) : owned es = [] ∧ A := ⟨h, a⟩

/-! ### sizes -/
def Bit (n : Nat) (x : Int) : Prop := x.natAbs < 2 ^ n
theorem Bit.mono {n m : Nat} {x : Int} (h : Bit n x) (l : n ≤ m) : Bit m x := Nat.lt_of_lt_of_le h (Nat.pow_le_pow_right (by decide) l)
theorem Bit.mul {n m : Nat} {x y : Int} (h : Bit n x) (g : Bit m y) : Bit (n + m) (x * y) := wide_lt h g
theorem Bit.add {n : Nat} {x y : Int} (h : Bit n x) (g : Bit n y) : Bit (n + 1) (x + y) := by
  unfold Bit at *
  rw [Nat.pow_succ]
  omega
theorem Bit.sub {n : Nat} {x y : Int} (h : Bit n x) (g : Bit n y) : Bit (n + 1) (x - y) := by
  unfold Bit at *
  rw [Nat.pow_succ]
  omega
theorem Bit.neg {n : Nat} {x : Int} (h : Bit n x) : Bit n (-x) := by
  unfold Bit at *
  omega
theorem Bit.mulOk {n m : Nat} {x y : Int} (h : Bit n x) (g : Bit m y) (l : n + m ≤ 900000) : CMulA x y := by
  refine .inl (wide_mul (a := n + 1) (b := m + 1) (h.mono (Nat.le_succ n)) (g.mono (Nat.le_succ m)) (Nat.succ_pos _) (Nat.succ_pos _) (by omega))
theorem Bit.divOk {n : Nat} {x y : Int} (h : Bit n y) (h0 : y ≠ 0) (l : n ≤ 8999) : CDivG x y := ⟨h0, by
  have e : y.natAbs.log2 < n + 1 := PySem.Flt.log2_lt_of (Nat.succ_pos n) (h.mono (Nat.le_succ n))
  omega⟩
theorem Bit.log {n m : Nat} {x : Int} (h : Bit n x) (l : n < m) : x.natAbs.log2 < m := by
  have e : x.natAbs.log2 < n + 1 := PySem.Flt.log2_lt_of (Nat.succ_pos n) (h.mono (Nat.le_succ n))
  omega

/-! ### fractions -/
abbrev frD (x : Int × Int) : PyData := .tuple [.int x.1, .int x.2]
def gc (a b : Int) : Int := ((Nat.gcd a.natAbs b.natAbs : Nat) : Int)
def lst (a b : Int) : Int × Int := (a.fdiv (if 0 < b then gc a b else 0 - gc a b), b.fdiv (if 0 < b then gc a b else 0 - gc a b))
structure Fq (n : Nat) (x : Int × Int) : Prop where
  pos : 0 < x.2
  b1 : Bit n x.1
  b2 : Bit n x.2
theorem Fq.mono {n m : Nat} {x : Int × Int} (h : Fq n x) (l : n ≤ m) : Fq m x := ⟨h.pos, h.b1.mono l, h.b2.mono l⟩
theorem gc_pos {a b : Int} (h : b ≠ 0) : 0 < gc a b := by
  unfold gc
  have : 0 < Nat.gcd a.natAbs b.natAbs := Nat.gcd_pos_of_pos_right _ (by omega)
  omega
theorem gc_dvd1 (a b : Int) : gc a b ∣ a := by
  unfold gc
  exact Int.ofNat_dvd_left.mpr (Nat.gcd_dvd_left _ _)
theorem gc_dvd2 (a b : Int) : gc a b ∣ b := by
  unfold gc
  exact Int.ofNat_dvd_left.mpr (Nat.gcd_dvd_right _ _)
theorem gc_neg (a b : Int) : gc (-a) (-b) = gc a b := by
  unfold gc
  rw [Int.natAbs_neg, Int.natAbs_neg]
theorem gc_bit {n : Nat} {a b : Int} (h : b ≠ 0) (hb : Bit n b) : Bit n (gc a b) := by
  unfold Bit gc at *
  have := Nat.gcd_le_right a.natAbs (show 0 < b.natAbs by omega)
  omega
theorem fdiv_of {g c : Int} (h : g ≠ 0) : (g * c).fdiv g = c := Int.mul_fdiv_cancel_left c h
theorem fdiv_of' {g c : Int} (h : g ≠ 0) : (g * c).fdiv (0 - g) = -c := by
  have e : g * c = (0 - g) * (-c) := by
    rw [Int.zero_sub, Int.neg_mul_neg]
  rw [e]
  exact Int.mul_fdiv_cancel_left _ (by omega)
/-- what both ways make -/
theorem lst_neg {p q : Int} (h : q < 0) : ((-p).fdiv (gc (-p) (-q)), (-q).fdiv (gc (-p) (-q))) = lst p q := by
  have g0 : gc p q ≠ 0 := by have := gc_pos (a := p) (b := q) (by omega); omega
  obtain ⟨c, hc⟩ := gc_dvd1 p q
  obtain ⟨d, hd⟩ := gc_dvd2 p q
  unfold lst
  rw [gc_neg, if_neg (show ¬ (0 < q) by omega)]
  generalize gc p q = g at *
  subst hc
  subst hd
  rw [fdiv_of' g0, fdiv_of' g0, ← Int.mul_neg, ← Int.mul_neg, fdiv_of g0, fdiv_of g0]
theorem lst_pos {p q : Int} (h : 0 < q) : lst p q = (p.fdiv (gc p q), q.fdiv (gc p q)) := by
  unfold lst
  rw [if_pos h]
theorem pos_right {g d : Int} (hg : 0 < g) (h : 0 < g * d) : 0 < d := by
  by_cases hd : 0 < d
  · exact hd
  · have e := Int.mul_le_mul_of_nonneg_left (show d ≤ 0 by omega) (show 0 ≤ g by omega)
    rw [Int.mul_zero] at e
    omega
theorem lst_fq {n : Nat} {p q : Int} (h0 : q ≠ 0) (h1 : Bit n p) (h2 : Bit n q) : Fq n (lst p q) := by
  have g0 := gc_pos (a := p) (b := q) h0
  obtain ⟨c, hc⟩ := gc_dvd1 p q
  obtain ⟨d, hd⟩ := gc_dvd2 p q
  have key : ∀ g c n : Int, 0 < g → n = g * c → c.natAbs ≤ n.natAbs := by
    intro g c n hg e
    rw [e, Int.natAbs_mul]
    exact Nat.le_mul_of_pos_left _ (by omega)
  have b1 := key _ _ _ g0 hc
  have b2 := key _ _ _ g0 hd
  have dpos : 0 < q → 0 < d := fun h => by
    rw [hd] at h
    exact pos_right g0 h
  have dneg : q < 0 → d < 0 := fun h => by
    have : 0 < gc p q * (-d) := by rw [Int.mul_neg, ← hd]; omega
    have := pos_right g0 this
    omega
  unfold lst
  by_cases hq : 0 < q
  · rw [if_pos hq]
    have e1 : p.fdiv (gc p q) = c := by
      conv => lhs; lhs; rw [hc]
      exact fdiv_of (by omega)
    have e2 : q.fdiv (gc p q) = d := by
      conv => lhs; lhs; rw [hd]
      exact fdiv_of (by omega)
    rw [e1, e2]
    exact ⟨dpos hq, Nat.lt_of_le_of_lt b1 h1, Nat.lt_of_le_of_lt b2 h2⟩
  · rw [if_neg hq]
    have e1 : p.fdiv (0 - gc p q) = -c := by
      conv => lhs; lhs; rw [hc]
      exact fdiv_of' (by omega)
    have e2 : q.fdiv (0 - gc p q) = -d := by
      conv => lhs; lhs; rw [hd]
      exact fdiv_of' (by omega)
    rw [e1, e2]
    have := dneg (by omega)
    refine ⟨by show 0 < -d; omega, ?_, ?_⟩
    · unfold Bit at *; show (-c).natAbs < _; omega
    · unfold Bit at *; show (-d).natAbs < _; omega
/-! ### one step of a reading -/
local macro_rules | `(tactic| walk_at "dl") => `(tactic| first
  | ((with_reducible refine ew_varE ?_); refine ⟨_, rfl, ?_⟩)
  | ((with_reducible refine ew_int ?_))
  | ((with_reducible refine ew_str ?_))
  | ((with_reducible refine ew_bl ?_))
  | ((with_reducible refine ew_non ?_))
  | ((with_reducible refine ew_op ?_))
  | ((with_reducible refine ew_un ?_))
  | ((with_reducible refine ew_tup ?_))
  | ((with_reducible refine ew_lst ?_))
  | ((with_reducible refine ew_call ?_))
  | ((with_reducible refine ew_isi ?_))
  | ((with_reducible refine ew_cb ?_))
  | ((with_reducible refine ea_nil ?_))
  | ((with_reducible refine ea_rawE ?_); refine ⟨_, rfl, ?_⟩)
  | ((with_reducible refine ea_cons ?_))
  | ((with_reducible refine AllD.nil ?_))
  | ((with_reducible refine AllD.cons ?_))
  | ((with_reducible refine ew_if ?_))
  | ((with_reducible refine ew_isN ?_))
  | ((with_reducible refine ew_sl ?_))
  | ((with_reducible refine eo_none ?_))
  | ((with_reducible refine eo_some ?_))
  | ((with_reducible refine sd_list ?_))
  | ((with_reducible refine sd_tup ?_))
  | ((with_reducible refine tw_test ?_))
  | ((with_reducible refine tw_B ?_))
  | ((with_reducible refine tw_not ?_))
  | ((with_reducible refine tw_and ?_))
  | ((with_reducible refine tw_or ?_))
  | ((with_reducible refine sw_seq ?_))
  | ((with_reducible refine sw_if ?_))
  | ((with_reducible refine sw_ret ?_))
  | ((with_reducible refine sw_set ?_))
  | ((with_reducible refine sw_par ?_))
  | ((with_reducible refine sw_nx ?_))
  | ((with_reducible refine od_ix ?_); refine ⟨_, _, _, rfl, rfl, rfl, ?_⟩)
  | ((with_reducible refine od_mulI ?_); refine ⟨_, _, rfl, rfl, ?_, ?_⟩)
  | ((with_reducible refine od_addI ?_); refine ⟨_, _, rfl, rfl, ?_⟩)
  | ((with_reducible refine od_addL ?_); refine ⟨_, _, rfl, rfl, ?_, ?_⟩)
  | ((with_reducible refine od_I0 ?_); refine ⟨_, _, rfl, rfl, ?_⟩)
  | ((with_reducible refine od_B0 ?_); refine ⟨_, _, rfl, rfl, ?_⟩)
  | ((with_reducible refine od_I ?_); refine ⟨_, _, rfl, rfl, ?_, ?_⟩)
  | ((with_reducible refine ud_I ?_); refine ⟨_, rfl, ?_⟩)
  | ((with_reducible refine od_eqI' ?_))
  | ((with_reducible refine od_neI' ?_))
  | ((with_reducible refine od_eqS' ?_))
  | ((with_reducible refine od_neS' ?_))
  | ((with_reducible refine cd_gcd ?_); refine ⟨_, _, rfl, ?_⟩)
  | ((with_reducible refine qAbs ?_); refine ⟨_, rfl, ?_⟩)
  | ((with_reducible refine qInt ?_); refine ⟨_, rfl, ?_⟩)
  | ((with_reducible refine qLen ?_); refine ⟨_, _, rfl, rfl, ?_⟩)
  | ((with_reducible refine qTup ?_); refine ⟨_, _, rfl, rfl, ?_⟩)
  | ((with_reducible refine qLst ?_); refine ⟨_, _, rfl, rfl, ?_⟩)
  | ((with_reducible refine cd_repr ?_); refine ⟨_, rfl, ⟨_, ?_⟩, ?_, ?_, ?_, ?_⟩)
  | ((with_reducible refine qIntB ?_); refine ⟨_, rfl, ?_⟩)
  | ((with_reducible refine qMax2 ?_); refine ⟨_, _, rfl, ?_⟩)
  | ((with_reducible refine cd_all ?_); refine ⟨_, rfl, ?_⟩)
  | ((with_reducible refine ex_b ?_))
  | ((with_reducible refine ex_i ?_))
  | ((with_reducible refine ex_t ?_))
  | ((with_reducible refine ex_l ?_))
  | ((with_reducible refine ex_2 ?_))
  | ((with_reducible refine len_and ?_ ?_); exact Nat.le_of_ble_eq_true rfl)
  | ((with_reducible refine own_and ?_ ?_); rfl))
section
variable {P : Program} {w : World} {K : PySem.W.Frag} {mg : Str → Option Value} {base : Heap}
def mFr (_ : Fr) (es : List Ent) (R : PyData → Prop) : Prop := ∃ p q : Int, es = [.dat (.int p), .dat (.int q)] ∧ q ≠ 0 ∧ Bit 8999 q ∧ R (frD (lst p q))
theorem ok_fraction_of {f : Addr} {fd : FuncData} (F : Fun K "fraction_of" "fraction_of" st_fraction_of f fd) (T : Tx mg) : FnOk P w K mg base CX0 1 f fd ["p", "q"] (spG mFr) := by
  have nd := sc_fraction_of.nd
  refine fn_dl F sc_fraction_of (fun B es R ⟨p, q, e, _⟩ => by rw [e]; rfl) fun cdv A outer s H E hr B es R hm => ?_
  obtain ⟨p, q, rfl, h0, h9, hR⟩ := hm
  refine ⟨_, (pss_cons (ps_if (pt_cmpR op_lt (pv 1) pe_int (nomark _)) (pss_one (ps_par (i := 0) (j := 1) (by rfl) nd rfl rfl (by decide) rfl rfl (pa_cons (pe_un un_neg (pv 0)) (pa_cons (pe_un un_neg (pv 1)) pa_nil)) (by rfl))) pss_nil)
      (pss_cons (ps_set (i := 2) nd rfl (by first | exact Or.inl rfl | exact Or.inr rfl) (pe_callBfun cr_gcd (by rfl) T.gcd (pa_cons (pv 0) (pa_cons (pv 1) pa_nil))))
      (pss_one (ps_ret (pe_tup (pa_cons (pe_op op_fdivG (pv 0) (pv 2)) (pa_cons (pe_op op_fdivG (pv 1) (pv 2)) pa_nil))))))), ?_⟩
  show SW B [.dat (.int p), .dat (.int q), .non] _ _
  repeat' walk_at "dl"
  refine ite2 (fun hq => ?_) (fun hq => ?_)
  all_goals (repeat' walk_at "dl")
  · have e := of_decide_eq_true hq
    have g0 := gc_pos (a := p) (b := q) h0
    show CDivG _ (gc (-p) (-q))
    rw [gc_neg]
    exact (gc_bit h0 h9).divOk (by omega) (by omega)
  · have g0 := gc_pos (a := p) (b := q) h0
    show CDivG _ (gc (-p) (-q))
    rw [gc_neg]
    exact (gc_bit h0 h9).divOk (by omega) (by omega)
  · have e := lst_neg (p := p) (q := q) (of_decide_eq_true hq)
    rw [← e] at hR
    exact hR
  · have g0 := gc_pos (a := p) (b := q) h0
    exact (gc_bit (a := p) h0 h9).divOk (x := p) (by omega) (by omega)
  · have g0 := gc_pos (a := p) (b := q) h0
    exact (gc_bit (a := p) h0 h9).divOk (x := q) (by omega) (by omega)
  · have hq' : ¬ q < 0 := fun z => hq (decide_eq_true z)
    rw [lst_pos (by omega)] at hR
    exact hR
end
end K01
end
section
set_option Elab.async false
set_option linter.all false
set_option maxRecDepth 100000
namespace K01
open PySem L2 PySem.Spec PyProof.Rows Dl RZ
local macro_rules | `(tactic| walk_at "dl") => `(tactic| first
  | ((with_reducible refine ew_varE ?_); refine ⟨_, rfl, ?_⟩)
  | ((with_reducible refine ew_int ?_))
  | ((with_reducible refine ew_str ?_))
  | ((with_reducible refine ew_bl ?_))
  | ((with_reducible refine ew_non ?_))
  | ((with_reducible refine ew_op ?_))
  | ((with_reducible refine ew_un ?_))
  | ((with_reducible refine ew_tup ?_))
  | ((with_reducible refine ew_lst ?_))
  | ((with_reducible refine ew_call ?_))
  | ((with_reducible refine ew_isi ?_))
  | ((with_reducible refine ew_cb ?_))
  | ((with_reducible refine ea_nil ?_))
  | ((with_reducible refine ea_rawE ?_); refine ⟨_, rfl, ?_⟩)
  | ((with_reducible refine ea_cons ?_))
  | ((with_reducible refine AllD.nil ?_))
  | ((with_reducible refine AllD.cons ?_))
  | ((with_reducible refine ew_if ?_))
  | ((with_reducible refine ew_isN ?_))
  | ((with_reducible refine ew_sl ?_))
  | ((with_reducible refine eo_none ?_))
  | ((with_reducible refine eo_some ?_))
  | ((with_reducible refine sd_list ?_))
  | ((with_reducible refine sd_tup ?_))
  | ((with_reducible refine tw_test ?_))
  | ((with_reducible refine tw_B ?_))
  | ((with_reducible refine tw_not ?_))
  | ((with_reducible refine tw_and ?_))
  | ((with_reducible refine tw_or ?_))
  | ((with_reducible refine sw_seq ?_))
  | ((with_reducible refine sw_if ?_))
  | ((with_reducible refine sw_ret ?_))
  | ((with_reducible refine sw_set ?_))
  | ((with_reducible refine sw_par ?_))
  | ((with_reducible refine sw_nx ?_))
  | ((with_reducible refine od_ix ?_); refine ⟨_, _, _, rfl, rfl, rfl, ?_⟩)
  | ((with_reducible refine od_mulI ?_); refine ⟨_, _, rfl, rfl, ?_, ?_⟩)
  | ((with_reducible refine od_addI ?_); refine ⟨_, _, rfl, rfl, ?_⟩)
  | ((with_reducible refine od_addL ?_); refine ⟨_, _, rfl, rfl, ?_, ?_⟩)
  | ((with_reducible refine od_I0 ?_); refine ⟨_, _, rfl, rfl, ?_⟩)
  | ((with_reducible refine od_B0 ?_); refine ⟨_, _, rfl, rfl, ?_⟩)
  | ((with_reducible refine od_I ?_); refine ⟨_, _, rfl, rfl, ?_, ?_⟩)
  | ((with_reducible refine ud_I ?_); refine ⟨_, rfl, ?_⟩)
  | ((with_reducible refine od_eqI' ?_))
  | ((with_reducible refine od_neI' ?_))
  | ((with_reducible refine od_eqS' ?_))
  | ((with_reducible refine od_neS' ?_))
  | ((with_reducible refine cd_gcd ?_); refine ⟨_, _, rfl, ?_⟩)
  | ((with_reducible refine qAbs ?_); refine ⟨_, rfl, ?_⟩)
  | ((with_reducible refine qInt ?_); refine ⟨_, rfl, ?_⟩)
  | ((with_reducible refine qLen ?_); refine ⟨_, _, rfl, rfl, ?_⟩)
  | ((with_reducible refine qTup ?_); refine ⟨_, _, rfl, rfl, ?_⟩)
  | ((with_reducible refine qLst ?_); refine ⟨_, _, rfl, rfl, ?_⟩)
  | ((with_reducible refine cd_repr ?_); refine ⟨_, rfl, ⟨_, ?_⟩, ?_, ?_, ?_, ?_⟩)
  | ((with_reducible refine qIntB ?_); refine ⟨_, rfl, ?_⟩)
  | ((with_reducible refine qMax2 ?_); refine ⟨_, _, rfl, ?_⟩)
  | ((with_reducible refine cd_all ?_); refine ⟨_, rfl, ?_⟩)
  | ((with_reducible refine ex_b ?_))
  | ((with_reducible refine ex_i ?_))
  | ((with_reducible refine ex_t ?_))
  | ((with_reducible refine ex_l ?_))
  | ((with_reducible refine ex_2 ?_))
  | ((with_reducible refine len_and ?_ ?_); exact Nat.le_of_ble_eq_true rfl)
  | ((with_reducible refine own_and ?_ ?_); rfl))
section
variable {P : Program} {w : World} {K : PySem.W.Frag} {mg : Str → Option Value} {base : Heap}
def pl (x y : Int × Int) : Int × Int := lst (x.1 * y.2 + y.1 * x.2) (x.2 * y.2)
def mi (x y : Int × Int) : Int × Int := lst (x.1 * y.2 - y.1 * x.2) (x.2 * y.2)
def tm (x y : Int × Int) : Int × Int := lst (x.1 * y.1) (x.2 * y.2)
def ov (x y : Int × Int) : PyData := if y.1 = 0 then .none else frD (lst (x.1 * y.2) (x.2 * y.1))
def lessF (x y : Int × Int) : Bool := decide (x.1 * y.2 < y.1 * x.2)
def mBin (f : Int × Int → Int × Int → Int × Int) (_ : Fr) (es : List Ent) (R : PyData → Prop) : Prop := ∃ x y : Int × Int, es = [.dat (frD x), .dat (frD y)] ∧ Fq 4000 x ∧ Fq 4000 y ∧ R (frD (f x y))
def mOver (_ : Fr) (es : List Ent) (R : PyData → Prop) : Prop := ∃ x y : Int × Int, es = [.dat (frD x), .dat (frD y)] ∧ Fq 4000 x ∧ Fq 4000 y ∧ R (ov x y)
def mLess (_ : Fr) (es : List Ent) (R : PyData → Prop) : Prop := ∃ x y : Int × Int, es = [.dat (frD x), .dat (frD y)] ∧ Fq 4000 x ∧ Fq 4000 y ∧ R (.bool (lessF x y))
def mFloor (_ : Fr) (es : List Ent) (R : PyData → Prop) : Prop := ∃ x : Int × Int, es = [.dat (frD x)] ∧ Fq 4000 x ∧ R (.int (x.1.fdiv x.2))
def mCeil (_ : Fr) (es : List Ent) (R : PyData → Prop) : Prop := ∃ x : Int × Int, es = [.dat (frD x)] ∧ Fq 4000 x ∧ R (.int (-((-x.1).fdiv x.2)))
theorem fr_at {p q : Int} {R : PyData → Prop} {B : Fr} (h0 : q ≠ 0) (h9 : Bit 8999 q) (r : R (frD (lst p q))) : mFr B [.dat (.int p), .dat (.int q)] R := ⟨p, q, rfl, h0, h9, r⟩
theorem mul_ne {a b : Int} (h : 0 < a) (g : b ≠ 0) : a * b ≠ 0 := Int.mul_ne_zero (by omega) g
theorem ok_plus {f : Addr} {fd : FuncData} (F : Fun K "plus" "plus" st_plus f fd) (T : Tx mg) (c_fraction_of : Has P w K mg base "fraction_of" 1 ["p", "q"] (spG mFr))  : FnOk P w K mg base CX0 2 f fd ["one", "other"] (spG (mBin pl)) := by
  have nd := sc_plus.nd
  refine fn_dl F sc_plus (fun B es R ⟨x, y, e, _⟩ => by rw [e]; rfl) fun cdv A outer s H E hr B es R hm => ?_
  have hu := hu_of hr
  have hu64 := hr.units
  obtain ⟨x, y, rfl, hx, hy, hR⟩ := hm
  refine ⟨_, (pss_one (ps_ret (c_fraction_of.call hr (pa_cons (pe_op (kAdd (K := K) rfl) (pe_op (kMul (K := K) rfl) (pe_ix (kIx (K := K) rfl) (pv 0) pe_int (fun _ _ => rfl)) (pe_ix (kIx (K := K) rfl) (pv 1) pe_int (fun _ _ => rfl))) (pe_op (kMul (K := K) rfl) (pe_ix (kIx (K := K) rfl) (pv 1) pe_int (fun _ _ => rfl)) (pe_ix (kIx (K := K) rfl) (pv 0) pe_int (fun _ _ => rfl)))) (pa_cons (pe_op (kMul (K := K) rfl) (pe_ix (kIx (K := K) rfl) (pv 0) pe_int (fun _ _ => rfl)) (pe_ix (kIx (K := K) rfl) (pv 1) pe_int (fun _ _ => rfl))) pa_nil))))), ?_⟩
  show SW B [.dat (frD x), .dat (frD y)] _ _
  repeat' walk_at "dl"
  all_goals first
    | exact hx.b1.mulOk hy.b1 (by decide)
    | exact hx.b1.mulOk hy.b2 (by decide)
    | exact hx.b2.mulOk hy.b1 (by decide)
    | exact hx.b2.mulOk hy.b2 (by decide)
    | exact hy.b1.mulOk hx.b2 (by decide)
    | exact fr_at (mul_ne hx.pos (by have := hy.pos; omega)) ((hx.b2.mul hy.b2).mono (by decide)) hR

theorem ok_minus {f : Addr} {fd : FuncData} (F : Fun K "minus" "minus" st_minus f fd) (T : Tx mg) (c_fraction_of : Has P w K mg base "fraction_of" 1 ["p", "q"] (spG mFr))  : FnOk P w K mg base CX0 2 f fd ["one", "other"] (spG (mBin mi)) := by
  have nd := sc_minus.nd
  refine fn_dl F sc_minus (fun B es R ⟨x, y, e, _⟩ => by rw [e]; rfl) fun cdv A outer s H E hr B es R hm => ?_
  have hu := hu_of hr
  have hu64 := hr.units
  obtain ⟨x, y, rfl, hx, hy, hR⟩ := hm
  refine ⟨_, (pss_one (ps_ret (c_fraction_of.call hr (pa_cons (pe_op op_sub (pe_op (kMul (K := K) rfl) (pe_ix (kIx (K := K) rfl) (pv 0) pe_int (fun _ _ => rfl)) (pe_ix (kIx (K := K) rfl) (pv 1) pe_int (fun _ _ => rfl))) (pe_op (kMul (K := K) rfl) (pe_ix (kIx (K := K) rfl) (pv 1) pe_int (fun _ _ => rfl)) (pe_ix (kIx (K := K) rfl) (pv 0) pe_int (fun _ _ => rfl)))) (pa_cons (pe_op (kMul (K := K) rfl) (pe_ix (kIx (K := K) rfl) (pv 0) pe_int (fun _ _ => rfl)) (pe_ix (kIx (K := K) rfl) (pv 1) pe_int (fun _ _ => rfl))) pa_nil))))), ?_⟩
  show SW B [.dat (frD x), .dat (frD y)] _ _
  repeat' walk_at "dl"
  all_goals first
    | exact hx.b1.mulOk hy.b1 (by decide)
    | exact hx.b1.mulOk hy.b2 (by decide)
    | exact hx.b2.mulOk hy.b1 (by decide)
    | exact hx.b2.mulOk hy.b2 (by decide)
    | exact hy.b1.mulOk hx.b2 (by decide)
    | exact fr_at (mul_ne hx.pos (by have := hy.pos; omega)) ((hx.b2.mul hy.b2).mono (by decide)) hR

theorem ok_times {f : Addr} {fd : FuncData} (F : Fun K "times" "times" st_times f fd) (T : Tx mg) (c_fraction_of : Has P w K mg base "fraction_of" 1 ["p", "q"] (spG mFr))  : FnOk P w K mg base CX0 2 f fd ["one", "other"] (spG (mBin tm)) := by
  have nd := sc_times.nd
  refine fn_dl F sc_times (fun B es R ⟨x, y, e, _⟩ => by rw [e]; rfl) fun cdv A outer s H E hr B es R hm => ?_
  have hu := hu_of hr
  have hu64 := hr.units
  obtain ⟨x, y, rfl, hx, hy, hR⟩ := hm
  refine ⟨_, (pss_one (ps_ret (c_fraction_of.call hr (pa_cons (pe_op (kMul (K := K) rfl) (pe_ix (kIx (K := K) rfl) (pv 0) pe_int (fun _ _ => rfl)) (pe_ix (kIx (K := K) rfl) (pv 1) pe_int (fun _ _ => rfl))) (pa_cons (pe_op (kMul (K := K) rfl) (pe_ix (kIx (K := K) rfl) (pv 0) pe_int (fun _ _ => rfl)) (pe_ix (kIx (K := K) rfl) (pv 1) pe_int (fun _ _ => rfl))) pa_nil))))), ?_⟩
  show SW B [.dat (frD x), .dat (frD y)] _ _
  repeat' walk_at "dl"
  all_goals first
    | exact hx.b1.mulOk hy.b1 (by decide)
    | exact hx.b1.mulOk hy.b2 (by decide)
    | exact hx.b2.mulOk hy.b1 (by decide)
    | exact hx.b2.mulOk hy.b2 (by decide)
    | exact hy.b1.mulOk hx.b2 (by decide)
    | exact fr_at (mul_ne hx.pos (by have := hy.pos; omega)) ((hx.b2.mul hy.b2).mono (by decide)) hR

theorem ok_over {f : Addr} {fd : FuncData} (F : Fun K "over" "over" st_over f fd) (T : Tx mg) (c_fraction_of : Has P w K mg base "fraction_of" 1 ["p", "q"] (spG mFr))  : FnOk P w K mg base CX0 2 f fd ["one", "other"] (spG mOver) := by
  have nd := sc_over.nd
  refine fn_dl F sc_over (fun B es R ⟨x, y, e, _⟩ => by rw [e]; rfl) fun cdv A outer s H E hr B es R hm => ?_
  have hu := hu_of hr
  have hu64 := hr.units
  obtain ⟨x, y, rfl, hx, hy, hR⟩ := hm
  refine ⟨_, (pss_cons (ps_if (pt_cmpR (kEq (K := K) rfl hu64) (pe_ix (kIx (K := K) rfl) (pv 1) pe_int (fun _ _ => rfl)) pe_int (nomark _)) (pss_one (ps_ret pe_non)) pss_nil)
      (pss_one (ps_ret (c_fraction_of.call hr (pa_cons (pe_op (kMul (K := K) rfl) (pe_ix (kIx (K := K) rfl) (pv 0) pe_int (fun _ _ => rfl)) (pe_ix (kIx (K := K) rfl) (pv 1) pe_int (fun _ _ => rfl))) (pa_cons (pe_op (kMul (K := K) rfl) (pe_ix (kIx (K := K) rfl) (pv 0) pe_int (fun _ _ => rfl)) (pe_ix (kIx (K := K) rfl) (pv 1) pe_int (fun _ _ => rfl))) pa_nil)))))), ?_⟩
  show SW B [.dat (frD x), .dat (frD y)] _ _
  repeat' walk_at "dl"
  refine ite2 (fun h => ?_) (fun h => ?_)
  all_goals (repeat' walk_at "dl")
  · have e := of_decide_eq_true h
    unfold ov at hR
    rw [if_pos e] at hR
    exact hR
  · exact hx.b1.mulOk hy.b2 (by decide)
  · exact hx.b2.mulOk hy.b1 (by decide)
  · have e : ¬ y.1 = 0 := fun z => h (decide_eq_true z)
    unfold ov at hR
    rw [if_neg e] at hR
    exact fr_at (mul_ne hx.pos e) ((hx.b2.mul hy.b1).mono (by decide)) hR

theorem ok_is_less {f : Addr} {fd : FuncData} (F : Fun K "is_less" "is_less" st_is_less f fd) (T : Tx mg)   : FnOk P w K mg base CX0 1 f fd ["one", "other"] (spG mLess) := by
  have nd := sc_is_less.nd
  refine fn_dl F sc_is_less (fun B es R ⟨x, y, e, _⟩ => by rw [e]; rfl) fun cdv A outer s H E hr B es R hm => ?_
  have hu := hu_of hr
  have hu64 := hr.units
  obtain ⟨x, y, rfl, hx, hy, hR⟩ := hm
  refine ⟨_, (pss_one (ps_ret (pe_cmpR op_lt (pe_op (kMul (K := K) rfl) (pe_ix (kIx (K := K) rfl) (pv 0) pe_int (fun _ _ => rfl)) (pe_ix (kIx (K := K) rfl) (pv 1) pe_int (fun _ _ => rfl))) (pe_op (kMul (K := K) rfl) (pe_ix (kIx (K := K) rfl) (pv 1) pe_int (fun _ _ => rfl)) (pe_ix (kIx (K := K) rfl) (pv 0) pe_int (fun _ _ => rfl))) (nomark _)))), ?_⟩
  show SW B [.dat (frD x), .dat (frD y)] _ _
  repeat' walk_at "dl"
  · exact hx.b1.mulOk hy.b2 (by decide)
  · exact hy.b1.mulOk hx.b2 (by decide)
  · exact hR

theorem ok_floor_of {f : Addr} {fd : FuncData} (F : Fun K "floor_of" "floor_of" st_floor_of f fd) (T : Tx mg)   : FnOk P w K mg base CX0 1 f fd ["t"] (spG mFloor) := by
  have nd := sc_floor_of.nd
  refine fn_dl F sc_floor_of (fun B es R ⟨x, e, _⟩ => by rw [e]; rfl) fun cdv A outer s H E hr B es R hm => ?_
  have hu := hu_of hr
  have hu64 := hr.units
  obtain ⟨x, rfl, hx, hR⟩ := hm
  refine ⟨_, (pss_one (ps_ret (pe_op op_fdivG (pe_ix (kIx (K := K) rfl) (pv 0) pe_int (fun _ _ => rfl)) (pe_ix (kIx (K := K) rfl) (pv 0) pe_int (fun _ _ => rfl))))), ?_⟩
  show SW B [.dat (frD x)] _ _
  repeat' walk_at "dl"
  · exact hx.b2.divOk (by have := hx.pos; omega) (by decide)
  · exact hR

theorem ok_ceiling_of {f : Addr} {fd : FuncData} (F : Fun K "ceiling_of" "ceiling_of" st_ceiling_of f fd) (T : Tx mg)   : FnOk P w K mg base CX0 1 f fd ["t"] (spG mCeil) := by
  have nd := sc_ceiling_of.nd
  refine fn_dl F sc_ceiling_of (fun B es R ⟨x, e, _⟩ => by rw [e]; rfl) fun cdv A outer s H E hr B es R hm => ?_
  have hu := hu_of hr
  have hu64 := hr.units
  obtain ⟨x, rfl, hx, hR⟩ := hm
  refine ⟨_, (pss_one (ps_ret (pe_un un_neg (pe_op op_fdivG (pe_un un_neg (pe_ix (kIx (K := K) rfl) (pv 0) pe_int (fun _ _ => rfl))) (pe_ix (kIx (K := K) rfl) (pv 0) pe_int (fun _ _ => rfl)))))), ?_⟩
  show SW B [.dat (frD x)] _ _
  repeat' walk_at "dl"
  · exact hx.b2.divOk (by have := hx.pos; omega) (by decide)
  · exact hR

end
end K01
end
section
set_option Elab.async false
set_option linter.all false
set_option maxRecDepth 100000
namespace K01
open PySem L2 PySem.Spec PyProof.Rows Dl RZ
local macro_rules | `(tactic| walk_at "dl") => `(tactic| first
  | ((with_reducible refine ew_varE ?_); refine ⟨_, rfl, ?_⟩)
  | ((with_reducible refine ew_int ?_))
  | ((with_reducible refine ew_str ?_))
  | ((with_reducible refine ew_bl ?_))
  | ((with_reducible refine ew_non ?_))
  | ((with_reducible refine ew_op ?_))
  | ((with_reducible refine ew_un ?_))
  | ((with_reducible refine ew_tup ?_))
  | ((with_reducible refine ew_lst ?_))
  | ((with_reducible refine ew_call ?_))
  | ((with_reducible refine ew_isi ?_))
  | ((with_reducible refine ew_cb ?_))
  | ((with_reducible refine ea_nil ?_))
  | ((with_reducible refine ea_rawE ?_); refine ⟨_, rfl, ?_⟩)
  | ((with_reducible refine ea_cons ?_))
  | ((with_reducible refine AllD.nil ?_))
  | ((with_reducible refine AllD.cons ?_))
  | ((with_reducible refine ew_if ?_))
  | ((with_reducible refine ew_isN ?_))
  | ((with_reducible refine ew_sl ?_))
  | ((with_reducible refine eo_none ?_))
  | ((with_reducible refine eo_some ?_))
  | ((with_reducible refine sd_list ?_))
  | ((with_reducible refine sd_tup ?_))
  | ((with_reducible refine tw_test ?_))
  | ((with_reducible refine tw_B ?_))
  | ((with_reducible refine tw_not ?_))
  | ((with_reducible refine tw_and ?_))
  | ((with_reducible refine tw_or ?_))
  | ((with_reducible refine sw_seq ?_))
  | ((with_reducible refine sw_if ?_))
  | ((with_reducible refine sw_ret ?_))
  | ((with_reducible refine sw_set ?_))
  | ((with_reducible refine sw_par ?_))
  | ((with_reducible refine sw_nx ?_))
  | ((with_reducible refine od_ix ?_); refine ⟨_, _, _, rfl, rfl, rfl, ?_⟩)
  | ((with_reducible refine od_mulI ?_); refine ⟨_, _, rfl, rfl, ?_, ?_⟩)
  | ((with_reducible refine od_addI ?_); refine ⟨_, _, rfl, rfl, ?_⟩)
  | ((with_reducible refine od_addL ?_); refine ⟨_, _, rfl, rfl, ?_, ?_⟩)
  | ((with_reducible refine od_I0 ?_); refine ⟨_, _, rfl, rfl, ?_⟩)
  | ((with_reducible refine od_B0 ?_); refine ⟨_, _, rfl, rfl, ?_⟩)
  | ((with_reducible refine od_I ?_); refine ⟨_, _, rfl, rfl, ?_, ?_⟩)
  | ((with_reducible refine ud_I ?_); refine ⟨_, rfl, ?_⟩)
  | ((with_reducible refine od_eqI' ?_))
  | ((with_reducible refine od_neI' ?_))
  | ((with_reducible refine od_eqS' ?_))
  | ((with_reducible refine od_neS' ?_))
  | ((with_reducible refine cd_gcd ?_); refine ⟨_, _, rfl, ?_⟩)
  | ((with_reducible refine qAbs ?_); refine ⟨_, rfl, ?_⟩)
  | ((with_reducible refine qInt ?_); refine ⟨_, rfl, ?_⟩)
  | ((with_reducible refine qLen ?_); refine ⟨_, _, rfl, rfl, ?_⟩)
  | ((with_reducible refine qTup ?_); refine ⟨_, _, rfl, rfl, ?_⟩)
  | ((with_reducible refine qLst ?_); refine ⟨_, _, rfl, rfl, ?_⟩)
  | ((with_reducible refine cd_repr ?_); refine ⟨_, rfl, ⟨_, ?_⟩, ?_, ?_, ?_, ?_⟩)
  | ((with_reducible refine qIntB ?_); refine ⟨_, rfl, ?_⟩)
  | ((with_reducible refine qMax2 ?_); refine ⟨_, _, rfl, ?_⟩)
  | ((with_reducible refine cd_all ?_); refine ⟨_, rfl, ?_⟩)
  | ((with_reducible refine ex_b ?_))
  | ((with_reducible refine ex_i ?_))
  | ((with_reducible refine ex_t ?_))
  | ((with_reducible refine ex_l ?_))
  | ((with_reducible refine ex_2 ?_))
  | ((with_reducible refine len_and ?_ ?_); exact Nat.le_of_ble_eq_true rfl)
  | ((with_reducible refine own_and ?_ ?_); rfl))
section
variable {P : Program} {w : World} {K : PySem.W.Frag} {mg : Str → Option Value} {base : Heap}
/-! ### lists of fractions -/
def sq (b : Bool) (xs : List (Int × Int)) : PyData := if b = true then .tuple (xs.map frD) else .list (xs.map frD)
def totF (xs : List (Int × Int)) : Int × Int := xs.foldl pl (0, 1)
def lowF (a : Int × Int) (b : Int × Int) : Int × Int := if lessF b a = true then b else a
def higF (a : Int × Int) (b : Int × Int) : Int × Int := if lessF a b = true then b else a
theorem lowF_t {a b : Int × Int} (h : lessF b a = true) : lowF a b = b := if_pos h
theorem lowF_f {a b : Int × Int} (h : ¬ lessF b a = true) : lowF a b = a := if_neg h
theorem higF_t {a b : Int × Int} (h : lessF a b = true) : higF a b = b := if_pos h
theorem higF_f {a b : Int × Int} (h : ¬ lessF a b = true) : higF a b = a := if_neg h
def extF (h : Bool) (xs : List (Int × Int)) : Int × Int := xs.foldl (if h = true then higF else lowF) (xs.headD (0, 1))
def mTotal (_ : Fr) (es : List Ent) (R : PyData → Prop) : Prop := ∃ b xs, es = [.dat (sq b xs)] ∧ (∀ x, x ∈ xs → Fq 160 x) ∧ xs.length ≤ 24 ∧ R (frD (totF xs))
def mExt (h : Bool) (_ : Fr) (es : List Ent) (R : PyData → Prop) : Prop := ∃ b xs, es = [.dat (sq b xs)] ∧ (∀ x, x ∈ xs → Fq 160 x) ∧ xs.length ≤ 24 ∧ xs ≠ [] ∧ R (frD (extF h xs))
theorem pl_fq {n m : Nat} {x y : Int × Int} (hx : Fq n x) (hy : Fq m y) : Fq (n + m + 1) (pl x y) := by
  refine lst_fq (mul_ne hx.pos (by have := hy.pos; omega)) (Bit.add (hx.b1.mul hy.b2) ?_) ((hx.b2.mul hy.b2).mono (Nat.le_succ _))
  have := hy.b1.mul hx.b2
  rw [Nat.add_comm] at this
  exact this
theorem tot_fq : ∀ (xs : List (Int × Int)) (a : Int × Int) (n : Nat), Fq n a → (∀ x, x ∈ xs → Fq 160 x) → Fq (n + 161 * xs.length) (xs.foldl pl a)
  | [], a, n, ha, _ => ha
  | x :: xs, a, n, ha, h => by
    have e := tot_fq xs (pl a x) (n + 160 + 1) (pl_fq ha (h x List.mem_cons_self)) fun y hy => h y (List.mem_cons_of_mem _ hy)
    refine e.mono ?_
    rw [List.length_cons]
    omega
theorem fq01 : Fq 1 ((0, 1) : Int × Int) := ⟨by decide, by unfold Bit; decide, by unfold Bit; decide⟩
theorem take_map {xs : List (Int × Int)} {i : Nat} {d : PyData} (e : (xs.map frD)[i]? = some d) : ∃ x, xs[i]? = some x ∧ d = frD x ∧ xs.take (i + 1) = xs.take i ++ [x] ∧ x ∈ xs := by
  rw [List.getElem?_map] at e
  cases q : xs[i]? with
  | none => rw [q] at e; cases e
  | some x =>
    rw [q] at e
    cases e
    exact ⟨x, rfl, rfl, by rw [List.take_add_one, q]; rfl, List.mem_of_getElem? q⟩
theorem ok_total {f : Addr} {fd : FuncData} (F : Fun K "total" "total" st_total f fd) (T : Tx mg) (c_plus : Has P w K mg base "plus" 2 ["one", "other"] (spG (mBin pl)))  : FnOk P w K mg base CX0 3 f fd ["fractions"] (spG mTotal) := by
  have nd := sc_total.nd
  refine fn_dl F sc_total (fun B es R ⟨b, xs, e, _⟩ => by rw [e]; rfl) fun cdv A outer s H E hr B es R hm => ?_
  have hu := hu_of hr
  have hu64 := hr.units
  obtain ⟨b, xs, rfl, hxs, hlen, hR⟩ := hm
  cases b with
  | false =>
    refine ⟨_, (pss_cons (ps_set (i := 1) nd rfl (by first | exact Or.inl rfl | exact Or.inr rfl) (pe_tup (pa_cons pe_int (pa_cons pe_int pa_nil))))
      (pss_cons (ps_for PassesOwn.never rfl (kList (K := K) rfl (pv 0)) (pg_name (i := 2) nd rfl (by first | exact Or.inl rfl | exact Or.inr rfl)) (pss_one (ps_set (i := 1) nd rfl (by first | exact Or.inl rfl | exact Or.inr rfl) (c_plus.call hr (pa_cons (pv 1) (pa_cons (pv 2) pa_nil))))))
      (pss_one (ps_ret (pv 1))))), ?_⟩
    show SW B [.dat (.list (xs.map frD)), .non, .non] _ _
    repeat' walk_at "dl"
    refine sw_for (it_list ?_)
    refine ew_var rfl (ex_l ?_)
    refine ⟨fun i e => ∃ z, e = [.dat (.list (xs.map frD)), .dat (frD (totF (xs.take i))), z], ⟨.non, rfl⟩, ?_, ?_⟩
    · rintro i d e hd ⟨z, rfl⟩
      obtain ⟨x, hx, rfl, ht, hm⟩ := take_map hd
      refine gw_name ?_
      repeat' walk_at "dl"
      have f1 : Fq 4000 (totF (xs.take i)) := by
        refine (tot_fq (xs.take i) (0, 1) 1 fq01 fun y hy => hxs y (List.mem_of_mem_take hy)).mono ?_
        have : (xs.take i).length ≤ xs.length := by rw [List.length_take]; omega
        omega
      refine ⟨_, _, rfl, f1, (hxs x hm).mono (by decide), ?_⟩
      show ∃ z, _ = _
      rw [ht]
      refine ⟨.dat (frD x), ?_⟩
      unfold totF
      rw [List.foldl_append]
      rfl
    · rintro e ⟨z, rfl⟩
      repeat' walk_at "dl"
      rw [List.length_map, List.take_length]
      exact hR
  | true =>
    refine ⟨_, (pss_cons (ps_set (i := 1) nd rfl (by first | exact Or.inl rfl | exact Or.inr rfl) (pe_tup (pa_cons pe_int (pa_cons pe_int pa_nil))))
      (pss_cons (ps_for PassesOwn.never rfl (kTuple (K := K) rfl (pv 0)) (pg_name (i := 2) nd rfl (by first | exact Or.inl rfl | exact Or.inr rfl)) (pss_one (ps_set (i := 1) nd rfl (by first | exact Or.inl rfl | exact Or.inr rfl) (c_plus.call hr (pa_cons (pv 1) (pa_cons (pv 2) pa_nil))))))
      (pss_one (ps_ret (pv 1))))), ?_⟩
    show SW B [.dat (.tuple (xs.map frD)), .non, .non] _ _
    repeat' walk_at "dl"
    refine sw_for (it_tup ?_)
    refine ew_var rfl (ex_t ?_)
    refine ⟨fun i e => ∃ z, e = [.dat (.tuple (xs.map frD)), .dat (frD (totF (xs.take i))), z], ⟨.non, rfl⟩, ?_, ?_⟩
    · rintro i d e hd ⟨z, rfl⟩
      obtain ⟨x, hx, rfl, ht, hm⟩ := take_map hd
      refine gw_name ?_
      repeat' walk_at "dl"
      have f1 : Fq 4000 (totF (xs.take i)) := by
        refine (tot_fq (xs.take i) (0, 1) 1 fq01 fun y hy => hxs y (List.mem_of_mem_take hy)).mono ?_
        have : (xs.take i).length ≤ xs.length := by rw [List.length_take]; omega
        omega
      refine ⟨_, _, rfl, f1, (hxs x hm).mono (by decide), ?_⟩
      show ∃ z, _ = _
      rw [ht]
      refine ⟨.dat (frD x), ?_⟩
      unfold totF
      rw [List.foldl_append]
      rfl
    · rintro e ⟨z, rfl⟩
      repeat' walk_at "dl"
      rw [List.length_map, List.take_length]
      exact hR

theorem ok_lowest {f : Addr} {fd : FuncData} (F : Fun K "lowest" "lowest" st_lowest f fd) (T : Tx mg) (c_is_less : Has P w K mg base "is_less" 1 ["one", "other"] (spG mLess))  : FnOk P w K mg base CX0 2 f fd ["fractions"] (spG (mExt false)) := by
  have nd := sc_lowest.nd
  refine fn_dl F sc_lowest (fun B es R ⟨b, xs, e, _⟩ => by rw [e]; rfl) fun cdv A outer s H E hr B es R hm => ?_
  have hu := hu_of hr
  have hu64 := hr.units
  obtain ⟨b, xs0, rfl, hxs, hlen, hne, hR⟩ := hm
  obtain ⟨y, ys, rfl⟩ : ∃ y ys, xs0 = y :: ys := by
    cases xs0 with
    | nil => exact absurd rfl hne
    | cons y ys => exact ⟨y, ys, rfl⟩
  obtain ⟨xs, hx0⟩ : ∃ xs, xs = y :: ys := ⟨_, rfl⟩
  have hR : R (frD (xs.foldl lowF y)) := by rw [hx0]; exact hR
  cases b with
  | false =>
    show ∃ t, _ ∧ SW B ([.dat (.list ((y :: ys).map frD))] ++ _) t _
    refine ⟨_, (pss_cons (ps_set (i := 1) nd rfl (by first | exact Or.inl rfl | exact Or.inr rfl) (pe_ix (kIx (K := K) rfl) (pv 0) pe_int (fun _ _ => rfl)))
      (pss_cons (ps_for PassesOwn.never rfl (kList (K := K) rfl (pv 0)) (pg_name (i := 2) nd rfl (by first | exact Or.inl rfl | exact Or.inr rfl)) (pss_one (ps_if (pt_val (c_is_less.call hr (pa_cons (pv 2) (pa_cons (pv 1) pa_nil)))) (pss_one (ps_set (i := 1) nd rfl (by first | exact Or.inl rfl | exact Or.inr rfl) (pv 2))) pss_nil)))
      (pss_one (ps_ret (pv 1))))), ?_⟩
    show SW B [.dat (.list ((y :: ys).map frD)), .non, .non] _ _
    refine sw_seq (sw_set (ew_op (ew_var rfl (ew_int ?_))))
    refine od_ix ⟨_, _, frD y, rfl, rfl, atI_nat (j := 0) rfl, ?_⟩
    rw [← hx0]
    rw [← hx0] at hxs hlen
    refine sw_seq (sw_for (it_list ?_))
    refine ew_var rfl (ex_l ?_)
    refine ⟨fun i e => ∃ z, e = [.dat (.list (xs.map frD)), .dat (frD ((xs.take i).foldl lowF y)), z], ⟨.non, rfl⟩, ?_, ?_⟩
    · rintro i d e hd ⟨z, rfl⟩
      obtain ⟨x, hx, rfl, ht, hm⟩ := take_map hd
      refine gw_name ?_
      repeat' walk_at "dl"
      have f1 : Fq 160 ((xs.take i).foldl lowF y) := by
        have gen : ∀ (l : List (Int × Int)) (a : Int × Int), Fq 160 a → (∀ x, x ∈ l → Fq 160 x) → Fq 160 (l.foldl lowF a) := by
          intro l
          induction l with
          | nil => intro a ha _; exact ha
          | cons c l ih =>
            intro a ha hl
            refine ih _ ?_ fun x hx => hl x (List.mem_cons_of_mem _ hx)
            unfold lowF
            split
            · exact hl c List.mem_cons_self
            · exact ha
        exact gen _ _ (hxs y (by rw [hx0]; exact List.mem_cons_self)) fun x hx => hxs x (List.mem_of_mem_take hx)
      refine ⟨_, _, rfl, (hxs x hm).mono (by decide), f1.mono (by decide), ?_⟩
      repeat' walk_at "dl"
      refine ite2 (fun hc => ?_) (fun hc => ?_)
      all_goals repeat' walk_at "dl"
      all_goals
        refine ⟨.dat (frD x), ?_⟩
        rw [ht, List.foldl_append]
        show _ = [_, Ent.dat (frD (lowF _ x)), _]
        first
          | (rw [lowF_t hc]; rfl)
          | (rw [lowF_f hc]; rfl)
    · rintro e ⟨z, rfl⟩
      repeat' walk_at "dl"
      rw [List.length_map, List.take_length]
      exact hR
  | true =>
    show ∃ t, _ ∧ SW B ([.dat (.tuple ((y :: ys).map frD))] ++ _) t _
    refine ⟨_, (pss_cons (ps_set (i := 1) nd rfl (by first | exact Or.inl rfl | exact Or.inr rfl) (pe_ix (kIx (K := K) rfl) (pv 0) pe_int (fun _ _ => rfl)))
      (pss_cons (ps_for PassesOwn.never rfl (kTuple (K := K) rfl (pv 0)) (pg_name (i := 2) nd rfl (by first | exact Or.inl rfl | exact Or.inr rfl)) (pss_one (ps_if (pt_val (c_is_less.call hr (pa_cons (pv 2) (pa_cons (pv 1) pa_nil)))) (pss_one (ps_set (i := 1) nd rfl (by first | exact Or.inl rfl | exact Or.inr rfl) (pv 2))) pss_nil)))
      (pss_one (ps_ret (pv 1))))), ?_⟩
    show SW B [.dat (.tuple ((y :: ys).map frD)), .non, .non] _ _
    refine sw_seq (sw_set (ew_op (ew_var rfl (ew_int ?_))))
    refine od_ix ⟨_, _, frD y, rfl, rfl, atI_nat (j := 0) rfl, ?_⟩
    rw [← hx0]
    rw [← hx0] at hxs hlen
    refine sw_seq (sw_for (it_tup ?_))
    refine ew_var rfl (ex_t ?_)
    refine ⟨fun i e => ∃ z, e = [.dat (.tuple (xs.map frD)), .dat (frD ((xs.take i).foldl lowF y)), z], ⟨.non, rfl⟩, ?_, ?_⟩
    · rintro i d e hd ⟨z, rfl⟩
      obtain ⟨x, hx, rfl, ht, hm⟩ := take_map hd
      refine gw_name ?_
      repeat' walk_at "dl"
      have f1 : Fq 160 ((xs.take i).foldl lowF y) := by
        have gen : ∀ (l : List (Int × Int)) (a : Int × Int), Fq 160 a → (∀ x, x ∈ l → Fq 160 x) → Fq 160 (l.foldl lowF a) := by
          intro l
          induction l with
          | nil => intro a ha _; exact ha
          | cons c l ih =>
            intro a ha hl
            refine ih _ ?_ fun x hx => hl x (List.mem_cons_of_mem _ hx)
            unfold lowF
            split
            · exact hl c List.mem_cons_self
            · exact ha
        exact gen _ _ (hxs y (by rw [hx0]; exact List.mem_cons_self)) fun x hx => hxs x (List.mem_of_mem_take hx)
      refine ⟨_, _, rfl, (hxs x hm).mono (by decide), f1.mono (by decide), ?_⟩
      repeat' walk_at "dl"
      refine ite2 (fun hc => ?_) (fun hc => ?_)
      all_goals repeat' walk_at "dl"
      all_goals
        refine ⟨.dat (frD x), ?_⟩
        rw [ht, List.foldl_append]
        show _ = [_, Ent.dat (frD (lowF _ x)), _]
        first
          | (rw [lowF_t hc]; rfl)
          | (rw [lowF_f hc]; rfl)
    · rintro e ⟨z, rfl⟩
      repeat' walk_at "dl"
      rw [List.length_map, List.take_length]
      exact hR

theorem ok_highest {f : Addr} {fd : FuncData} (F : Fun K "highest" "highest" st_highest f fd) (T : Tx mg) (c_is_less : Has P w K mg base "is_less" 1 ["one", "other"] (spG mLess))  : FnOk P w K mg base CX0 2 f fd ["fractions"] (spG (mExt true)) := by
  have nd := sc_highest.nd
  refine fn_dl F sc_highest (fun B es R ⟨b, xs, e, _⟩ => by rw [e]; rfl) fun cdv A outer s H E hr B es R hm => ?_
  have hu := hu_of hr
  have hu64 := hr.units
  obtain ⟨b, xs0, rfl, hxs, hlen, hne, hR⟩ := hm
  obtain ⟨y, ys, rfl⟩ : ∃ y ys, xs0 = y :: ys := by
    cases xs0 with
    | nil => exact absurd rfl hne
    | cons y ys => exact ⟨y, ys, rfl⟩
  obtain ⟨xs, hx0⟩ : ∃ xs, xs = y :: ys := ⟨_, rfl⟩
  have hR : R (frD (xs.foldl higF y)) := by rw [hx0]; exact hR
  cases b with
  | false =>
    show ∃ t, _ ∧ SW B ([.dat (.list ((y :: ys).map frD))] ++ _) t _
    refine ⟨_, (pss_cons (ps_set (i := 1) nd rfl (by first | exact Or.inl rfl | exact Or.inr rfl) (pe_ix (kIx (K := K) rfl) (pv 0) pe_int (fun _ _ => rfl)))
      (pss_cons (ps_for PassesOwn.never rfl (kList (K := K) rfl (pv 0)) (pg_name (i := 2) nd rfl (by first | exact Or.inl rfl | exact Or.inr rfl)) (pss_one (ps_if (pt_val (c_is_less.call hr (pa_cons (pv 1) (pa_cons (pv 2) pa_nil)))) (pss_one (ps_set (i := 1) nd rfl (by first | exact Or.inl rfl | exact Or.inr rfl) (pv 2))) pss_nil)))
      (pss_one (ps_ret (pv 1))))), ?_⟩
    show SW B [.dat (.list ((y :: ys).map frD)), .non, .non] _ _
    refine sw_seq (sw_set (ew_op (ew_var rfl (ew_int ?_))))
    refine od_ix ⟨_, _, frD y, rfl, rfl, atI_nat (j := 0) rfl, ?_⟩
    rw [← hx0]
    rw [← hx0] at hxs hlen
    refine sw_seq (sw_for (it_list ?_))
    refine ew_var rfl (ex_l ?_)
    refine ⟨fun i e => ∃ z, e = [.dat (.list (xs.map frD)), .dat (frD ((xs.take i).foldl higF y)), z], ⟨.non, rfl⟩, ?_, ?_⟩
    · rintro i d e hd ⟨z, rfl⟩
      obtain ⟨x, hx, rfl, ht, hm⟩ := take_map hd
      refine gw_name ?_
      repeat' walk_at "dl"
      have f1 : Fq 160 ((xs.take i).foldl higF y) := by
        have gen : ∀ (l : List (Int × Int)) (a : Int × Int), Fq 160 a → (∀ x, x ∈ l → Fq 160 x) → Fq 160 (l.foldl higF a) := by
          intro l
          induction l with
          | nil => intro a ha _; exact ha
          | cons c l ih =>
            intro a ha hl
            refine ih _ ?_ fun x hx => hl x (List.mem_cons_of_mem _ hx)
            unfold higF
            split
            · exact hl c List.mem_cons_self
            · exact ha
        exact gen _ _ (hxs y (by rw [hx0]; exact List.mem_cons_self)) fun x hx => hxs x (List.mem_of_mem_take hx)
      refine ⟨_, _, rfl, f1.mono (by decide), (hxs x hm).mono (by decide), ?_⟩
      repeat' walk_at "dl"
      refine ite2 (fun hc => ?_) (fun hc => ?_)
      all_goals repeat' walk_at "dl"
      all_goals
        refine ⟨.dat (frD x), ?_⟩
        rw [ht, List.foldl_append]
        show _ = [_, Ent.dat (frD (higF _ x)), _]
        first
          | (rw [higF_t hc]; rfl)
          | (rw [higF_f hc]; rfl)
    · rintro e ⟨z, rfl⟩
      repeat' walk_at "dl"
      rw [List.length_map, List.take_length]
      exact hR
  | true =>
    show ∃ t, _ ∧ SW B ([.dat (.tuple ((y :: ys).map frD))] ++ _) t _
    refine ⟨_, (pss_cons (ps_set (i := 1) nd rfl (by first | exact Or.inl rfl | exact Or.inr rfl) (pe_ix (kIx (K := K) rfl) (pv 0) pe_int (fun _ _ => rfl)))
      (pss_cons (ps_for PassesOwn.never rfl (kTuple (K := K) rfl (pv 0)) (pg_name (i := 2) nd rfl (by first | exact Or.inl rfl | exact Or.inr rfl)) (pss_one (ps_if (pt_val (c_is_less.call hr (pa_cons (pv 1) (pa_cons (pv 2) pa_nil)))) (pss_one (ps_set (i := 1) nd rfl (by first | exact Or.inl rfl | exact Or.inr rfl) (pv 2))) pss_nil)))
      (pss_one (ps_ret (pv 1))))), ?_⟩
    show SW B [.dat (.tuple ((y :: ys).map frD)), .non, .non] _ _
    refine sw_seq (sw_set (ew_op (ew_var rfl (ew_int ?_))))
    refine od_ix ⟨_, _, frD y, rfl, rfl, atI_nat (j := 0) rfl, ?_⟩
    rw [← hx0]
    rw [← hx0] at hxs hlen
    refine sw_seq (sw_for (it_tup ?_))
    refine ew_var rfl (ex_t ?_)
    refine ⟨fun i e => ∃ z, e = [.dat (.tuple (xs.map frD)), .dat (frD ((xs.take i).foldl higF y)), z], ⟨.non, rfl⟩, ?_, ?_⟩
    · rintro i d e hd ⟨z, rfl⟩
      obtain ⟨x, hx, rfl, ht, hm⟩ := take_map hd
      refine gw_name ?_
      repeat' walk_at "dl"
      have f1 : Fq 160 ((xs.take i).foldl higF y) := by
        have gen : ∀ (l : List (Int × Int)) (a : Int × Int), Fq 160 a → (∀ x, x ∈ l → Fq 160 x) → Fq 160 (l.foldl higF a) := by
          intro l
          induction l with
          | nil => intro a ha _; exact ha
          | cons c l ih =>
            intro a ha hl
            refine ih _ ?_ fun x hx => hl x (List.mem_cons_of_mem _ hx)
            unfold higF
            split
            · exact hl c List.mem_cons_self
            · exact ha
        exact gen _ _ (hxs y (by rw [hx0]; exact List.mem_cons_self)) fun x hx => hxs x (List.mem_of_mem_take hx)
      refine ⟨_, _, rfl, f1.mono (by decide), (hxs x hm).mono (by decide), ?_⟩
      repeat' walk_at "dl"
      refine ite2 (fun hc => ?_) (fun hc => ?_)
      all_goals repeat' walk_at "dl"
      all_goals
        refine ⟨.dat (frD x), ?_⟩
        rw [ht, List.foldl_append]
        show _ = [_, Ent.dat (frD (higF _ x)), _]
        first
          | (rw [higF_t hc]; rfl)
          | (rw [higF_f hc]; rfl)
    · rintro e ⟨z, rfl⟩
      repeat' walk_at "dl"
      rw [List.length_map, List.take_length]
      exact hR

end
end K01
end
section
set_option Elab.async false
set_option linter.all false
set_option maxRecDepth 100000
namespace K01
open PySem L2 PySem.Spec PyProof.Rows Dl RZ
theorem pick_atE {p l : Addr} {many : Int} {R : PyData → Prop} (h : many.natAbs < 2 ^ 64 ∧ ∀ r : Int, 0 ≤ r → r < max 1 many → R (.int r)) : mPick (Fsrc p l) [.raw (.ref p), .dat (.int many)] R := ⟨p, l, many, rfl, rfl, h.1, h.2⟩
theorem pick_at {p l : Addr} {many : Int} {R : PyData → Prop} (hm : many.natAbs < 2 ^ 64) (h : ∀ r : Int, 0 ≤ r → r < max 1 many → R (.int r)) : mPick (Fsrc p l) [.raw (.ref p), .dat (.int many)] R := ⟨p, l, many, rfl, rfl, hm, h⟩
def mGreat (B : Fr) (es : List Ent) (R : PyData → Prop) : Prop := ∃ (p l : Addr) (k : Nat), B = Fsrc p l ∧ es = [.raw (.ref p), .dat (.int k)] ∧ 1 ≤ k ∧ k ≤ 1000 ∧ ∀ n : Int, 0 ≤ n → Bit (4 * k) n → R (.int n)
theorem great_atE {p l : Addr} {z : Int} {R : PyData → Prop} (h : ∃ k : Nat, z = (k : Int) ∧ 1 ≤ k ∧ k ≤ 1000 ∧ ∀ n : Int, 0 ≤ n → Bit (4 * k) n → R (.int n)) : mGreat (Fsrc p l) [.raw (.ref p), .dat (.int z)] R := by
  obtain ⟨k, e, h1, h2, h⟩ := h
  subst e
  exact ⟨p, l, k, rfl, rfl, h1, h2, h⟩
theorem great_at {p l : Addr} {k : Nat} {z : Int} {R : PyData → Prop} (e : z = (k : Int)) (h1 : 1 ≤ k) (h2 : k ≤ 1000) (h : ∀ n : Int, 0 ≤ n → Bit (4 * k) n → R (.int n)) : mGreat (Fsrc p l) [.raw (.ref p), .dat (.int z)] R := ⟨p, l, k, rfl, by rw [e], h1, h2, h⟩
local macro_rules | `(tactic| walk_at "dl") => `(tactic| first
  | ((with_reducible refine ew_varE ?_); refine ⟨_, rfl, ?_⟩)
  | ((with_reducible refine ew_int ?_))
  | ((with_reducible refine ew_str ?_))
  | ((with_reducible refine ew_bl ?_))
  | ((with_reducible refine ew_non ?_))
  | ((with_reducible refine ew_op ?_))
  | ((with_reducible refine ew_un ?_))
  | ((with_reducible refine ew_tup ?_))
  | ((with_reducible refine ew_lst ?_))
  | ((with_reducible refine ew_call ?_))
  | ((with_reducible refine ew_isi ?_))
  | ((with_reducible refine ew_cb ?_))
  | ((with_reducible refine ea_nil ?_))
  | ((with_reducible refine ea_rawE ?_); refine ⟨_, rfl, ?_⟩)
  | ((with_reducible refine ea_cons ?_))
  | ((with_reducible refine AllD.nil ?_))
  | ((with_reducible refine AllD.cons ?_))
  | ((with_reducible refine ew_if ?_))
  | ((with_reducible refine ew_isN ?_))
  | ((with_reducible refine ew_sl ?_))
  | ((with_reducible refine eo_none ?_))
  | ((with_reducible refine eo_some ?_))
  | ((with_reducible refine sd_list ?_))
  | ((with_reducible refine sd_tup ?_))
  | ((with_reducible refine tw_test ?_))
  | ((with_reducible refine tw_B ?_))
  | ((with_reducible refine tw_not ?_))
  | ((with_reducible refine tw_and ?_))
  | ((with_reducible refine tw_or ?_))
  | ((with_reducible refine sw_seq ?_))
  | ((with_reducible refine sw_if ?_))
  | ((with_reducible refine sw_ret ?_))
  | ((with_reducible refine sw_set ?_))
  | ((with_reducible refine sw_par ?_))
  | ((with_reducible refine sw_nx ?_))
  | ((with_reducible refine od_ix ?_); refine ⟨_, _, _, rfl, rfl, rfl, ?_⟩)
  | ((with_reducible refine od_mulI ?_); refine ⟨_, _, rfl, rfl, ?_, ?_⟩)
  | ((with_reducible refine od_addI ?_); refine ⟨_, _, rfl, rfl, ?_⟩)
  | ((with_reducible refine od_addL ?_); refine ⟨_, _, rfl, rfl, ?_, ?_⟩)
  | ((with_reducible refine od_I0 ?_); refine ⟨_, _, rfl, rfl, ?_⟩)
  | ((with_reducible refine od_B0 ?_); refine ⟨_, _, rfl, rfl, ?_⟩)
  | ((with_reducible refine od_I ?_); refine ⟨_, _, rfl, rfl, ?_, ?_⟩)
  | ((with_reducible refine ud_I ?_); refine ⟨_, rfl, ?_⟩)
  | ((with_reducible refine od_eqI' ?_))
  | ((with_reducible refine od_neI' ?_))
  | ((with_reducible refine od_eqS' ?_))
  | ((with_reducible refine od_neS' ?_))
  | ((with_reducible refine cd_gcd ?_); refine ⟨_, _, rfl, ?_⟩)
  | ((with_reducible refine qAbs ?_); refine ⟨_, rfl, ?_⟩)
  | ((with_reducible refine qInt ?_); refine ⟨_, rfl, ?_⟩)
  | ((with_reducible refine qLen ?_); refine ⟨_, _, rfl, rfl, ?_⟩)
  | ((with_reducible refine qTup ?_); refine ⟨_, _, rfl, rfl, ?_⟩)
  | ((with_reducible refine qLst ?_); refine ⟨_, _, rfl, rfl, ?_⟩)
  | ((with_reducible refine cd_repr ?_); refine ⟨_, rfl, ⟨_, ?_⟩, ?_, ?_, ?_, ?_⟩)
  | ((with_reducible refine qIntB ?_); refine ⟨_, rfl, ?_⟩)
  | ((with_reducible refine qMax2 ?_); refine ⟨_, _, rfl, ?_⟩)
  | ((with_reducible refine cd_all ?_); refine ⟨_, rfl, ?_⟩)
  | ((with_reducible refine pick_atE ?_); refine ⟨by decide, fun r h0 h1 => ?_⟩)
  | ((with_reducible refine great_atE ?_); refine ⟨_, rfl, by decide, by decide, fun n h0 h1 => ?_⟩)
  | ((with_reducible refine ex_b ?_))
  | ((with_reducible refine ex_i ?_))
  | ((with_reducible refine ex_t ?_))
  | ((with_reducible refine ex_l ?_))
  | ((with_reducible refine ex_2 ?_))
  | ((with_reducible refine len_and ?_ ?_); exact Nat.le_of_ble_eq_true rfl)
  | ((with_reducible refine own_and ?_ ?_); rfl))
section
variable {P : Program} {w : World} {K : PySem.W.Frag} {mg : Str → Option Value} {base : Heap}
theorem atD {xs : List PyData} {z : Int} {j : Nat} {v : PyData} (e : z = (j : Int)) (h : xs[j]? = some v) : atI xs z = some v := by
  subst e
  exact atI_nat h
theorem abs_eq (a : Int) : (if a < 0 then -a else a) = ((a.natAbs : Nat) : Int) := by split <;> omega
def mLeast (_ : Fr) (es : List Ent) (R : PyData → Prop) : Prop := ∃ p q : Int, es = [.dat (.int p), .dat (.int q)] ∧ q ≠ 0 ∧ Bit 8999 q ∧ R (frD (lst p q))
theorem least_at {p q : Int} {R : PyData → Prop} {B : Fr} (h0 : q ≠ 0) (h9 : Bit 8999 q) (r : R (frD (lst p q))) : mLeast B [.dat (.int p), .dat (.int q)] R := ⟨p, q, rfl, h0, h9, r⟩
theorem Bit.divOk' {n : Nat} {x y z : Int} (h : Bit n y) (h0 : z ≠ 0) (e : z = y) (l : n ≤ 8999) : CDivG x z := by
  subst e
  exact h.divOk h0 l
theorem ok_l_least {f : Addr} {fd : FuncData} (F : Fun K "_law_least" "_law_least" st_l_least f fd) (T : Tx mg)   : FnOk P w K mg base CX0 1 f fd ["a", "b"] (spG mLeast) := by
  have nd := sc_l_least.nd
  refine fn_dl F sc_l_least (fun B es R ⟨p, q, e, _⟩ => by rw [e]; rfl) fun cdv A outer s H E hr B es R hm => ?_
  have hu := hu_of hr
  have hu64 := hr.units
  obtain ⟨p, q, rfl, h0, h9, hR⟩ := hm
  refine ⟨_, (pss_cons (ps_par (i := 2) (j := 3) (by rfl) nd rfl rfl (by decide) rfl rfl (pa_cons (pe_callB kAbs (by rfl) T.abs (by decide +kernel) (pa_cons (pv 0) pa_nil)) (pa_cons (pe_callB kAbs (by rfl) T.abs (by decide +kernel) (pa_cons (pv 1) pa_nil)) pa_nil)) (by rfl))
      (pss_cons (ps_while PassesOwn.never (pt_cmpR (kNe (K := K) rfl hu64) (pv 3) pe_int (nomark _)) (pss_one (ps_par (i := 2) (j := 3) (by rfl) nd rfl rfl (by decide) rfl rfl (pa_cons (pv 3) (pa_cons (pe_op op_modN (pe_callTy kInt (by rfl) T.int (by decide +kernel) (pa_cons (pv 2) pa_nil)) (pv 3)) pa_nil)) (by rfl))))
      (pss_cons (ps_set (i := 2) nd rfl (by first | exact Or.inl rfl | exact Or.inr rfl) (pe_ifExp (pt_cmpR op_gt (pv 1) pe_int (nomark _)) (pv 2) (pe_op op_sub pe_int (pv 2))))
      (pss_one (ps_ret (pe_tup (pa_cons (pe_op op_fdivG (pv 0) (pv 2)) (pa_cons (pe_op op_fdivG (pv 1) (pv 2)) pa_nil)))))))), ?_⟩
  show SW B [.dat (.int p), .dat (.int q), .non, .non] _ _
  repeat' walk_at "dl"
  refine sw_while ⟨fun m e => ∃ x y : Nat, e = [.dat (.int p), .dat (.int q), .dat (.int x), .dat (.int y)] ∧ Nat.gcd x y = Nat.gcd p.natAbs q.natAbs ∧ m = y, ⟨q.natAbs, p.natAbs, q.natAbs, ?_, rfl, rfl⟩, ?_⟩
  · rw [abs_eq, abs_eq]
    rfl
  · rintro y e ⟨x, _, rfl, hg, rfl⟩
    repeat' walk_at "dl"
    refine ite2 (fun hc => ?_) (fun hc => ?_)
    all_goals repeat' walk_at "dl"
    · intro z
      have : y ≠ 0 := fun z => by subst z; simp at hc
      exact this (by omega)
    · have hy : 0 < y := by
        cases y with
        | zero => simp at hc
        | succ y => exact Nat.succ_pos y
      refine ⟨x % y, Nat.mod_lt _ hy, y, x % y, ?_, ?_, rfl⟩
      · have e : (x : Int).fmod (y : Int) = ((x % y : Nat) : Int) := by
          rw [Int.fmod_eq_emod_of_nonneg _ (by omega), Int.natCast_emod]
        rw [e]
        rfl
      · rw [← hg, Nat.gcd_comm x y, Nat.gcd_comm y (x % y), ← Nat.gcd_rec]
    · have hy : y = 0 := by
        have := hc
        simp at this
        omega
      subst hy
      rw [Nat.gcd_zero_right] at hg
      subst hg
      refine ite2 (fun hb => ?_) (fun hb => ?_)
      all_goals repeat' walk_at "dl"
      · have g0 := gc_pos (a := p) (b := q) h0
        exact (gc_bit (a := p) h0 h9).divOk (x := p) (by omega) (by omega)
      · have g0 := gc_pos (a := p) (b := q) h0
        exact (gc_bit (a := p) h0 h9).divOk (x := q) (by omega) (by omega)
      · have := of_decide_eq_true hb
        unfold lst at hR
        rw [if_pos this] at hR
        exact hR
      · have g0 := gc_pos (a := p) (b := q) h0
        refine (Bit.neg (gc_bit (a := p) h0 h9)).divOk' (x := p) (by show 0 - gc p q ≠ 0; omega) (by show 0 - gc p q = - gc p q; omega) (by omega)
      · have g0 := gc_pos (a := p) (b := q) h0
        refine (Bit.neg (gc_bit (a := p) h0 h9)).divOk' (x := q) (by show 0 - gc p q ≠ 0; omega) (by show 0 - gc p q = - gc p q; omega) (by omega)
      · have : ¬ 0 < q := fun z => hb (decide_eq_true z)
        unfold lst at hR
        rw [if_neg this] at hR
        exact hR

theorem ok_l_plus {f : Addr} {fd : FuncData} (F : Fun K "_law_plus" "_law_plus" st_l_plus f fd) (T : Tx mg) (c_l_least : Has P w K mg base "_law_least" 1 ["a", "b"] (spG mLeast))  : FnOk P w K mg base CX0 2 f fd ["x", "y"] (spG (mBin pl)) := by
  have nd := sc_l_plus.nd
  refine fn_dl F sc_l_plus (fun B es R ⟨x, y, e, _⟩ => by rw [e]; rfl) fun cdv A outer s H E hr B es R hm => ?_
  have hu := hu_of hr
  have hu64 := hr.units
  obtain ⟨x, y, rfl, hx, hy, hR⟩ := hm
  refine ⟨_, (pss_one (ps_ret (c_l_least.call hr (pa_cons (pe_op (kAdd (K := K) rfl) (pe_op (kMul (K := K) rfl) (pe_ix (kIx (K := K) rfl) (pv 0) pe_int (fun _ _ => rfl)) (pe_ix (kIx (K := K) rfl) (pv 1) pe_int (fun _ _ => rfl))) (pe_op (kMul (K := K) rfl) (pe_ix (kIx (K := K) rfl) (pv 1) pe_int (fun _ _ => rfl)) (pe_ix (kIx (K := K) rfl) (pv 0) pe_int (fun _ _ => rfl)))) (pa_cons (pe_op (kMul (K := K) rfl) (pe_ix (kIx (K := K) rfl) (pv 0) pe_int (fun _ _ => rfl)) (pe_ix (kIx (K := K) rfl) (pv 1) pe_int (fun _ _ => rfl))) pa_nil))))), ?_⟩
  show SW B [.dat (frD x), .dat (frD y)] _ _
  repeat' walk_at "dl"
  all_goals first
    | exact hx.b1.mulOk hy.b2 (by decide)
    | exact hx.b2.mulOk hy.b2 (by decide)
    | exact hy.b1.mulOk hx.b2 (by decide)
    | exact least_at (mul_ne hx.pos (by have := hy.pos; omega)) ((hx.b2.mul hy.b2).mono (by decide)) hR

theorem ok_l_great {f : Addr} {fd : FuncData} (F : Fun K "_law_great" "_law_great" st_l_great f fd) (T : Tx mg) (c_l_pick : Has P w K mg base "_law_pick" 1 ["source", "many"] (spG mPick))  : FnOk P w K mg base CX0 2 f fd ["source", "figures"] (spG mGreat) := by
  have nd := sc_l_great.nd
  refine fn_dl F sc_l_great (fun B es R ⟨p, l, k, _, e, _⟩ => by rw [e]; rfl) fun cdv A outer s H E hr B es R hm => ?_
  have hu := hu_of hr
  have hu64 := hr.units
  obtain ⟨p, l, k, rfl, rfl, hk1, hk2, hR⟩ := hm
  refine ⟨_, (pss_cons (ps_set (i := 2) nd rfl (by first | exact Or.inl rfl | exact Or.inr rfl) pe_int)
      (pss_cons (ps_for PassesOwn.never rfl (pi_range1 (by rfl) T.range (pa_cons (pe_op (kAdd (K := K) rfl) pe_int (c_l_pick.call hr (pa_cons (pv 0) (pa_cons (pv 1) pa_nil)))) pa_nil)) (pg_name (i := 3) nd rfl (by first | exact Or.inl rfl | exact Or.inr rfl)) (pss_one (ps_set (i := 2) nd rfl (by first | exact Or.inl rfl | exact Or.inr rfl) (pe_op (kAdd (K := K) rfl) (pe_op (kMul (K := K) rfl) (pv 2) pe_int) (c_l_pick.call hr (pa_cons (pv 0) (pa_cons pe_int pa_nil)))))))
      (pss_one (ps_ret (pv 2))))), ?_⟩
  show SW (Fsrc p l) [.raw (.ref p), .dat (.int k), .non, .non] _ _
  repeat' walk_at "dl"
  refine sw_for (it_range1 ?_)
  repeat' walk_at "dl"
  refine pick_at (by omega) fun r h0 h1 => ?_
  repeat' walk_at "dl"
  refine ⟨_, rfl, by omega, by omega, fun i e => ∃ (n : Int) (z : Ent), e = [.raw (.ref p), .dat (.int k), .dat (.int n), z] ∧ 0 ≤ n ∧ Bit (4 * i) n, ⟨0, .non, rfl, by decide, by unfold Bit; decide⟩, ?_, ?_⟩
  · rintro i d e hd ⟨n, z, rfl, hn, hb⟩
    refine gw_name ?_
    repeat' walk_at "dl"
    · exact .inr (.inr ⟨by decide, by decide⟩)
    · refine ⟨_, _, rfl, by omega, ?_⟩
      rename_i r2 h2 h3
      unfold Bit at *
      rw [show 4 * (i + 1) = 4 * i + 4 by omega, Nat.pow_add]
      have e10 : max 1 (10 : Int) = 10 := by decide
      rw [e10] at h3
      omega
  · rintro e ⟨n, z, rfl, hn, hb⟩
    repeat' walk_at "dl"
    refine hR n hn (hb.mono ?_)
    have hl : (rangeD 0 (1 + r).toNat).length = (1 + r).toNat := by simp [rangeD]
    rw [hl]
    omega

def mOf (B : Fr) (es : List Ent) (R : PyData → Prop) : Prop := ∃ (p l : Addr) (ds : List PyData), B = Fsrc p l ∧ es = [.raw (.ref p), .dat (.list ds)] ∧ ds ≠ [] ∧ ds.length ≤ 10000 ∧ ∀ d, d ∈ ds → R d
theorem of_atE {p l : Addr} {ds : List PyData} {R : PyData → Prop} (h : ds ≠ [] ∧ ds.length ≤ 10000 ∧ ∀ d, d ∈ ds → R d) : mOf (Fsrc p l) [.raw (.ref p), .dat (.list ds)] R := ⟨p, l, ds, rfl, rfl, h.1, h.2.1, h.2.2⟩
theorem of_at {p l : Addr} {ds : List PyData} {R : PyData → Prop} (h0 : ds ≠ []) (h1 : ds.length ≤ 10000) (h : ∀ d, d ∈ ds → R d) : mOf (Fsrc p l) [.raw (.ref p), .dat (.list ds)] R := ⟨p, l, ds, rfl, rfl, h0, h1, h⟩
theorem ok_l_of {f : Addr} {fd : FuncData} (F : Fun K "_law_of" "_law_of" st_l_of f fd) (T : Tx mg) (c_l_pick : Has P w K mg base "_law_pick" 1 ["source", "many"] (spG mPick))  : FnOk P w K mg base CX0 2 f fd ["source", "some"] (spG mOf) := by
  have nd := sc_l_of.nd
  refine fn_dl F sc_l_of (fun B es R ⟨p, l, k, _, e, _⟩ => by rw [e]; rfl) fun cdv A outer s H E hr B es R hm => ?_
  have hu := hu_of hr
  have hu64 := hr.units
  obtain ⟨p, l, ds, rfl, rfl, h0, h1, hR⟩ := hm
  refine ⟨_, (pss_one (ps_ret (pe_ix (kIx (K := K) rfl) (pv 1) (c_l_pick.call hr (pa_cons (pv 0) (pa_cons (pe_callB (kLen (K := K) rfl) (by rfl) T.len (by decide +kernel) (pa_cons (pv 1) pa_nil)) pa_nil))) (fun _ _ => rfl)))), ?_⟩
  show SW (Fsrc p l) [.raw (.ref p), .dat (.list ds)] _ _
  repeat' walk_at "dl"
  have hl : 0 < ds.length := List.length_pos_iff.mpr h0
  refine pick_at (by omega) fun r g0 g1 => ?_
  have hr2 : r.toNat < ds.length := by omega
  have er : r = ((r.toNat : Nat) : Int) := by omega
  exact od_ix ⟨ds, r, ds[r.toNat], rfl, rfl, atD er (List.getElem?_eq_getElem hr2), hR _ (List.getElem_mem hr2)⟩

def mDrawn (B : Fr) (es : List Ent) (R : PyData → Prop) : Prop := ∃ (p l : Addr), B = Fsrc p l ∧ es = [.raw (.ref p)] ∧ ∀ x : Int × Int, Fq 160 x → R (frD x)
theorem drawn_at {p l : Addr} {R : PyData → Prop} (h : ∀ x : Int × Int, Fq 160 x → R (frD x)) : mDrawn (Fsrc p l) [.raw (.ref p)] R := ⟨p, l, rfl, rfl, h⟩
theorem sgn_bit {k : Nat} {r n : Int} (h0 : 0 ≤ r) (h1 : r < max 1 2) (h : Bit k n) : Bit k ((1 - 2 * r) * n) := by
  have : r = 0 ∨ r = 1 := by omega
  rcases this with e | e
  · subst e; rw [show (1 - 2 * 0 : Int) = 1 by decide, Int.one_mul]; exact h
  · subst e; rw [show (1 - 2 * 1 : Int) = -1 by decide, Int.neg_one_mul]; exact h.neg
theorem one_bit {k : Nat} {n : Int} (h0 : 0 ≤ n) (h : Bit k n) : Bit (k + 1) (1 + n) := by
  unfold Bit at *
  have := Nat.one_le_two_pow (n := k)
  rw [Nat.pow_succ]
  omega
theorem small_bit {n : Nat} {x : Int} (h : x.natAbs < 2 ^ 8) (l : 8 ≤ n) : Bit n x := Bit.mono (n := 8) h l
theorem ok_l_drawn {f : Addr} {fd : FuncData} (F : Fun K "_law_drawn" "_law_drawn" st_l_drawn f fd) (T : Tx mg) (c_l_pick : Has P w K mg base "_law_pick" 1 ["source", "many"] (spG mPick)) (c_l_least : Has P w K mg base "_law_least" 1 ["a", "b"] (spG mLeast)) (c_l_great : Has P w K mg base "_law_great" 2 ["source", "figures"] (spG mGreat))  : FnOk P w K mg base CX0 3 f fd ["source"] (spG mDrawn) := by
  have nd := sc_l_drawn.nd
  refine fn_dl F sc_l_drawn (fun B es R ⟨p, l, _, e, _⟩ => by rw [e]; rfl) fun cdv A outer s H E hr B es R hm => ?_
  have hu := hu_of hr
  have hu64 := hr.units
  obtain ⟨p, l, rfl, rfl, hR⟩ := hm
  refine ⟨_, (pss_cons (ps_set (i := 1) nd rfl (by first | exact Or.inl rfl | exact Or.inr rfl) (c_l_pick.call hr (pa_cons (pv 0) (pa_cons pe_int pa_nil))))
      (pss_cons (ps_if (pt_cmpR op_lt (pv 1) pe_int (nomark _)) (pss_one (ps_ret (c_l_least.call hr (pa_cons (pe_op op_sub (c_l_pick.call hr (pa_cons (pv 0) (pa_cons pe_int pa_nil))) pe_int) (pa_cons (pe_op (kAdd (K := K) rfl) pe_int (c_l_pick.call hr (pa_cons (pv 0) (pa_cons pe_int pa_nil)))) pa_nil))))) pss_nil)
      (pss_cons (ps_set (i := 2) nd rfl (by first | exact Or.inl rfl | exact Or.inr rfl) (pe_op op_sub pe_int (pe_op (kMul (K := K) rfl) pe_int (c_l_pick.call hr (pa_cons (pv 0) (pa_cons pe_int pa_nil))))))
      (pss_cons (ps_if (pt_cmpR op_lt (pv 1) pe_int (nomark _)) (pss_one (ps_ret (c_l_least.call hr (pa_cons (pe_op (kMul (K := K) rfl) (pv 2) (c_l_great.call hr (pa_cons (pv 0) (pa_cons pe_int pa_nil)))) (pa_cons (pe_op (kAdd (K := K) rfl) pe_int (c_l_great.call hr (pa_cons (pv 0) (pa_cons pe_int pa_nil)))) pa_nil))))) pss_nil)
      (pss_one (ps_ret (c_l_least.call hr (pa_cons (pe_op (kMul (K := K) rfl) (pv 2) (c_l_great.call hr (pa_cons (pv 0) (pa_cons pe_int pa_nil)))) (pa_cons (pe_op (kAdd (K := K) rfl) pe_int (c_l_great.call hr (pa_cons (pv 0) (pa_cons pe_int pa_nil)))) pa_nil))))))))), ?_⟩
  show SW (Fsrc p l) [.raw (.ref p), .non, .non] _ _
  repeat' walk_at "dl"
  refine ite2 (fun hc => ?_) (fun hc => ?_)
  all_goals repeat' walk_at "dl"
  · refine least_at (by omega) (small_bit (by omega) (by decide)) (hR _ (lst_fq (by omega) (small_bit (by omega) (by decide)) (small_bit (by omega) (by decide))))
  · exact .inr (.inl ⟨by decide, by decide⟩)
  · refine ite2 (fun hc2 => ?_) (fun hc2 => ?_)
    all_goals repeat' walk_at "dl"
    · exact .inr (.inl ⟨by omega, by omega⟩)
    · rename_i r g0 g1 n1 h1 b1 n2 h2 b2
      exact least_at (by omega) ((one_bit h2 b2).mono (by decide)) (hR _ (lst_fq (by omega) ((sgn_bit g0 g1 b1).mono (by decide)) ((one_bit h2 b2).mono (by decide))))
    · exact .inr (.inl ⟨by omega, by omega⟩)
    · rename_i r g0 g1 n1 h1 b1 n2 h2 b2
      exact least_at (by omega) ((one_bit h2 b2).mono (by decide)) (hR _ (lst_fq (by omega) ((sgn_bit g0 g1 b1).mono (by decide)) ((one_bit h2 b2).mono (by decide))))

end
end K01
end
section
set_option Elab.async false
set_option linter.all false
set_option maxRecDepth 100000
namespace K01
open PySem L2 PySem.Spec PyProof.Rows Dl RZ
section
variable {P : Program} {w : World} {K : PySem.W.Frag} {mg : Str → Option Value} {base : Heap}
def mMixed (B : Fr) (es : List Ent) (R : PyData → Prop) : Prop := ∃ (p l : Addr) (ds : List PyData), B = Fsrc p l ∧ es = [.raw (.ref p), .dat (.list ds)] ∧ ds.length ≤ 10000 ∧ ∀ es' : List PyData, es'.Perm ds → R (.list es')
theorem mixed_at {p l : Addr} {ds : List PyData} {R : PyData → Prop} (h1 : ds.length ≤ 10000) (h : ∀ es' : List PyData, es'.Perm ds → R (.list es')) : mMixed (Fsrc p l) [.raw (.ref p), .dat (.list ds)] R := ⟨p, l, ds, rfl, rfl, h1, h⟩
theorem perm_step {da dv : List PyData} {k : Nat} {d : PyData} (h : dv[k]? = some d) : ((da ++ [d]) ++ dv.eraseIdx k).Perm (da ++ dv) := by
  obtain ⟨hk, e⟩ := List.getElem?_eq_some_iff.mp h
  have q : (dv[k] :: dv.eraseIdx k).Perm dv := by
    rw [List.eraseIdx_eq_take_drop_succ]
    have := List.take_append_drop k dv
    conv => rhs; rw [← this, List.drop_eq_getElem_cons hk]
    exact List.perm_middle.symm
  rw [e] at q
  rw [List.append_assoc]
  exact List.Perm.append_left da q
theorem ok_l_mixed {f : Addr} {fd : FuncData} (F : Fun K "_law_mixed" "_law_mixed" st_l_mixed f fd) (T : Tx mg) (c_l_pick : Has P w K mg base "_law_pick" 1 ["source", "many"] (spG mPick)) : FnOk P w K mg base CX0 2 f fd ["source", "things"] (spG mMixed) := by
  have nd := sc_l_mixed.nd
  refine F.ok sc_l_mixed (fun vs H Q E h => ?_) (fun cdv A outer s H vs Q E hr h => ?_)
  · obtain ⟨B, O, es, R, ⟨p, l, ds, rfl, rfl, _⟩, _, _, sl, _⟩ := h
    match vs, sl with
    | [_, _], _ => rfl
  · obtain ⟨B, O, es, R, ⟨p, l, ds, rfl, rfl, hlen, hR⟩, _, j, sl, k⟩ := h
    have hu := hu_of hr
    have hu64 := hr.units
    obtain ⟨a, xs, rfl, wa, ea, ka⟩ : ∃ a xs, vs = [.ref p, .ref a] ∧ ¬ ((Fsrc p l).lock O).W a ∧ H a = some (.lst xs) ∧ DqA ((Fsrc p l).lock O).W H xs ds := by
      match vs, sl with
      | [x, b], sl =>
        obtain ⟨c1, ⟨v, c2, c3⟩, _⟩ := sl
        cases c1
        cases c2
        cases c3 with
        | lst w e k => exact ⟨_, _, rfl, w, e, k⟩
    refine ⟨_, (pss_cons (ps_set (i := 2) nd rfl (by first | exact Or.inl rfl | exact Or.inr rfl) (pe_callTy (kLst (K := K) rfl) (by rfl) T.list (by decide +kernel) (pa_cons (pv 1) pa_nil)))
      (pss_one (ps_ret (pe_lc (own := [("lap", 3)]) rfl nd (pi_range1 (by rfl) T.range (pa_cons (pe_callB (kLen (K := K) rfl) (by rfl) T.len (by decide +kernel) (pa_cons (pv 2) pa_nil)) pa_nil)) (blkOk_by (N := names_l_mixed) (sc := defScope st_l_mixed) (by decide +kernel)) (fun _ _ _ _ _ => (pg_name (i := 3) nd rfl (by first | exact Or.inl rfl | exact Or.inr rfl))) (fun _ _ _ _ _ => pts_nil) (fun _ _ _ _ _ => (kBm (K := K) rfl PySem.F.plainAttrs_list PySem.F.slot_list_pop PySem.F.type_list_pop mt_popAt (pv 2) (pa_cons (c_l_pick.call hr (pa_cons (pv 0) (pa_cons (pe_callB (kLen (K := K) rfl) (by rfl) T.len (by decide +kernel) (pa_cons (pv 2) pa_nil)) pa_nil))) pa_nil))))))), ?_⟩
    refine ⟨_, rfl, a, xs, rfl, .inl (SqL.of ea), fun r hr0 => ?_⟩
    have lx := ka.len
    have npl : ∀ b, b = p ∨ b = l → H b ≠ none := fun b z => (Fsrc p l).dom H b j.1 z
    have nr : ∀ b, H b ≠ none → b ≠ r := fun b z e => z (by rw [e]; exact hr0)
    have srcU : ∀ (H1 : Hp) (b : Addr) (o : HO), H b = none → Src p l H1 → Src p l (upd H1 b o) := fun H1 b o hb s1 => (Fsrc p l).loc H1 _ (fun c z => upd_ne (fun e => npl c z (by rw [e]; exact hb))) s1
    refine ⟨_, rfl, r, xs, rfl, .inl (SqL.of upd_same), _, rfl, by omega, by rw [lx]; omega, fun D hD => ?_⟩
    have nDr : D ≠ r := fun z => by rw [z, upd_same] at hD; cases hD
    have hD0 : H D = none := by rw [upd_ne nDr] at hD; exact hD
    rw [show ((xs.length : Nat) : Int).toNat = xs.length from Int.toNat_natCast _]
    refine lc_range (lo := 0) (n := xs.length) (fun i H' => ∃ vs acc dv da, H' r = some (.lst vs) ∧ H' D = some (.lst acc) ∧ DqA ((Fsrc p l).lock O).W H vs dv ∧ DqA ((Fsrc p l).lock O).W H acc da ∧ (da ++ dv).Perm ds ∧ da.length = i ∧ Drw p l H H' ∧ Src p l H') ?_ ?_ ?_
    · exact ⟨xs, [], ds, [], by rw [upd_ne nDr.symm]; exact upd_same, upd_same, ka, .nil, .refl _, rfl, fun b o _ _ e => by rw [upd_ne (ne_of_none e hD0), upd_ne (ne_of_none e hr0)]; exact e, srcU _ D _ hD0 (srcU _ r _ hr0 j.1)⟩
    · rintro i H' hi ⟨vs, acc, dv, da, er, eD, kv, kc, hp, hl, dr, sr⟩
      refine ⟨rfl, ?_⟩
      have lv := kv.len
      have lc := kc.len
      have lp : da.length + dv.length = ds.length := by rw [← List.length_append]; exact hp.length_eq
      have hv : 0 < vs.length := by omega
      let O2 : Lk := fun b => if b = r then some (.lst vs) else if b = D then some (.lst acc) else O b
      have o2r : O2 r = some (.lst vs) := if_pos rfl
      have o2D : O2 D = some (.lst acc) := by show (if D = r then _ else _) = _; rw [if_neg nDr, if_pos rfl]
      have j2 : ((Fsrc p l).lock O2).J H' := ⟨sr, fun b o e => by
        by_cases h1 : b = r
        · subst h1
          rw [o2r] at e
          cases e
          exact ⟨fun z => npl b z hr0, er⟩
        · by_cases h2 : b = D
          · subst h2
            rw [o2D] at e
            cases e
            exact ⟨fun z => npl b z hD0, eD⟩
          · have e' : O b = some o := by
              have : O2 b = O b := by show (if b = r then _ else _) = _; rw [if_neg h1, if_neg h2]
              rw [this] at e
              exact e
            exact ⟨(j.2 b o e').1, dr b o (fun z => (j.2 b o e').1 (.inl z)) (fun z => (j.2 b o e').1 (.inr z)) (j.2 b o e').2⟩⟩
      refine ⟨_, rfl, .inl ⟨rfl, _, SqL.of er⟩, _, rfl, _, rfl, r, vs, rfl, .inl (SqL.of er), ?_⟩
      refine ⟨Fsrc p l, O2, [.raw (.ref p), .dat (.int vs.length)], fun d => ∃ z : Int, d = .int z ∧ 0 ≤ z ∧ z < max 1 ((vs.length : Nat) : Int), ⟨p, l, _, rfl, rfl, by omega, fun z h0 h1 => ⟨z, rfl, h0, h1⟩⟩, rfl, j2, ⟨rfl, ⟨_, rfl, .int _⟩, trivial⟩, ?_⟩
      rintro d v H2 ⟨z, rfl, z0, z1⟩ g kd
      cases kd
      have er2 := (g.2.2 r _ o2r).2
      have eD2 := (g.2.2 D _ o2D).2
      have hz : z.toNat < vs.length := by omega
      have hz2 : z.toNat < dv.length := by omega
      obtain ⟨y, ey⟩ : ∃ y, vs[z.toNat]? = some y := ⟨_, List.getElem?_eq_getElem hz⟩
      obtain ⟨dd, ed, ky⟩ := kv.getV ey
      have hix : seqIndex? z vs.length = some z.toNat := (ixN_seq (n := vs.length) (i := z) (j := z.toNat) (by unfold ixN; rw [if_pos z0, if_pos (by omega)])).1
      refine ⟨r, vs, z, z.toNat, y, rfl, rfl, er2, by omega, by omega, hix, ey, ?_⟩
      refine ⟨acc, by rw [upd_ne nDr]; exact eD2, by rw [lc]; exact Nat.lt_of_le_of_lt (show da.length ≤ 10000 by omega) (by decide), vs.eraseIdx z.toNat, acc ++ [y], dv.eraseIdx z.toNat, da ++ [dd], ?_, upd_same, kv.eraseIdx _, kc.append (.cons ky .nil), (perm_step ed).trans hp, by rw [List.length_append, List.length_singleton, hl], fun b o h1 h2 e => ?_, ?_⟩
      · rw [upd_ne nDr.symm]; exact upd_same
      · rw [upd_ne (ne_of_none e hD0), upd_ne (ne_of_none e hr0)]
        have o2b : O2 b = O b := by show (if b = r then _ else _) = _; rw [if_neg (ne_of_none e hr0), if_neg (ne_of_none e hD0)]
        cases q : O b with
        | none => exact g.1 b o (fun w2 => w2.elim (fun w3 => w3.elim h1 h2) fun w3 => w3 (o2b.trans q)) (dr b o h1 h2 e)
        | some o' =>
          have e2 := (j.2 b o' q).2
          rw [e] at e2
          cases e2
          exact (g.2.2 b o (o2b.trans q)).2
      · exact srcU _ D _ hD0 (srcU _ r _ hr0 g.2.1)
    · rintro H' ⟨vs, acc, dv, da, er, eD, kv, kc, hp, hl, dr, sr⟩
      have lp : da.length + dv.length = ds.length := by rw [← List.length_append]; exact hp.length_eq
      have hd0 : dv = [] := List.length_eq_zero_iff.mp (by omega)
      subst hd0
      rw [List.append_nil] at hp
      have g : Gro ((Fsrc p l).lock O) H H' := dr.gro j sr
      exact k _ _ H' (hR da hp) g (.lst (Fr.fresh j hD0) eD (kc.gro g))
end
end K01
end
section
set_option Elab.async false
set_option linter.all false
set_option maxRecDepth 100000
namespace K01
open PySem L2 PySem.Spec PyProof.Rows Dl RZ

/-! ### what repr asks, told by bounds -/
structure Sh (k m : Nat) (d : PyData) : Prop where
  shw : Shw d
  dep : d.depth ≤ k
  len : d.shown.length ≤ m
theorem Sh.mono {k m k' m' : Nat} {d : PyData} (h : Sh k m d) (a : k ≤ k') (b : m ≤ m') : Sh k' m' d := ⟨h.shw, Nat.le_trans h.dep a, Nat.le_trans h.len b⟩
theorem shownAll_eq : ∀ xs : List PyData, PyData.shownAll xs = xs.map PyData.shown
  | [] => by rw [PyData.shownAll]; rfl
  | x :: xs => by rw [PyData.shownAll, shownAll_eq xs]; rfl
theorem depthAll_le {k : Nat} : ∀ xs : List PyData, (∀ x, x ∈ xs → x.depth ≤ k) → PyData.depthAll xs ≤ k
  | [], _ => by rw [PyData.depthAll]; exact Nat.zero_le _
  | x :: xs, h => by
    rw [PyData.depthAll]
    exact Nat.max_le.mpr ⟨h x List.mem_cons_self, depthAll_le xs fun y hy => h y (List.mem_cons_of_mem _ hy)⟩
theorem piled_le {m : Nat} : ∀ ts : List Str, (∀ t, t ∈ ts → t.length ≤ m) → piled ts ≤ ts.length * (m + 2)
  | [], _ => Nat.zero_le _
  | t :: ts, h => by
    rw [piled_cons, List.length_cons, Nat.succ_mul]
    have h1 := h t List.mem_cons_self
    have h2 := piled_le ts fun y hy => h y (List.mem_cons_of_mem _ hy)
    omega
theorem listText_le (ts : List Str) : (listText ts).length ≤ piled ts + 2 := by
  have hX : (listText ts).length = (textFrom 0 "[" ts).length + 1 := by
    show (textFrom 0 "[" ts ++ "]").length = _
    rw [strLen_append]; rfl
  cases ts with
  | nil => rw [hX]; exact Nat.le_refl _
  | cons t r =>
    have h := textFrom_length_pos r 1 (("[" : Str) ++ (if (0 : Nat) > 0 then ", " else "" : String) ++ t) (Nat.succ_pos 0)
    have e : ((("[" : Str) ++ (if (0 : Nat) > 0 then ", " else "" : String) ++ t)).length = 1 + t.length := by
      rw [strLen_append, strLen_append]; rfl
    rw [hX, show textFrom 0 "[" (t :: r) = textFrom 1 (("[" : Str) ++ (if (0 : Nat) > 0 then ", " else "" : String) ++ t) r from rfl, h, e, piled_cons]
    omega
theorem join_le : ∀ ts : List Str, (Str.join ", " ts).length ≤ piled ts
  | [] => Nat.zero_le _
  | [x] => by
    rw [piled_cons]
    show x.length ≤ _
    omega
  | x :: y :: r => by
    have h := join_le (y :: r)
    show (x ++ ", " ++ Str.join ", " (y :: r)).length ≤ _
    rw [strLen_append, strLen_append, piled_cons]
    have e : (Str.ofString ", ").length = 2 := by decide
    rw [e]
    omega
theorem tupleText_le (ts : List Str) : (tupleText ts).length ≤ piled ts + 3 := by
  have h := join_le ts
  unfold tupleText
  rw [strLen_append, strLen_append]
  have e : (Str.ofString "(").length = 1 := by decide
  have e2 : ∀ b : Bool, (Str.ofString (if b = true then ",)" else ")")).length ≤ 2 := by decide
  rw [e]
  have e3 := e2 (decide (ts.length = 1))
  first
    | (split <;> simp_all <;> omega)
    | omega
theorem Sh.int {i : Int} (h : Bit 12000 i) : Sh 1 13000 (.int i) := by
  refine ⟨?_, ?_, ?_⟩
  · unfold Shw
    exact h.log (by decide)
  · rw [PyData.depth]
    decide
  · rw [PyData.shown]
    have e := int_text_length_le (a := i) (k := 12900) (by decide) (h.log (by decide))
    show (Str.ofString (toString i)).length ≤ _
    rw [PySem.ofString_length]
    omega
theorem Sh.none : Sh 1 13000 .none := ⟨by unfold Shw; trivial, by rw [PyData.depth]; decide, by rw [PyData.shown]; decide⟩
theorem Sh.bool (b : Bool) : Sh 1 13000 (.bool b) := ⟨by unfold Shw; trivial, by rw [PyData.depth]; decide, by rw [PyData.shown]; cases b <;> decide⟩
theorem Sh.list {k m : Nat} {xs : List PyData} (h : ∀ x, x ∈ xs → Sh k m x) : Sh (k + 1) (xs.length * (m + 2) + 2) (.list xs) := by
  refine ⟨?_, ?_, ?_⟩
  · unfold Shw
    exact fun x hx => (h x hx).shw
  · rw [PyData.depth]
    have := depthAll_le xs fun x hx => (h x hx).dep
    omega
  · rw [PyData.shown, shownAll_eq]
    refine Nat.le_trans (listText_le _) ?_
    have := piled_le (m := m) (xs.map PyData.shown) fun t ht => by
      obtain ⟨x, hx, rfl⟩ := List.mem_map.mp ht
      exact (h x hx).len
    rw [List.length_map] at this
    omega
theorem Sh.tuple {k m : Nat} {xs : List PyData} (h : ∀ x, x ∈ xs → Sh k m x) : Sh (k + 1) (xs.length * (m + 2) + 3) (.tuple xs) := by
  refine ⟨?_, ?_, ?_⟩
  · unfold Shw
    exact fun x hx => (h x hx).shw
  · rw [PyData.depth]
    have := depthAll_le xs fun x hx => (h x hx).dep
    omega
  · rw [PyData.shown, shownAll_eq]
    refine Nat.le_trans (tupleText_le _) ?_
    have := piled_le (m := m) (xs.map PyData.shown) fun t ht => by
      obtain ⟨x, hx, rfl⟩ := List.mem_map.mp ht
      exact (h x hx).len
    rw [List.length_map] at this
    omega
theorem Sh.fr {x : Int × Int} (h1 : Bit 12000 x.1) (h2 : Bit 12000 x.2) : Sh 2 27000 (frD x) := by
  refine (Sh.tuple (k := 1) (m := 13000) fun y hy => ?_).mono (by decide) (by show 2 * (13000 + 2) + 3 ≤ 27000; decide)
  rcases List.mem_cons.mp hy with e | hy
  · subst e; exact .int h1
  · rcases List.mem_cons.mp hy with e | hy
    · subst e; exact .int h2
    · cases hy
theorem Fq.sh {n : Nat} {x : Int × Int} (h : Fq n x) (l : n ≤ 12000) : Sh 2 27000 (frD x) := .fr (h.b1.mono l) (h.b2.mono l)
/-- repr of a list of such -/
theorem rp_atE {K : PySem.W.Frag} {Q : PyData → Prop} {xs : List PyData} (h : (∀ x, x ∈ xs → Sh 2 27000 x) ∧ xs.length ≤ 500 ∧ Q (.str (PyData.shown (.list xs)))) : CD (rReprB K) [.list xs] Q := by
  have e := Sh.list h.1
  have e2 : xs.length * (27000 + 2) + 2 ≤ sizeLine := Nat.le_trans (Nat.add_le_add_right (Nat.mul_le_mul_right _ h.2.1) 2) (by decide)
  exact cd_repr ⟨_, rfl, ⟨xs, .inl rfl⟩, e.shw, Nat.le_trans e.dep (by decide), Nat.le_trans e.len e2, h.2.2⟩
theorem rp_at {K : PySem.W.Frag} {Q : PyData → Prop} {xs : List PyData} (h : ∀ x, x ∈ xs → Sh 2 27000 x) (hl : xs.length ≤ 500) (q : Q (.str (PyData.shown (.list xs)))) : CD (rReprB K) [.list xs] Q := by
  have e := Sh.list h
  have e2 : xs.length * (27000 + 2) + 2 ≤ sizeLine := Nat.le_trans (Nat.add_le_add_right (Nat.mul_le_mul_right _ hl) 2) (by decide)
  exact cd_repr ⟨_, rfl, ⟨xs, .inl rfl⟩, e.shw, Nat.le_trans e.dep (by decide), Nat.le_trans e.len e2, q⟩
end K01
end
section
set_option Elab.async false
set_option linter.all false
set_option maxRecDepth 100000
set_option maxHeartbeats 0
namespace K01
open PySem L2 PySem.Spec PyProof.Rows Dl RZ
theorem bin_at {f : Int × Int → Int × Int → Int × Int} {a b c d : Int} {B : Fr} {R : PyData → Prop} (hx : Fq 4000 (a, b)) (hy : Fq 4000 (c, d)) (r : R (frD (f (a, b) (c, d)))) : mBin f B [.dat (.tuple [.int a, .int b]), .dat (.tuple [.int c, .int d])] R := ⟨(a, b), (c, d), rfl, hx, hy, r⟩
theorem over_at {a b c d : Int} {B : Fr} {R : PyData → Prop} (hx : Fq 4000 (a, b)) (hy : Fq 4000 (c, d)) (r : R (ov (a, b) (c, d))) : mOver B [.dat (.tuple [.int a, .int b]), .dat (.tuple [.int c, .int d])] R := ⟨(a, b), (c, d), rfl, hx, hy, r⟩
theorem less_at {a b c d : Int} {B : Fr} {R : PyData → Prop} (hx : Fq 4000 (a, b)) (hy : Fq 4000 (c, d)) (r : R (.bool (lessF (a, b) (c, d)))) : mLess B [.dat (.tuple [.int a, .int b]), .dat (.tuple [.int c, .int d])] R := ⟨(a, b), (c, d), rfl, hx, hy, r⟩
theorem floor_at {a b : Int} {B : Fr} {R : PyData → Prop} (hx : Fq 4000 (a, b)) (r : R (.int (a.fdiv b))) : mFloor B [.dat (.tuple [.int a, .int b])] R := ⟨(a, b), rfl, hx, r⟩
theorem ceil_at {a b : Int} {B : Fr} {R : PyData → Prop} (hx : Fq 4000 (a, b)) (r : R (.int (-((-a).fdiv b)))) : mCeil B [.dat (.tuple [.int a, .int b])] R := ⟨(a, b), rfl, hx, r⟩
local macro_rules | `(tactic| walk_at "dl") => `(tactic| first
  | ((with_reducible refine ew_varE ?_); refine ⟨_, rfl, ?_⟩)
  | ((with_reducible refine ew_int ?_))
  | ((with_reducible refine ew_str ?_))
  | ((with_reducible refine ew_bl ?_))
  | ((with_reducible refine ew_non ?_))
  | ((with_reducible refine ew_op ?_))
  | ((with_reducible refine ew_un ?_))
  | ((with_reducible refine ew_tup ?_))
  | ((with_reducible refine ew_lst ?_))
  | ((with_reducible refine ew_call ?_))
  | ((with_reducible refine ew_isi ?_))
  | ((with_reducible refine ew_cb ?_))
  | ((with_reducible refine ea_nil ?_))
  | ((with_reducible refine ea_rawE ?_); refine ⟨_, rfl, ?_⟩)
  | ((with_reducible refine ea_cons ?_))
  | ((with_reducible refine AllD.nil ?_))
  | ((with_reducible refine AllD.cons ?_))
  | ((with_reducible refine ew_isN ?_))
  | ((with_reducible refine ew_sl ?_))
  | ((with_reducible refine eo_none ?_))
  | ((with_reducible refine eo_some ?_))
  | ((with_reducible refine sd_list ?_))
  | ((with_reducible refine sd_tup ?_))
  | ((with_reducible refine tw_test ?_))
  | ((with_reducible refine tw_B ?_))
  | ((with_reducible refine tw_not ?_))
  | ((with_reducible refine tw_and ?_))
  | ((with_reducible refine tw_or ?_))
  | ((with_reducible refine sw_seq ?_))
  | ((with_reducible refine sw_if ?_))
  | ((with_reducible refine sw_ret ?_))
  | ((with_reducible refine sw_set ?_))
  | ((with_reducible refine sw_par ?_))
  | ((with_reducible refine sw_nx ?_))
  | ((with_reducible refine od_ix ?_); refine ⟨_, _, _, rfl, rfl, rfl, ?_⟩)
  | ((with_reducible refine od_mulI ?_); refine ⟨_, _, rfl, rfl, ?_, ?_⟩)
  | ((with_reducible refine od_addI ?_); refine ⟨_, _, rfl, rfl, ?_⟩)
  | ((with_reducible refine od_addL ?_); refine ⟨_, _, rfl, rfl, ?_, ?_⟩)
  | ((with_reducible refine od_I0 ?_); refine ⟨_, _, rfl, rfl, ?_⟩)
  | ((with_reducible refine od_B0 ?_); refine ⟨_, _, rfl, rfl, ?_⟩)
  | ((with_reducible refine od_I ?_); refine ⟨_, _, rfl, rfl, ?_, ?_⟩)
  | ((with_reducible refine ud_I ?_); refine ⟨_, rfl, ?_⟩)
  | ((with_reducible refine od_eqI' ?_))
  | ((with_reducible refine od_neI' ?_))
  | ((with_reducible refine od_eqS' ?_))
  | ((with_reducible refine od_neS' ?_))
  | ((with_reducible refine cd_gcd ?_); refine ⟨_, _, rfl, ?_⟩)
  | ((with_reducible refine qAbs ?_); refine ⟨_, rfl, ?_⟩)
  | ((with_reducible refine qInt ?_); refine ⟨_, rfl, ?_⟩)
  | ((with_reducible refine qLen ?_); refine ⟨_, _, rfl, rfl, ?_⟩)
  | ((with_reducible refine qTup ?_); refine ⟨_, _, rfl, rfl, ?_⟩)
  | ((with_reducible refine qLst ?_); refine ⟨_, _, rfl, rfl, ?_⟩)
  | ((with_reducible refine qIntB ?_); refine ⟨_, rfl, ?_⟩)
  | ((with_reducible refine qMax2 ?_); refine ⟨_, _, rfl, ?_⟩)
  | ((with_reducible refine pick_atE ?_); refine ⟨by decide, fun r h0 h1 => ?_⟩)
  | ((with_reducible refine great_atE ?_); refine ⟨_, rfl, by decide, by decide, fun n h0 h1 => ?_⟩)
  | ((with_reducible refine bin_at ?_ ?_ ?_))
  | ((with_reducible refine over_at ?_ ?_ ?_))
  | ((with_reducible refine less_at ?_ ?_ ?_))
  | ((with_reducible refine floor_at ?_ ?_))
  | ((with_reducible refine ceil_at ?_ ?_))
  | ((with_reducible refine least_at ?_ ?_ ?_))
  | ((with_reducible refine rp_atE ?_); refine ⟨?_, Nat.le_of_ble_eq_true rfl, ?_⟩)
  | ((with_reducible refine ex_b ?_))
  | ((with_reducible refine ex_i ?_))
  | ((with_reducible refine ex_t ?_))
  | ((with_reducible refine ex_l ?_))
  | ((with_reducible refine ex_2 ?_))
  | ((with_reducible refine len_and ?_ ?_); exact Nat.le_of_ble_eq_true rfl)
  | ((with_reducible refine own_and ?_ ?_); rfl))
section
variable {P : Program} {w : World} {K : PySem.W.Frag} {mg : Str → Option Value} {base : Heap}
def mPair (_ : Fr) (es : List Ent) (R : PyData → Prop) : Prop := ∃ (v : V) (x y : Int × Int), es = [.raw v, .dat (frD x), .dat (frD y)] ∧ Fq 160 x ∧ Fq 160 y ∧ R (.bool true)
theorem ew_ifv {B : Fr} {env : List Ent} {tt : TT} {ta tb : TE} {Q : PyData → Prop} (d : PyData) (h : TW B env tt fun b => if b = true then EW B env ta (fun z => z = d) else EW B env tb (fun z => z = d)) (q : Q d) : EW B env (tIf tt ta tb) Q := by
  refine ew_if (h.mono fun b hb => ?_)
  cases b with
  | true => exact hb.mono fun z hz => by rw [hz]; exact q
  | false => exact hb.mono fun z hz => by rw [hz]; exact q
theorem neF {α : Type} [DecidableEq α] {A B : α} {p q : Prop} (h : A = B) (r : q) : if (!decide (A = B)) = true then p else q := by
  rw [decide_eq_true h]
  exact iteF r
theorem fdiv_bit {n : Nat} {a b : Int} (h : 0 < b) (ha : Bit n a) : Bit n (a.fdiv b) := by
  have h1 := Int.mul_fdiv_add_fmod a b
  have h2 := Int.fmod_nonneg_of_pos a h
  have h3 := Int.fmod_lt_of_pos a h
  unfold Bit at *
  generalize a.fdiv b = q at *
  generalize a.fmod b = r at *
  by_cases hq : 0 ≤ q
  · have := Int.mul_le_mul_of_nonneg_right (show 1 ≤ b by omega) hq
    omega
  · have h4 := Int.mul_le_mul_of_nonneg_right (show 1 ≤ b by omega) (show 0 ≤ -q - 1 by omega)
    have h5 : b * (-q - 1) = - (b * q) - b := by
      rw [Int.mul_sub, Int.mul_neg, Int.mul_one]
    omega
theorem sh3 {k m : Nat} {a b c : PyData} (ha : Sh k m a) (hb : Sh k m b) (hc : Sh k m c) : ∀ z, z ∈ [a, b, c] → Sh k m z := by
  intro z hz
  rcases List.mem_cons.mp hz with e | hz
  · rw [e]; exact ha
  rcases List.mem_cons.mp hz with e | hz
  · rw [e]; exact hb
  rcases List.mem_cons.mp hz with e | hz
  · rw [e]; exact hc
  · cases hz
theorem isTup : kitB "tuple" "tuple" = some true := by decide +kernel
theorem mi_eq (x y : Int × Int) : mi x y = pl x (0 - y.1, y.2) := by
  unfold mi pl
  show lst (x.1 * y.2 - y.1 * x.2) (x.2 * y.2) = lst (x.1 * y.2 + (0 - y.1) * x.2) (x.2 * y.2)
  rw [Int.zero_sub, Int.neg_mul, ← Int.sub_eq_add_neg]
theorem ok_l_pair_right {f : Addr} {fd : FuncData} (F : Fun K "_law_pair_right" "_law_pair_right" st_l_pair_right f fd) (T : Tx mg) (c_plus : HasG P w K mg base "plus" 2 ["one", "other"] (spG (mBin pl))) (c_minus : HasG P w K mg base "minus" 2 ["one", "other"] (spG (mBin mi))) (c_times : HasG P w K mg base "times" 2 ["one", "other"] (spG (mBin tm))) (c_over : HasG P w K mg base "over" 2 ["one", "other"] (spG mOver)) (c_is_less : HasG P w K mg base "is_less" 1 ["one", "other"] (spG mLess)) (c_floor_of : HasG P w K mg base "floor_of" 1 ["t"] (spG mFloor)) (c_ceiling_of : HasG P w K mg base "ceiling_of" 1 ["t"] (spG mCeil)) (c_l_least : HasG P w K mg base "_law_least" 1 ["a", "b"] (spG mLeast)) (c_l_plus : HasG P w K mg base "_law_plus" 2 ["x", "y"] (spG (mBin pl))) (ND : NoDig base) : FnG P w K mg base 3 f fd ["source", "x", "y"] (spG mPair) := by
  have nd := sc_l_pair_right.nd
  refine fn_dlG F sc_l_pair_right (fun B es R ⟨v, x, y, e, _⟩ => by rw [e]; rfl) fun cdv A outer s H E hr gd B es R hm => ?_
  have hu := hu_of hr
  have hu64 := hr.units
  obtain ⟨v, x, y, rfl, hx, hy, hR⟩ := hm
  have hx4 := hx.mono (show 160 ≤ 4000 by decide)
  have hy4 := hy.mono (show 160 ≤ 4000 by decide)
  have y0 : (!decide (y.1 = 0)) = true → y.1 ≠ 0 := fun h z => by rw [decide_eq_true z] at h; cases h
  have y1 : ¬ (!decide (y.1 = 0)) = true → y.1 = 0 := fun h => by
    by_cases z : y.1 = 0
    · exact z
    · rw [decide_eq_false z] at h; exact absurd rfl h
  have hTD : [frD (pl (x.1, x.2) (y.1, y.2)), frD (mi (x.1, x.2) (y.1, y.2)), frD (tm (x.1, x.2) (y.1, y.2)), ov (x.1, x.2) (y.1, y.2), PyData.bool (lessF (x.1, x.2) (y.1, y.2))] =
      [frD (pl (x.1, x.2) (y.1, y.2)), frD (pl (x.1, x.2) (0 - y.1, y.2)), frD (lst (x.1 * y.1) (x.2 * y.2))] ++ [ov x y, PyData.bool (decide (x.1 * y.2 < y.1 * x.2))] := by
    rw [mi_eq]
    rfl
  have p1 := (pl_fq hx hy).sh (by decide)
  have p2 : Sh 2 27000 (frD (pl x (0 - y.1, y.2))) := (pl_fq (y := (0 - y.1, y.2)) hx ⟨hy.pos, by rw [Int.zero_sub]; exact hy.b1.neg, hy.b2⟩).sh (by decide)
  have p3 : Sh 2 27000 (frD (tm x y)) := (lst_fq (mul_ne hx.pos (by have := hy.pos; omega)) (hx.b1.mul hy.b1) (hx.b2.mul hy.b2)).sh (by decide)
  have p4 : Sh 2 27000 (ov x y) := by
    unfold ov
    split
    · exact Sh.none.mono (by decide) (by decide)
    · rename_i hz
      exact (lst_fq (mul_ne hx.pos hz) (hx.b1.mul hy.b2) (hx.b2.mul hy.b1)).sh (by decide)
  have p5 : ∀ b : Bool, Sh 2 27000 (.bool b) := fun b => (Sh.bool b).mono (by decide) (by decide)
  have shD : ∀ z, z ∈ [frD (pl (x.1, x.2) (y.1, y.2)), frD (pl (x.1, x.2) (0 - y.1, y.2)), frD (lst (x.1 * y.1) (x.2 * y.2))] ++ [ov x y, PyData.bool (decide (x.1 * y.2 < y.1 * x.2))] → Sh 2 27000 z := by
    intro z hz
    rcases List.mem_cons.mp hz with e | hz
    · rw [e]; exact p1
    rcases List.mem_cons.mp hz with e | hz
    · rw [e]; exact p2
    rcases List.mem_cons.mp hz with e | hz
    · rw [e]; exact p3
    rcases List.mem_cons.mp hz with e | hz
    · rw [e]; exact p4
    rcases List.mem_cons.mp hz with e | hz
    · rw [e]; exact p5 _
    · cases hz
  have shT := hTD ▸ shD
  have hFC : [PyData.int (x.1.fdiv x.2), PyData.int (-((-x.1).fdiv x.2))] = [PyData.int (x.1.fdiv x.2), PyData.int (0 - (0 - x.1).fdiv x.2)] := by
    rw [Int.zero_sub, Int.zero_sub]
  have q2 : ∀ z, z ∈ [PyData.int (x.1.fdiv x.2), PyData.int (-((-x.1).fdiv x.2))] → Sh 2 27000 z := by
    have i1 : ∀ a : Int, Bit 160 a → Sh 2 27000 (.int a) := fun a h => (Sh.int (h.mono (by decide))).mono (by decide) (by decide)
    intro z hz
    rcases List.mem_cons.mp hz with e | hz
    · rw [e]; exact i1 _ (fdiv_bit hx.pos hx.b1)
    rcases List.mem_cons.mp hz with e | hz
    · rw [e]; exact i1 _ (fdiv_bit hx.pos hx.b1.neg).neg
    · cases hz
  have q3 : ∀ z, z ∈ [PyData.int (x.1.fdiv x.2), PyData.int (0 - (0 - x.1).fdiv x.2)] → Sh 2 27000 z := hFC ▸ q2
  have hP : Fq 321 (pl x y) := pl_fq hx hy
  have hN : Fq 321 (pl x (0 - y.1, y.2)) := pl_fq (y := (0 - y.1, y.2)) hx ⟨hy.pos, by rw [Int.zero_sub]; exact hy.b1.neg, hy.b2⟩
  have hM : Fq 321 (mi x y) := by rw [mi_eq]; exact hN
  have hT : Fq 320 (tm x y) := lst_fq (mul_ne hx.pos (by have := hy.pos; omega)) (hx.b1.mul hy.b1) (hx.b2.mul hy.b2)
  refine ⟨_, (pss_cons (ps_set (i := 3) nd rfl (by first | exact Or.inl rfl | exact Or.inr rfl) (pe_lst (pa_cons (c_l_plus.call hr gd (pa_cons (pv 1) (pa_cons (pv 2) pa_nil))) (pa_cons (c_l_plus.call hr gd (pa_cons (pv 1) (pa_cons (pe_tup (pa_cons (pe_op op_sub pe_int (pe_ix (kIx (K := K) rfl) (pv 2) pe_int (fun _ _ => rfl))) (pa_cons (pe_ix (kIx (K := K) rfl) (pv 2) pe_int (fun _ _ => rfl)) pa_nil))) pa_nil))) (pa_cons (c_l_least.call hr gd (pa_cons (pe_op (kMul (K := K) rfl) (pe_ix (kIx (K := K) rfl) (pv 1) pe_int (fun _ _ => rfl)) (pe_ix (kIx (K := K) rfl) (pv 2) pe_int (fun _ _ => rfl))) (pa_cons (pe_op (kMul (K := K) rfl) (pe_ix (kIx (K := K) rfl) (pv 1) pe_int (fun _ _ => rfl)) (pe_ix (kIx (K := K) rfl) (pv 2) pe_int (fun _ _ => rfl))) pa_nil))) pa_nil)))))
      (pss_cons (ps_set (i := 3) nd rfl (by first | exact Or.inl rfl | exact Or.inr rfl) (pe_op (kAdd (K := K) rfl) (pv 3) (pe_lst (pa_cons (pe_ifExp (pt_cmpR (kNe (K := K) rfl hu64) (pe_ix (kIx (K := K) rfl) (pv 2) pe_int (fun _ _ => rfl)) pe_int (nomark _)) (c_l_least.call hr gd (pa_cons (pe_op (kMul (K := K) rfl) (pe_ix (kIx (K := K) rfl) (pv 1) pe_int (fun _ _ => rfl)) (pe_ix (kIx (K := K) rfl) (pv 2) pe_int (fun _ _ => rfl))) (pa_cons (pe_op (kMul (K := K) rfl) (pe_ix (kIx (K := K) rfl) (pv 1) pe_int (fun _ _ => rfl)) (pe_ix (kIx (K := K) rfl) (pv 2) pe_int (fun _ _ => rfl))) pa_nil))) pe_non) (pa_cons (pe_cmpR op_lt (pe_op (kMul (K := K) rfl) (pe_ix (kIx (K := K) rfl) (pv 1) pe_int (fun _ _ => rfl)) (pe_ix (kIx (K := K) rfl) (pv 2) pe_int (fun _ _ => rfl))) (pe_op (kMul (K := K) rfl) (pe_ix (kIx (K := K) rfl) (pv 2) pe_int (fun _ _ => rfl)) (pe_ix (kIx (K := K) rfl) (pv 1) pe_int (fun _ _ => rfl))) (nomark _)) pa_nil)))))
      (pss_cons (ps_set (i := 4) nd rfl (by first | exact Or.inl rfl | exact Or.inr rfl) (pe_lst (pa_cons (c_plus.call hr gd (pa_cons (pv 1) (pa_cons (pv 2) pa_nil))) (pa_cons (c_minus.call hr gd (pa_cons (pv 1) (pa_cons (pv 2) pa_nil))) (pa_cons (c_times.call hr gd (pa_cons (pv 1) (pa_cons (pv 2) pa_nil))) (pa_cons (c_over.call hr gd (pa_cons (pv 1) (pa_cons (pv 2) pa_nil))) (pa_cons (c_is_less.call hr gd (pa_cons (pv 1) (pa_cons (pv 2) pa_nil))) pa_nil)))))))
      (pss_cons (ps_if (PW.pt (pw_or (pt_cmpR (kNe (K := K) rfl hu64) (pe_callB (kRepr (K := K) rfl ND gd hu64) (by rfl) T.repr (by decide +kernel) (pa_cons (pv 4) pa_nil)) (pe_callB (kRepr (K := K) rfl ND gd hu64) (by rfl) T.repr (by decide +kernel) (pa_cons (pv 3) pa_nil)) (nomark _)) (pw_or1 (pt_not (pt_val (pe_callB (kAll (K := K) rfl rfl) (by rfl) T.all (by decide +kernel) (pa_cons (pe_lc (own := [("one", 5)]) rfl nd (kList (K := K) rfl (pe_slice (kSl (K := K) rfl) (pv 4) po_none (po_some pe_int))) (blkOk_by (N := names_l_pair_right) (sc := defScope st_l_pair_right) (by decide +kernel)) (fun _ _ _ _ _ => (pg_name (i := 5) nd rfl (by first | exact Or.inl rfl | exact Or.inr rfl))) (fun _ _ _ _ _ => pts_nil) (fun _ _ _ _ _ => (pe_callB (kIsi (K := K) rfl) (by rfl) T.isinstance (by decide +kernel) (pa_cons (pv 5) (pa_cons (pe_bltn (v := .ty "tuple") (by rfl) T.tuple (by decide +kernel) rfl) pa_nil))))) pa_nil))))))) (pss_one (ps_ret pe_bl)) pss_nil)
      (pss_cons (ps_set (i := 6) nd rfl (by first | exact Or.inl rfl | exact Or.inr rfl) (pe_lst (pa_cons (pe_op op_fdivG (pe_ix (kIx (K := K) rfl) (pv 1) pe_int (fun _ _ => rfl)) (pe_ix (kIx (K := K) rfl) (pv 1) pe_int (fun _ _ => rfl))) (pa_cons (pe_op op_sub pe_int (pe_op op_fdivG (pe_op op_sub pe_int (pe_ix (kIx (K := K) rfl) (pv 1) pe_int (fun _ _ => rfl))) (pe_ix (kIx (K := K) rfl) (pv 1) pe_int (fun _ _ => rfl)))) pa_nil))))
      (pss_cons (ps_if (pt_cmpR (kNe (K := K) rfl hu64) (pe_callB (kRepr (K := K) rfl ND gd hu64) (by rfl) T.repr (by decide +kernel) (pa_cons (pe_lst (pa_cons (c_floor_of.call hr gd (pa_cons (pv 1) pa_nil)) (pa_cons (c_ceiling_of.call hr gd (pa_cons (pv 1) pa_nil)) pa_nil))) pa_nil)) (pe_callB (kRepr (K := K) rfl ND gd hu64) (by rfl) T.repr (by decide +kernel) (pa_cons (pv 6) pa_nil)) (nomark _)) (pss_one (ps_ret pe_bl)) pss_nil)
      (pss_cons (ps_set (i := 7) nd rfl (by first | exact Or.inl rfl | exact Or.inr rfl) (pe_lst (pa_cons (c_plus.call hr gd (pa_cons (pe_ix (kIx (K := K) rfl) (pv 4) pe_int (fun _ _ => rfl)) (pa_cons (pe_ix (kIx (K := K) rfl) (pv 4) pe_int (fun _ _ => rfl)) pa_nil))) (pa_cons (c_floor_of.call hr gd (pa_cons (pe_ix (kIx (K := K) rfl) (pv 4) pe_int (fun _ _ => rfl)) pa_nil)) (pa_cons (c_is_less.call hr gd (pa_cons (pe_ix (kIx (K := K) rfl) (pv 4) pe_int (fun _ _ => rfl)) (pa_cons (pe_ix (kIx (K := K) rfl) (pv 4) pe_int (fun _ _ => rfl)) pa_nil))) pa_nil)))))
      (pss_cons (ps_set (i := 8) nd rfl (by first | exact Or.inl rfl | exact Or.inr rfl) (pe_cmpR op_lt (pe_op (kMul (K := K) rfl) (pe_ix (kIx (K := K) rfl) (pe_ix (kIx (K := K) rfl) (pv 3) pe_int (fun _ _ => rfl)) pe_int (fun _ _ => rfl)) (pe_ix (kIx (K := K) rfl) (pe_ix (kIx (K := K) rfl) (pv 3) pe_int (fun _ _ => rfl)) pe_int (fun _ _ => rfl))) (pe_op (kMul (K := K) rfl) (pe_ix (kIx (K := K) rfl) (pe_ix (kIx (K := K) rfl) (pv 3) pe_int (fun _ _ => rfl)) pe_int (fun _ _ => rfl)) (pe_ix (kIx (K := K) rfl) (pe_ix (kIx (K := K) rfl) (pv 3) pe_int (fun _ _ => rfl)) pe_int (fun _ _ => rfl))) (nomark _)))
      (pss_one (ps_ret (pe_cmpR (kEq (K := K) rfl hu64) (pe_callB (kRepr (K := K) rfl ND gd hu64) (by rfl) T.repr (by decide +kernel) (pa_cons (pv 7) pa_nil)) (pe_callB (kRepr (K := K) rfl ND gd hu64) (by rfl) T.repr (by decide +kernel) (pa_cons (pe_lst (pa_cons (c_l_plus.call hr gd (pa_cons (pe_ix (kIx (K := K) rfl) (pv 3) pe_int (fun _ _ => rfl)) (pa_cons (pe_ix (kIx (K := K) rfl) (pv 3) pe_int (fun _ _ => rfl)) pa_nil))) (pa_cons (pe_op op_fdivG (pe_ix (kIx (K := K) rfl) (pe_ix (kIx (K := K) rfl) (pv 3) pe_int (fun _ _ => rfl)) pe_int (fun _ _ => rfl)) (pe_ix (kIx (K := K) rfl) (pe_ix (kIx (K := K) rfl) (pv 3) pe_int (fun _ _ => rfl)) pe_int (fun _ _ => rfl))) (pa_cons (pv 8) pa_nil)))) pa_nil)) (nomark _)))))))))))), ?_⟩
  show SW B [.raw v, .dat (frD x), .dat (frD y), .non, .non, .non, .non, .non, .non] _ _
  repeat' walk_at "dl"
  any_goals first
    | exact hx4
    | exact hy4
    | exact ⟨hy4.pos, by rw [Int.zero_sub]; exact hy4.b1.neg, hy4.b2⟩
    | exact hx.b1.mulOk hy.b1 (by decide)
    | exact hx.b1.mulOk hy.b2 (by decide)
    | exact hy.b1.mulOk hx.b2 (by decide)
    | exact hx.b2.mulOk hy.b1 (by decide)
    | exact hx.b2.mulOk hy.b2 (by decide)
    | exact mul_ne hx.pos (by have := hy.pos; omega)
    | exact (hx.b2.mul hy.b2).mono (by decide)
    | exact (hx.b2.mul hy.b1).mono (by decide)
  have hn : ∀ h : ¬ y.1 = 0, frD (lst (x.1 * y.2) (x.2 * y.1)) = ov x y := fun h => by unfold ov; rw [if_neg h]
  refine ew_ifv (ov x y) ?_ ?_
  · repeat' walk_at "dl"
    refine ite2 (fun hc => ?_) (fun hc => ?_)
    · repeat' walk_at "dl"
      all_goals first
        | exact mul_ne hx.pos (y0 hc)
        | exact hn (y0 hc)
        | exact hx.b1.mulOk hy.b2 (by decide)
        | exact hx.b2.mulOk hy.b1 (by decide)
        | exact (hx.b2.mul hy.b1).mono (by decide)
    · repeat' walk_at "dl"
      unfold ov
      rw [if_pos (y1 hc)]
  · repeat' walk_at "dl"
    any_goals first
      | exact hx4
      | exact hy4
      | exact ⟨hy4.pos, by rw [Int.zero_sub]; exact hy4.b1.neg, hy4.b2⟩
      | exact hx.b1.mulOk hy.b1 (by decide)
      | exact hx.b1.mulOk hy.b2 (by decide)
      | exact hy.b1.mulOk hx.b2 (by decide)
      | exact hx.b2.mulOk hy.b1 (by decide)
      | exact hx.b2.mulOk hy.b2 (by decide)
      | exact mul_ne hx.pos (by have := hy.pos; omega)
      | exact (hx.b2.mul hy.b2).mono (by decide)
      | exact (hx.b2.mul hy.b1).mono (by decide)
    · exact Nat.le_of_ble_eq_true rfl
    · exact shT
    · exact shD
    · refine neF (congrArg PyData.shown (congrArg PyData.list hTD)) ?_
      repeat' walk_at "dl"
      refine ew_lcMap (fun _ => .bool true) (it_list ?_)
      repeat' walk_at "dl"
      refine ⟨fun d hd => ?_, ?_⟩
      · refine gc_name (List.mem_cons_self) ?_
        repeat' walk_at "dl"
        have ht : ∃ z, d = frD z := by
          have hd' : d ∈ [frD (pl (x.1, x.2) (y.1, y.2)), frD (mi (x.1, x.2) (y.1, y.2)), frD (tm (x.1, x.2) (y.1, y.2))] := hd
          rcases List.mem_cons.mp hd' with e | hd'
          · exact ⟨_, e⟩
          rcases List.mem_cons.mp hd' with e | hd'
          · exact ⟨_, e⟩
          rcases List.mem_cons.mp hd' with e | hd'
          · exact ⟨_, e⟩
          · cases hd'
        obtain ⟨z, rfl⟩ := ht
        exact ⟨true, isTup, rfl⟩
      · repeat' walk_at "dl"
        refine cd_all ⟨[true, true, true], rfl, ?_⟩
        repeat' walk_at "dl"
        refine iteF ?_
        repeat' walk_at "dl"
        any_goals first
          | exact hx4
          | exact hx4.b2.divOk (by have := hx4.pos; omega) (by decide)
          | exact q2
          | exact q3
        refine neF (congrArg PyData.shown (congrArg PyData.list hFC)) ?_
        repeat' walk_at "dl"
        all_goals first
          | exact hT.mono (by decide)
          | exact hP.mono (by decide)
          | exact hM.mono (by decide)
          | exact hN.b1.mulOk hT.b2 (by decide)
          | exact hT.b1.mulOk hN.b2 (by decide)
          | exact hP.b2.divOk (by have := hP.pos; omega) (by decide)
          | exact sh3 ((pl_fq hT hP).sh (by decide)) ((Sh.int ((fdiv_bit hP.pos hP.b1).mono (by decide))).mono (by decide) (by decide)) (p5 _)
          | skip
        refine Eq.mp (congrArg R (congrArg PyData.bool ?_)) hR
        refine (decide_eq_true (congrArg PyData.shown (congrArg PyData.list ?_))).symm
        rw [mi_eq]
        rfl

end
end K01
end
section
set_option Elab.async false
set_option linter.all false
set_option maxRecDepth 100000
set_option maxHeartbeats 0
namespace K01
open PySem L2 PySem.Spec PyProof.Rows Dl RZ
local macro_rules | `(tactic| walk_at "dl") => `(tactic| first
  | ((with_reducible refine ew_varE ?_); refine ⟨_, rfl, ?_⟩)
  | ((with_reducible refine ew_int ?_))
  | ((with_reducible refine ew_str ?_))
  | ((with_reducible refine ew_bl ?_))
  | ((with_reducible refine ew_non ?_))
  | ((with_reducible refine ew_op ?_))
  | ((with_reducible refine ew_un ?_))
  | ((with_reducible refine ew_tup ?_))
  | ((with_reducible refine ew_lst ?_))
  | ((with_reducible refine ew_call ?_))
  | ((with_reducible refine ew_isi ?_))
  | ((with_reducible refine ew_cb ?_))
  | ((with_reducible refine ea_nil ?_))
  | ((with_reducible refine ea_rawE ?_); refine ⟨_, rfl, ?_⟩)
  | ((with_reducible refine ea_cons ?_))
  | ((with_reducible refine AllD.nil ?_))
  | ((with_reducible refine AllD.cons ?_))
  | ((with_reducible refine ew_isN ?_))
  | ((with_reducible refine ew_sl ?_))
  | ((with_reducible refine eo_none ?_))
  | ((with_reducible refine eo_some ?_))
  | ((with_reducible refine sd_list ?_))
  | ((with_reducible refine sd_tup ?_))
  | ((with_reducible refine tw_test ?_))
  | ((with_reducible refine tw_B ?_))
  | ((with_reducible refine tw_not ?_))
  | ((with_reducible refine tw_and ?_))
  | ((with_reducible refine tw_or ?_))
  | ((with_reducible refine sw_seq ?_))
  | ((with_reducible refine sw_if ?_))
  | ((with_reducible refine sw_ret ?_))
  | ((with_reducible refine sw_set ?_))
  | ((with_reducible refine sw_par ?_))
  | ((with_reducible refine sw_nx ?_))
  | ((with_reducible refine od_ix ?_); refine ⟨_, _, _, rfl, rfl, rfl, ?_⟩)
  | ((with_reducible refine od_mulI ?_); refine ⟨_, _, rfl, rfl, ?_, ?_⟩)
  | ((with_reducible refine od_addI ?_); refine ⟨_, _, rfl, rfl, ?_⟩)
  | ((with_reducible refine od_addL ?_); refine ⟨_, _, rfl, rfl, ?_, ?_⟩)
  | ((with_reducible refine od_I0 ?_); refine ⟨_, _, rfl, rfl, ?_⟩)
  | ((with_reducible refine od_B0 ?_); refine ⟨_, _, rfl, rfl, ?_⟩)
  | ((with_reducible refine od_I ?_); refine ⟨_, _, rfl, rfl, ?_, ?_⟩)
  | ((with_reducible refine ud_I ?_); refine ⟨_, rfl, ?_⟩)
  | ((with_reducible refine od_eqI' ?_))
  | ((with_reducible refine od_neI' ?_))
  | ((with_reducible refine od_eqS' ?_))
  | ((with_reducible refine od_neS' ?_))
  | ((with_reducible refine cd_gcd ?_); refine ⟨_, _, rfl, ?_⟩)
  | ((with_reducible refine qAbs ?_); refine ⟨_, rfl, ?_⟩)
  | ((with_reducible refine qInt ?_); refine ⟨_, rfl, ?_⟩)
  | ((with_reducible refine qLen ?_); refine ⟨_, _, rfl, rfl, ?_⟩)
  | ((with_reducible refine qTup ?_); refine ⟨_, _, rfl, rfl, ?_⟩)
  | ((with_reducible refine qLst ?_); refine ⟨_, _, rfl, rfl, ?_⟩)
  | ((with_reducible refine qIntB ?_); refine ⟨_, rfl, ?_⟩)
  | ((with_reducible refine qMax2 ?_); refine ⟨_, _, rfl, ?_⟩)
  | ((with_reducible refine pick_atE ?_); refine ⟨by decide, fun r h0 h1 => ?_⟩)
  | ((with_reducible refine great_atE ?_); refine ⟨_, rfl, by decide, by decide, fun n h0 h1 => ?_⟩)
  | ((with_reducible refine of_atE ?_); refine ⟨by simp, Nat.le_of_ble_eq_true rfl, ?_⟩)
  | ((with_reducible refine bin_at ?_ ?_ ?_))
  | ((with_reducible refine over_at ?_ ?_ ?_))
  | ((with_reducible refine less_at ?_ ?_ ?_))
  | ((with_reducible refine floor_at ?_ ?_))
  | ((with_reducible refine ceil_at ?_ ?_))
  | ((with_reducible refine least_at ?_ ?_ ?_))
  | ((with_reducible refine fr_at ?_ ?_ ?_))
  | ((with_reducible refine rp_atE ?_); refine ⟨?_, Nat.le_of_ble_eq_true rfl, ?_⟩)
  | ((with_reducible refine ex_b ?_))
  | ((with_reducible refine ex_i ?_))
  | ((with_reducible refine ex_t ?_))
  | ((with_reducible refine ex_l ?_))
  | ((with_reducible refine ex_2 ?_))
  | ((with_reducible refine len_and ?_ ?_); exact Nat.le_of_ble_eq_true rfl)
  | ((with_reducible refine own_and ?_ ?_); rfl))
section
variable {P : Program} {w : World} {K : PySem.W.Frag} {mg : Str → Option Value} {base : Heap}
theorem lst_is {p q g c d : Int} (h : 0 < q) (hg : gc p q = g) (h1 : p = g * c) (h2 : q = g * d) : lst p q = (c, d) := by
  have g0 : g ≠ 0 := by
    have := gc_pos (a := p) (b := q) (by omega)
    omega
  rw [lst_pos h, hg]
  have e1 : p.fdiv g = c := by rw [h1]; exact fdiv_of g0
  have e2 : q.fdiv g = d := by rw [h2]; exact fdiv_of g0
  rw [e1, e2]
theorem lst_flip {p q : Int} (h : q < 0) : lst p q = lst (-p) (-q) := by
  rw [← lst_neg h, lst_pos (show 0 < -q by omega)]
theorem lst_scale {p q b : Int} (h : 0 < q) (hb : 0 < b) : lst (p * b) (q * b) = lst p q := by
  obtain ⟨c, hc⟩ := gc_dvd1 p q
  obtain ⟨d, hd⟩ := gc_dvd2 p q
  have e : gc (p * b) (q * b) = gc p q * b := by
    unfold gc
    rw [Int.natAbs_mul, Int.natAbs_mul, Nat.gcd_mul_right]
    have e : ((b.natAbs : Nat) : Int) = b := by omega
    rw [Int.natCast_mul, e]
  rw [lst_is h rfl hc hd]
  refine lst_is (Int.mul_pos h hb) e ?_ ?_
  · rw [Int.mul_right_comm, ← hc]
  · rw [Int.mul_right_comm, ← hd]
theorem lst_m1 {p q b : Int} (h : 0 < q) (hb : 0 < b) : lst (0 - p * b) (0 - q * b) = lst p q := by
  have := Int.mul_pos h hb
  rw [lst_flip (by omega), Int.zero_sub, Int.zero_sub, Int.neg_neg, Int.neg_neg, lst_scale h hb]
theorem lst_m2 {p q b : Int} (h : 0 < q) (hb : 0 < b) : lst (p * b) (0 - q * b) = lst (0 - p) q := by
  have := Int.mul_pos h hb
  rw [lst_flip (by omega), Int.zero_sub, Int.neg_neg, ← Int.neg_mul, lst_scale h hb, Int.zero_sub]
theorem lst_m3 {q : Int} (h : 0 < q) : lst 0 (0 - q) = (0, 1) := by
  rw [lst_flip (by omega), Int.zero_sub, Int.neg_neg]
  refine lst_is h (g := q) ?_ ?_ ?_
  · unfold gc
    simp
    omega
  · simp
  · rw [Int.mul_one]
theorem lst_m4 {m : Int} (h : 0 < m) : lst m m = (1, 1) := by
  refine lst_is h (g := m) ?_ ?_ ?_
  · unfold gc
    simp
    omega
  · rw [Int.mul_one]
  · rw [Int.mul_one]
def mSrc (B : Fr) (es : List Ent) (R : PyData → Prop) : Prop := ∃ (p l : Addr), B = Fsrc p l ∧ es = [.raw (.ref p)] ∧ R (.bool true)
theorem src_at {p l : Addr} {R : PyData → Prop} (h : R (.bool true)) : mSrc (Fsrc p l) [.raw (.ref p)] R := ⟨p, l, rfl, rfl, h⟩
def frOf (d : PyData) : PyData := match d with
  | .tuple [.int a, .int b] => frD (lst a b)
  | d => d
theorem ok_l_made_right {f : Addr} {fd : FuncData} (F : Fun K "_law_made_right" "_law_made_right" st_l_made_right f fd) (T : Tx mg) (c_fraction_of : HasG P w K mg base "fraction_of" 1 ["p", "q"] (spG mFr)) (c_l_pick : HasG P w K mg base "_law_pick" 1 ["source", "many"] (spG mPick)) (c_l_of : HasG P w K mg base "_law_of" 2 ["source", "some"] (spG mOf)) (c_l_least : HasG P w K mg base "_law_least" 1 ["a", "b"] (spG mLeast)) (c_l_great : HasG P w K mg base "_law_great" 2 ["source", "figures"] (spG mGreat)) (ND : NoDig base) : FnG P w K mg base 3 f fd ["source"] (spG mSrc) := by
  have nd := sc_l_made_right.nd
  refine fn_dlG F sc_l_made_right (fun B es R ⟨p, l, _, e, _⟩ => by rw [e]; rfl) fun cdv A outer s H E hr gd B es R hm => ?_
  have hu := hu_of hr
  have hu64 := hr.units
  obtain ⟨a, l, rfl, rfl, hR⟩ := hm
  refine ⟨_, (pss_cons (ps_par (i := 1) (j := 2) (by rfl) nd rfl rfl (by decide) rfl rfl (pa_cons (pe_op (kMul (K := K) rfl) (c_l_great.call hr gd (pa_cons (pv 0) (pa_cons pe_int pa_nil))) (pe_op op_sub pe_int (pe_op (kMul (K := K) rfl) pe_int (c_l_pick.call hr gd (pa_cons (pv 0) (pa_cons pe_int pa_nil)))))) (pa_cons (pe_op (kAdd (K := K) rfl) pe_int (c_l_great.call hr gd (pa_cons (pv 0) (pa_cons pe_int pa_nil)))) pa_nil)) (by rfl))
      (pss_cons (ps_set (i := 3) nd rfl (by first | exact Or.inl rfl | exact Or.inr rfl) (c_l_of.call hr gd (pa_cons (pv 0) (pa_cons (pe_lst (pa_cons pe_int (pa_cons pe_int (pa_cons pe_int (pa_cons pe_int (pa_cons (pe_op op_pow pe_int pe_int) (pa_cons (pe_op (kAdd (K := K) rfl) pe_int (c_l_great.call hr gd (pa_cons (pv 0) (pa_cons pe_int pa_nil)))) pa_nil))))))) pa_nil))))
      (pss_cons (ps_set (i := 4) nd rfl (by first | exact Or.inl rfl | exact Or.inr rfl) (pe_lst (pa_cons (pe_tup (pa_cons (pe_op (kMul (K := K) rfl) (pv 1) (pv 3)) (pa_cons (pe_op (kMul (K := K) rfl) (pv 2) (pv 3)) pa_nil))) (pa_cons (pe_tup (pa_cons (pe_op op_sub pe_int (pe_op (kMul (K := K) rfl) (pv 1) (pv 3))) (pa_cons (pe_op op_sub pe_int (pe_op (kMul (K := K) rfl) (pv 2) (pv 3))) pa_nil))) (pa_cons (pe_tup (pa_cons (pe_op (kMul (K := K) rfl) (pv 1) (pv 3)) (pa_cons (pe_op op_sub pe_int (pe_op (kMul (K := K) rfl) (pv 2) (pv 3))) pa_nil))) (pa_cons (pe_tup (pa_cons pe_int (pa_cons (pe_op op_sub pe_int (pv 2)) pa_nil))) (pa_cons (pe_tup (pa_cons (pe_op (kMul (K := K) rfl) (pv 2) (pv 3)) (pa_cons (pe_op (kMul (K := K) rfl) (pv 2) (pv 3)) pa_nil))) pa_nil)))))))
      (pss_cons (ps_set (i := 5) nd rfl (by first | exact Or.inl rfl | exact Or.inr rfl) (pe_lst (pa_cons (c_l_least.call hr gd (pa_cons (pv 1) (pa_cons (pv 2) pa_nil))) (pa_cons (c_l_least.call hr gd (pa_cons (pv 1) (pa_cons (pv 2) pa_nil))) (pa_cons (c_l_least.call hr gd (pa_cons (pe_op op_sub pe_int (pv 1)) (pa_cons (pv 2) pa_nil))) (pa_cons (pe_tup (pa_cons pe_int (pa_cons pe_int pa_nil))) (pa_cons (pe_tup (pa_cons pe_int (pa_cons pe_int pa_nil))) pa_nil)))))))
      (pss_one (ps_ret (pe_cmpR (kEq (K := K) rfl hu64) (pe_callB (kRepr (K := K) rfl ND gd hu64) (by rfl) T.repr (by decide +kernel) (pa_cons (pe_lc (own := [("one", 6), ("other", 7)]) rfl nd (kList (K := K) rfl (pv 4)) (blkOk_by (N := names_l_made_right) (sc := defScope st_l_made_right) (by decide +kernel)) (fun _ _ _ _ _ => (kTg (K := K) (n := 2) rfl rfl (pgs_cons (pg_name (i := 6) nd rfl (by first | exact Or.inl rfl | exact Or.inr rfl)) (pgs_cons (pg_name (i := 7) nd rfl (by first | exact Or.inl rfl | exact Or.inr rfl)) pgs_nil)))) (fun _ _ _ _ _ => pts_nil) (fun _ _ _ _ _ => (c_fraction_of.call hr gd (pa_cons (pv 6) (pa_cons (pv 7) pa_nil))))) pa_nil)) (pe_callB (kRepr (K := K) rfl ND gd hu64) (by rfl) T.repr (by decide +kernel) (pa_cons (pv 5) pa_nil)) (nomark _)))))))), ?_⟩
  show SW (Fsrc a l) [.raw (.ref a), .non, .non, .non, .non, .non, .non, .non] _ _
  repeat' walk_at "dl"
  · exact .inr (.inl ⟨by decide, by decide⟩)
  · exact .inr (.inr ⟨by omega, by omega⟩)
  · exact ⟨by decide, by decide, by decide⟩
  · rename_i n1 h1 b1 r h2 h3 n2 h4 b2 n3 h5 b3
    intro d hd
    obtain ⟨b, rfl, hb, bb⟩ : ∃ b : Int, d = .int b ∧ 0 < b ∧ Bit 110 b := by
      have sm : ∀ x : Int, x.natAbs < 2 ^ 64 → Bit 110 x := fun x h => Bit.mono (n := 64) h (by decide)
      rcases List.mem_cons.mp hd with e | hd
      · exact ⟨1, e, by decide, sm _ (by decide)⟩
      rcases List.mem_cons.mp hd with e | hd
      · exact ⟨1, e, by decide, sm _ (by decide)⟩
      rcases List.mem_cons.mp hd with e | hd
      · exact ⟨2, e, by decide, sm _ (by decide)⟩
      rcases List.mem_cons.mp hd with e | hd
      · exact ⟨6, e, by decide, sm _ (by decide)⟩
      rcases List.mem_cons.mp hd with e | hd
      · exact ⟨_, e, by decide, sm _ (by decide)⟩
      rcases List.mem_cons.mp hd with e | hd
      · exact ⟨_, e, by omega, (one_bit h5 b3).mono (by decide)⟩
      · cases hd
    have bp : Bit 48 (n1 * (1 - 2 * r)) := by
      rw [Int.mul_comm]
      exact sgn_bit h2 h3 b1
    have bq : Bit 49 (1 + n2) := one_bit h4 b2
    have hq : 0 < 1 + n2 := by omega
    generalize n1 * (1 - 2 * r) = p at bp ⊢
    generalize 1 + n2 = q at bq hq ⊢
    have hqb := Int.mul_pos hq hb
    repeat' walk_at "dl"
    all_goals try first
      | exact bp.mulOk bb (by decide)
      | exact bq.mulOk bb (by decide)
      | exact (by omega : q ≠ 0)
      | exact bq.mono (by decide)
    refine ew_lcMap frOf (it_list ?_)
    repeat' walk_at "dl"
    have e1 : lst (p * b) (q * b) = lst p q := lst_scale hq hb
    have e2 : lst (0 - p * b) (0 - q * b) = lst p q := lst_m1 hq hb
    have e3 : lst (p * b) (0 - q * b) = lst (0 - p) q := lst_m2 hq hb
    have e4 : lst 0 (0 - q) = (0, 1) := lst_m3 hq
    have e5 : lst (q * b) (q * b) = (1, 1) := lst_m4 hqb
    have c1 : Bit 8999 (q * b) := (bq.mul bb).mono (by decide)
    have c2 : Bit 8999 (0 - q * b) := by
      rw [Int.zero_sub]
      exact c1.neg
    have c3 : Bit 8999 (0 - q) := by
      rw [Int.zero_sub]
      exact bq.neg.mono (by decide)
    refine ⟨fun d hd => ?_, ?_⟩
    · obtain ⟨a1, a2, rfl, ha0, ha9⟩ : ∃ a1 a2 : Int, d = .tuple [.int a1, .int a2] ∧ a2 ≠ 0 ∧ Bit 8999 a2 := by
        rcases List.mem_cons.mp hd with e | hd
        · exact ⟨_, _, e, by omega, c1⟩
        rcases List.mem_cons.mp hd with e | hd
        · exact ⟨_, _, e, by omega, c2⟩
        rcases List.mem_cons.mp hd with e | hd
        · exact ⟨_, _, e, by omega, c2⟩
        rcases List.mem_cons.mp hd with e | hd
        · exact ⟨_, _, e, by omega, c3⟩
        rcases List.mem_cons.mp hd with e | hd
        · exact ⟨_, _, e, by omega, c1⟩
        · cases hd
      refine gc_tup ⟨_, rfl, rfl, gcs_cons (gc_name (by decide) (gcs_cons (gc_name (by decide) (gcs_nil ?_))))⟩
      repeat' walk_at "dl"
      all_goals first
        | exact ha0
        | exact ha9
        | rfl
    · have hm : List.map frOf [PyData.tuple [PyData.int (p * b), PyData.int (q * b)], PyData.tuple [PyData.int (0 - p * b), PyData.int (0 - q * b)], PyData.tuple [PyData.int (p * b), PyData.int (0 - q * b)], PyData.tuple [PyData.int 0, PyData.int (0 - q)], PyData.tuple [PyData.int (q * b), PyData.int (q * b)]] = [frD (lst p q), frD (lst p q), frD (lst (0 - p) q), PyData.tuple [PyData.int 0, PyData.int 1], PyData.tuple [PyData.int 1, PyData.int 1]] := by
        show [frD (lst (p * b) (q * b)), frD (lst (0 - p * b) (0 - q * b)), frD (lst (p * b) (0 - q * b)), frD (lst 0 (0 - q)), frD (lst (q * b) (q * b))] = _
        rw [e1, e2, e3, e4, e5]
      rw [hm]
      have hs1 : Sh 2 27000 (frD (lst p q)) := ((lst_fq (n := 49) (by omega) (bp.mono (by decide)) bq).sh (by decide)).mono (by decide) (by decide)
      have hs2 : Sh 2 27000 (frD (lst (0 - p) q)) := ((lst_fq (n := 49) (by omega) (by
        rw [Int.zero_sub]
        exact bp.neg.mono (by decide)) bq).sh (by decide)).mono (by decide) (by decide)
      have hs3 : Sh 2 27000 (PyData.tuple [PyData.int 0, PyData.int 1]) := ((show Fq 49 (0, 1) from ⟨by decide, by show (_ : Nat) < _; decide, by show (_ : Nat) < _; decide⟩).sh (by decide)).mono (by decide) (by decide)
      have hs4 : Sh 2 27000 (PyData.tuple [PyData.int 1, PyData.int 1]) := ((show Fq 49 (1, 1) from ⟨by decide, by show (_ : Nat) < _; decide, by show (_ : Nat) < _; decide⟩).sh (by decide)).mono (by decide) (by decide)
      have hall : ∀ x, x ∈ [frD (lst p q), frD (lst p q), frD (lst (0 - p) q), PyData.tuple [PyData.int 0, PyData.int 1], PyData.tuple [PyData.int 1, PyData.int 1]] → Sh 2 27000 x := fun x hx => by
        rcases List.mem_cons.mp hx with e | hx
        · exact e ▸ hs1
        rcases List.mem_cons.mp hx with e | hx
        · exact e ▸ hs1
        rcases List.mem_cons.mp hx with e | hx
        · exact e ▸ hs2
        rcases List.mem_cons.mp hx with e | hx
        · exact e ▸ hs3
        rcases List.mem_cons.mp hx with e | hx
        · exact e ▸ hs4
        · cases hx
      repeat' walk_at "dl"
      all_goals first
        | exact hall
        | exact Eq.mp (congrArg R (congrArg PyData.bool (decide_eq_true rfl).symm)) hR

end
end K01
end
section
set_option Elab.async false
set_option linter.all false
set_option maxRecDepth 100000
set_option maxHeartbeats 0
namespace K01
open PySem L2 PySem.Spec PyProof.Rows Dl RZ
local macro_rules | `(tactic| walk_at "dl") => `(tactic| first
  | ((with_reducible refine ew_varE ?_); refine ⟨_, rfl, ?_⟩)
  | ((with_reducible refine ew_int ?_))
  | ((with_reducible refine ew_str ?_))
  | ((with_reducible refine ew_bl ?_))
  | ((with_reducible refine ew_non ?_))
  | ((with_reducible refine ew_op ?_))
  | ((with_reducible refine ew_un ?_))
  | ((with_reducible refine ew_tup ?_))
  | ((with_reducible refine ew_lst ?_))
  | ((with_reducible refine ew_call ?_))
  | ((with_reducible refine ew_isi ?_))
  | ((with_reducible refine ew_cb ?_))
  | ((with_reducible refine ea_nil ?_))
  | ((with_reducible refine ea_rawE ?_); refine ⟨_, rfl, ?_⟩)
  | ((with_reducible refine ea_cons ?_))
  | ((with_reducible refine AllD.nil ?_))
  | ((with_reducible refine AllD.cons ?_))
  | ((with_reducible refine ew_isN ?_))
  | ((with_reducible refine ew_sl ?_))
  | ((with_reducible refine eo_none ?_))
  | ((with_reducible refine eo_some ?_))
  | ((with_reducible refine sd_list ?_))
  | ((with_reducible refine sd_tup ?_))
  | ((with_reducible refine tw_test ?_))
  | ((with_reducible refine tw_B ?_))
  | ((with_reducible refine tw_not ?_))
  | ((with_reducible refine tw_and ?_))
  | ((with_reducible refine tw_or ?_))
  | ((with_reducible refine sw_seq ?_))
  | ((with_reducible refine sw_if ?_))
  | ((with_reducible refine sw_ret ?_))
  | ((with_reducible refine sw_set ?_))
  | ((with_reducible refine sw_par ?_))
  | ((with_reducible refine sw_nx ?_))
  | ((with_reducible refine od_ix ?_); refine ⟨_, _, _, rfl, rfl, rfl, ?_⟩)
  | ((with_reducible refine od_mulI ?_); refine ⟨_, _, rfl, rfl, ?_, ?_⟩)
  | ((with_reducible refine od_addI ?_); refine ⟨_, _, rfl, rfl, ?_⟩)
  | ((with_reducible refine od_addL ?_); refine ⟨_, _, rfl, rfl, ?_, ?_⟩)
  | ((with_reducible refine od_I0 ?_); refine ⟨_, _, rfl, rfl, ?_⟩)
  | ((with_reducible refine od_B0 ?_); refine ⟨_, _, rfl, rfl, ?_⟩)
  | ((with_reducible refine od_I ?_); refine ⟨_, _, rfl, rfl, ?_, ?_⟩)
  | ((with_reducible refine ud_I ?_); refine ⟨_, rfl, ?_⟩)
  | ((with_reducible refine od_eqI' ?_))
  | ((with_reducible refine od_neI' ?_))
  | ((with_reducible refine od_eqS' ?_))
  | ((with_reducible refine cd_gcd ?_); refine ⟨_, _, rfl, ?_⟩)
  | ((with_reducible refine qAbs ?_); refine ⟨_, rfl, ?_⟩)
  | ((with_reducible refine qInt ?_); refine ⟨_, rfl, ?_⟩)
  | ((with_reducible refine qLen ?_); refine ⟨_, _, rfl, rfl, ?_⟩)
  | ((with_reducible refine qTup ?_); refine ⟨_, _, rfl, rfl, ?_⟩)
  | ((with_reducible refine qLst ?_); refine ⟨_, _, rfl, rfl, ?_⟩)
  | ((with_reducible refine qIntB ?_); refine ⟨_, rfl, ?_⟩)
  | ((with_reducible refine qMax2 ?_); refine ⟨_, _, rfl, ?_⟩)
  | ((with_reducible refine drawn_at fun x hx => ?_))
  | ((with_reducible refine pick_atE ?_); refine ⟨by decide, fun r h0 h1 => ?_⟩)
  | ((with_reducible refine great_atE ?_); refine ⟨_, rfl, by decide, by decide, fun n h0 h1 => ?_⟩)
  | ((with_reducible refine of_atE ?_); refine ⟨by simp, Nat.le_of_ble_eq_true rfl, ?_⟩)
  | ((with_reducible refine bin_at ?_ ?_ ?_))
  | ((with_reducible refine over_at ?_ ?_ ?_))
  | ((with_reducible refine less_at ?_ ?_ ?_))
  | ((with_reducible refine floor_at ?_ ?_))
  | ((with_reducible refine ceil_at ?_ ?_))
  | ((with_reducible refine least_at ?_ ?_ ?_))
  | ((with_reducible refine fr_at ?_ ?_ ?_))
  | ((with_reducible refine rp_atE ?_); refine ⟨?_, Nat.le_of_ble_eq_true rfl, ?_⟩)
  | ((with_reducible refine ex_b ?_))
  | ((with_reducible refine ex_i ?_))
  | ((with_reducible refine ex_t ?_))
  | ((with_reducible refine ex_l ?_))
  | ((with_reducible refine ex_2 ?_))
  | ((with_reducible refine len_and ?_ ?_); exact Nat.le_of_ble_eq_true rfl)
  | ((with_reducible refine own_and ?_ ?_); rfl))
section
variable {P : Program} {w : World} {K : PySem.W.Frag} {mg : Str → Option Value} {base : Heap}
def IsF (d : PyData) : Prop := ∃ x : Int × Int, Fq 160 x ∧ d = frD x
theorem isF_list : ∀ (ds : List PyData), (∀ d, d ∈ ds → IsF d) → ∃ xs : List (Int × Int), ds = xs.map frD ∧ ∀ x, x ∈ xs → Fq 160 x
  | [], _ => ⟨[], rfl, fun _ h => by cases h⟩
  | d :: ds, h => by
    obtain ⟨xs, e, hx⟩ := isF_list ds fun y hy => h y (List.mem_cons_of_mem _ hy)
    obtain ⟨x, fx, e2⟩ := h d List.mem_cons_self
    refine ⟨x :: xs, by rw [e, e2]; rfl, fun y hy => ?_⟩
    rcases List.mem_cons.mp hy with q | q
    · exact q ▸ fx
    · exact hx y q
def optF (h : Bool) (xs : List (Int × Int)) : PyData := match xs with
  | [] => .none
  | y :: ys => frD (extF h (y :: ys))
theorem low_self (y : Int × Int) : lowF y y = y := by
  unfold lowF
  split <;> rfl
theorem hig_self (y : Int × Int) : higF y y = y := by
  unfold higF
  split <;> rfl
theorem ext_fq (h : Bool) (xs : List (Int × Int)) (hne : xs ≠ []) (hx : ∀ x, x ∈ xs → Fq 160 x) : Fq 160 (extF h xs) := by
  have gen : ∀ (l : List (Int × Int)) (a : Int × Int), Fq 160 a → (∀ x, x ∈ l → Fq 160 x) → Fq 160 (l.foldl (if h = true then higF else lowF) a) := by
    intro l
    induction l with
    | nil => intro a ha _; exact ha
    | cons c l ih =>
      intro a ha hl
      refine ih _ ?_ fun x hx => hl x (List.mem_cons_of_mem _ hx)
      cases h with
      | true =>
        show Fq 160 (higF a c)
        unfold higF
        split
        · exact hl c List.mem_cons_self
        · exact ha
      | false =>
        show Fq 160 (lowF a c)
        unfold lowF
        split
        · exact hl c List.mem_cons_self
        · exact ha
  cases xs with
  | nil => exact absurd rfl hne
  | cons y ys => exact gen _ _ (hx y List.mem_cons_self) hx
theorem ext_app (h : Bool) (y : Int × Int) (ys : List (Int × Int)) (x : Int × Int) : extF h ((y :: ys) ++ [x]) = (if h = true then higF else lowF) (extF h (y :: ys)) x := by
  unfold extF
  rw [List.foldl_append]
  rfl
theorem ext_one (h : Bool) (x : Int × Int) : extF h [x] = x := by
  cases h with
  | true => exact hig_self x
  | false => exact low_self x
theorem ew_low {B : Fr} {env : List Ent} {R : PyData → Prop} {l : List (Int × Int)} {x : Int × Int} (i7 : env[7]? = some (.dat (frD x))) (i5 : env[5]? = some (.dat (optF false l))) (hx : Fq 160 x) (hl : ∀ y, y ∈ l → Fq 160 y) (q : R (optF false (l ++ [x]))) : EW B env (tIf (tOr (tB (tIsN (tVar 5))) (tTest (tOp (rI0 fun i j => V.bl (decide (i < j))) (tOp (rMulA K) (tOp (rIx K) (tVar 7) (tC (V.int 0))) (tOp (rIx K) (tVar 5) (tC (V.int 1)))) (tOp (rMulA K) (tOp (rIx K) (tVar 5) (tC (V.int 0))) (tOp (rIx K) (tVar 7) (tC (V.int 1))))))) (tVar 7) (tVar 5)) R := by
  cases l with
  | nil =>
    refine ew_if (tw_or (tw_B (ew_isN (ew_var i5 ⟨true, rfl, ?_⟩))))
    refine ew_var i7 ?_
    have e : optF false ([] ++ [x]) = frD x := congrArg frD (ext_one false x)
    rw [← e]
    exact q
  | cons y ys =>
    have hv := ext_fq false (y :: ys) (by simp) hl
    have e : optF false ((y :: ys) ++ [x]) = frD (lowF (extF false (y :: ys)) x) := congrArg frD (ext_app false y ys x)
    rw [e] at q
    have i5' : env[5]? = some (.dat (frD (extF false (y :: ys)))) := i5
    generalize extF false (y :: ys) = v at hv q i5'
    refine ew_if (tw_or (tw_B (ew_isN (ew_var i5' ⟨false, rfl, ?_⟩))))
    refine tw_test (ew_op (ew_op (ew_op (ew_var i7 (ew_int (od_ix ⟨_, _, _, rfl, rfl, rfl, ?_⟩))))))
    refine ew_op (ew_var i5' (ew_int (od_ix ⟨_, _, _, rfl, rfl, rfl, ?_⟩)))
    refine od_mulI ⟨_, _, rfl, rfl, hx.b1.mulOk hv.b2 (by decide), ?_⟩
    refine ew_op (ew_op (ew_var i5' (ew_int (od_ix ⟨_, _, _, rfl, rfl, rfl, ?_⟩))))
    refine ew_op (ew_var i7 (ew_int (od_ix ⟨_, _, _, rfl, rfl, rfl, ?_⟩)))
    refine od_mulI ⟨_, _, rfl, rfl, hv.b1.mulOk hx.b2 (by decide), ?_⟩
    refine od_B0 ⟨_, _, rfl, rfl, ?_⟩
    refine ⟨_, rfl, ?_⟩
    by_cases hc : lessF x v = true
    · rw [lowF_t hc] at q
      rw [if_pos (show decide (x.1 * v.2 < v.1 * x.2) = true from hc)]
      exact ew_var i7 q
    · rw [lowF_f hc] at q
      rw [if_neg (show ¬ decide (x.1 * v.2 < v.1 * x.2) = true from hc)]
      exact ew_var i5' q
theorem ew_hig {B : Fr} {env : List Ent} {R : PyData → Prop} {l : List (Int × Int)} {x : Int × Int} (i7 : env[7]? = some (.dat (frD x))) (i6 : env[6]? = some (.dat (optF true l))) (hx : Fq 160 x) (hl : ∀ y, y ∈ l → Fq 160 y) (q : R (optF true (l ++ [x]))) : EW B env (tIf (tOr (tB (tIsN (tVar 6))) (tTest (tOp (rI0 fun i j => V.bl (decide (i < j))) (tOp (rMulA K) (tOp (rIx K) (tVar 6) (tC (V.int 0))) (tOp (rIx K) (tVar 7) (tC (V.int 1)))) (tOp (rMulA K) (tOp (rIx K) (tVar 7) (tC (V.int 0))) (tOp (rIx K) (tVar 6) (tC (V.int 1))))))) (tVar 7) (tVar 6)) R := by
  cases l with
  | nil =>
    refine ew_if (tw_or (tw_B (ew_isN (ew_var i6 ⟨true, rfl, ?_⟩))))
    refine ew_var i7 ?_
    have e : optF true ([] ++ [x]) = frD x := congrArg frD (ext_one true x)
    rw [← e]
    exact q
  | cons y ys =>
    have hv := ext_fq true (y :: ys) (by simp) hl
    have e : optF true ((y :: ys) ++ [x]) = frD (higF (extF true (y :: ys)) x) := congrArg frD (ext_app true y ys x)
    rw [e] at q
    have i6' : env[6]? = some (.dat (frD (extF true (y :: ys)))) := i6
    generalize extF true (y :: ys) = v at hv q i6'
    refine ew_if (tw_or (tw_B (ew_isN (ew_var i6' ⟨false, rfl, ?_⟩))))
    refine tw_test (ew_op (ew_op (ew_op (ew_var i6' (ew_int (od_ix ⟨_, _, _, rfl, rfl, rfl, ?_⟩))))))
    refine ew_op (ew_var i7 (ew_int (od_ix ⟨_, _, _, rfl, rfl, rfl, ?_⟩)))
    refine od_mulI ⟨_, _, rfl, rfl, hv.b1.mulOk hx.b2 (by decide), ?_⟩
    refine ew_op (ew_op (ew_var i7 (ew_int (od_ix ⟨_, _, _, rfl, rfl, rfl, ?_⟩))))
    refine ew_op (ew_var i6' (ew_int (od_ix ⟨_, _, _, rfl, rfl, rfl, ?_⟩)))
    refine od_mulI ⟨_, _, rfl, rfl, hx.b1.mulOk hv.b2 (by decide), ?_⟩
    refine od_B0 ⟨_, _, rfl, rfl, ?_⟩
    refine ⟨_, rfl, ?_⟩
    by_cases hc : lessF v x = true
    · rw [higF_t hc] at q
      rw [if_pos (show decide (v.1 * x.2 < x.1 * v.2) = true from hc)]
      exact ew_var i7 q
    · rw [higF_f hc] at q
      rw [if_neg (show ¬ decide (v.1 * x.2 < x.1 * v.2) = true from hc)]
      exact ew_var i6' q
theorem rt_at {Q : PyData → Prop} {n : Nat} {x : Int × Int} (h : Fq n x) (l : n ≤ 12000) (q : Q (.str (PyData.shown (frD x)))) : CD (rReprB K) [frD x] Q := by
  have e := h.sh l
  exact cd_repr ⟨_, rfl, ⟨_, .inr rfl⟩, e.shw, Nat.le_trans e.dep (by decide), Nat.le_trans e.len (by decide), q⟩
theorem ne_same {a b : Str} {p q : Prop} (h : a = b) (r : q) : OD (rNeA K) (.str a) (.str b) (fun d => ∃ c, d = .bool c ∧ if c = true then p else q) := od_neS' ⟨_, rfl, neF h r⟩
theorem lay_frs : ∀ xs : List (Int × Int), PyData.canLayAll0 (xs.map frD) = true
  | [] => by rw [List.map_nil, PyData.canLayAll0]
  | x :: xs => by
    rw [List.map_cons, PyData.canLayAll0, lay_frs xs]
    simp [frD, PyData.canLay0, PyData.canLayAll0]
theorem shp_frs {xs : List (Int × Int)} (h : (PyData.list (xs.map frD)).depth ≤ 64) : SeqAt.shaped (.list (xs.map frD)) = true := by
  unfold SeqAt.shaped
  rw [PyData.canLay0, lay_frs xs, decide_eq_true h]
  rfl
theorem cut_mem {xs : List PyData} {a b : Option Int} {d : PyData} (h : d ∈ Dl.cutD xs a b) : d ∈ xs := List.mem_of_mem_drop (List.mem_of_mem_take h)
theorem cut_len {xs : List PyData} {k : Int} (h0 : 0 ≤ k) (h1 : k < max 1 3) : (Dl.cutD xs none (some k)).length ≤ 2 := by
  unfold Dl.cutD
  rw [List.length_take]
  have : k = 0 ∨ k = 1 ∨ k = 2 := by omega
  rcases this with e | e | e
  all_goals
    subst e
    show min (HT.sIx xs.length xs.length _ - HT.sIx xs.length 0 none) _ ≤ 2
    refine Nat.le_trans (Nat.min_le_left _ _) ?_
    simp [HT.sIx]
    try omega
theorem ok_l_list_right {f : Addr} {fd : FuncData} (F : Fun K "_law_list_right" "_law_list_right" st_l_list_right f fd) (T : Tx mg) (c_total : HasG P w K mg base "total" 3 ["fractions"] (spG mTotal)) (c_lowest : HasG P w K mg base "lowest" 2 ["fractions"] (spG (mExt false))) (c_highest : HasG P w K mg base "highest" 2 ["fractions"] (spG (mExt true))) (c_l_pick : HasG P w K mg base "_law_pick" 1 ["source", "many"] (spG mPick)) (c_l_of : HasG P w K mg base "_law_of" 2 ["source", "some"] (spG mOf)) (c_l_mixed : HasG P w K mg base "_law_mixed" 2 ["source", "things"] (spG mMixed)) (c_l_plus : HasG P w K mg base "_law_plus" 2 ["x", "y"] (spG (mBin pl))) (c_l_drawn : HasG P w K mg base "_law_drawn" 3 ["source"] (spG mDrawn)) (ND : NoDig base) : FnG P w K mg base 4 f fd ["source"] (spG mSrc) := by
  have nd := sc_l_list_right.nd
  refine fn_dlG F sc_l_list_right (fun B es R ⟨p, l, _, e, _⟩ => by rw [e]; rfl) fun cdv A outer s H E hr gd B es R hm => ?_
  have hu := hu_of hr
  have hu64 := hr.units
  obtain ⟨a, l, rfl, rfl, hR⟩ := hm
  refine ⟨_, (pss_cons (ps_setLc (i := 1) rfl nd rfl rfl (sw_true rfl rfl rfl (by decide +kernel)) (own := [("lap", 2)]) (pi_range1 (by rfl) T.range (pa_cons (c_l_of.call hr gd (pa_cons (pv 0) (pa_cons (pe_lst (pa_cons pe_int (pa_cons pe_int (pa_cons pe_int (pa_cons pe_int (pa_cons pe_int (pa_cons pe_int pa_nil))))))) pa_nil))) pa_nil)) (blkOk_by (N := names_l_list_right) (sc := defScope st_l_list_right) (by decide +kernel)) (fun _ _ _ _ _ => (pg_name (i := 2) nd rfl (by first | exact Or.inl rfl | exact Or.inr rfl))) (fun _ _ _ _ _ => pts_nil) (fun _ _ _ _ _ => (c_l_drawn.call hr gd (pa_cons (pv 0) pa_nil))))
      (pss_cons (ps_set (i := 1) nd rfl (by first | exact Or.inl rfl | exact Or.inr rfl) (c_l_mixed.call hr gd (pa_cons (pv 0) (pa_cons (pe_op (kAdd (K := K) rfl) (pv 1) (pe_slice (kSl (K := K) rfl) (pv 1) po_none (po_some (c_l_pick.call hr gd (pa_cons (pv 0) (pa_cons pe_int pa_nil)))))) pa_nil))))
      (pss_cons (ps_asg (pe_tup (pa_cons (pe_callB (kRepr (K := K) rfl ND gd hu64) (by rfl) T.repr (by decide +kernel) (pa_cons (pv 1) pa_nil)) (pa_cons (pe_tup (pa_cons pe_int (pa_cons pe_int pa_nil))) (pa_cons pe_non (pa_cons pe_non pa_nil))))) (kTg (K := K) (n := 4) rfl rfl (pgs_cons (pg_name (i := 3) nd rfl (by first | exact Or.inl rfl | exact Or.inr rfl)) (pgs_cons (pg_name (i := 4) nd rfl (by first | exact Or.inl rfl | exact Or.inr rfl)) (pgs_cons (pg_name (i := 5) nd rfl (by first | exact Or.inl rfl | exact Or.inr rfl)) (pgs_cons (pg_name (i := 6) nd rfl (by first | exact Or.inl rfl | exact Or.inr rfl)) pgs_nil))))))
      (pss_cons (ps_for PassesOwn.never rfl (kList (K := K) rfl (pv 1)) (pg_name (i := 7) nd rfl (by first | exact Or.inl rfl | exact Or.inr rfl)) (pss_cons (ps_set (i := 4) nd rfl (by first | exact Or.inl rfl | exact Or.inr rfl) (c_l_plus.call hr gd (pa_cons (pv 4) (pa_cons (pv 7) pa_nil))))
      (pss_cons (ps_set (i := 5) nd rfl (by first | exact Or.inl rfl | exact Or.inr rfl) (pe_ifExp (PW.pt (pw_or (pt_cmp (pc_isN (pv 5)) rfl) (pw_or1 (pt_cmpR op_lt (pe_op (kMul (K := K) rfl) (pe_ix (kIx (K := K) rfl) (pv 7) pe_int (fun _ _ => rfl)) (pe_ix (kIx (K := K) rfl) (pv 5) pe_int (fun _ _ => rfl))) (pe_op (kMul (K := K) rfl) (pe_ix (kIx (K := K) rfl) (pv 5) pe_int (fun _ _ => rfl)) (pe_ix (kIx (K := K) rfl) (pv 7) pe_int (fun _ _ => rfl))) (nomark _))))) (pv 7) (pv 5)))
      (pss_one (ps_set (i := 6) nd rfl (by first | exact Or.inl rfl | exact Or.inr rfl) (pe_ifExp (PW.pt (pw_or (pt_cmp (pc_isN (pv 6)) rfl) (pw_or1 (pt_cmpR op_lt (pe_op (kMul (K := K) rfl) (pe_ix (kIx (K := K) rfl) (pv 6) pe_int (fun _ _ => rfl)) (pe_ix (kIx (K := K) rfl) (pv 7) pe_int (fun _ _ => rfl))) (pe_op (kMul (K := K) rfl) (pe_ix (kIx (K := K) rfl) (pv 7) pe_int (fun _ _ => rfl)) (pe_ix (kIx (K := K) rfl) (pv 6) pe_int (fun _ _ => rfl))) (nomark _))))) (pv 7) (pv 6)))))))
      (pss_cons (ps_for PassesOwn.never rfl (kTuple (K := K) rfl (pe_tup (pa_cons (pv 1) (pa_cons (pe_callTy (kTup (K := K) rfl) (by rfl) T.tuple (by decide +kernel) (pa_cons (pv 1) pa_nil)) pa_nil)))) (pg_name (i := 8) nd rfl (by first | exact Or.inl rfl | exact Or.inr rfl)) (pss_cons (ps_if (pt_cmpR (kNe (K := K) rfl hu64) (pe_callB (kRepr (K := K) rfl ND gd hu64) (by rfl) T.repr (by decide +kernel) (pa_cons (c_total.call hr gd (pa_cons (pv 8) pa_nil)) pa_nil)) (pe_callB (kRepr (K := K) rfl ND gd hu64) (by rfl) T.repr (by decide +kernel) (pa_cons (pv 4) pa_nil)) (nomark _)) (pss_one (ps_ret pe_bl)) pss_nil)
      (pss_one (ps_if (PW.pt (pw_and (pt_cmpR (kNe (K := K) rfl hu64) (pv 1) (pe_lst pa_nil) (nomark _)) (pw_and1 (pt_cmpR (kNe (K := K) rfl hu64) (pe_callB (kRepr (K := K) rfl ND gd hu64) (by rfl) T.repr (by decide +kernel) (pa_cons (pe_lst (pa_cons (c_lowest.call hr gd (pa_cons (pv 8) pa_nil)) (pa_cons (c_highest.call hr gd (pa_cons (pv 8) pa_nil)) pa_nil))) pa_nil)) (pe_callB (kRepr (K := K) rfl ND gd hu64) (by rfl) T.repr (by decide +kernel) (pa_cons (pe_lst (pa_cons (pv 5) (pa_cons (pv 6) pa_nil))) pa_nil)) (nomark _))))) (pss_one (ps_ret pe_bl)) pss_nil))))
      (pss_one (ps_ret (pe_cmpR (kEq (K := K) rfl hu64) (pe_callB (kRepr (K := K) rfl ND gd hu64) (by rfl) T.repr (by decide +kernel) (pa_cons (pv 1) pa_nil)) (pv 3) (nomark _))))))))), ?_⟩
  show SW (Fsrc a l) [.raw (.ref a), .non, .non, .non, .non, .non, .non, .non, .non] _ _
  repeat' walk_at "dl"
  refine ew_lcAll IsF (it_range1 ?_)
  repeat' walk_at "dl"
  intro d hd
  obtain ⟨n, rfl, n0, n1⟩ : ∃ n : Int, d = .int n ∧ 0 ≤ n ∧ n ≤ 20 := by
    rcases List.mem_cons.mp hd with e | hd
    · exact ⟨_, e, by decide, by decide⟩
    rcases List.mem_cons.mp hd with e | hd
    · exact ⟨_, e, by decide, by decide⟩
    rcases List.mem_cons.mp hd with e | hd
    · exact ⟨_, e, by decide, by decide⟩
    rcases List.mem_cons.mp hd with e | hd
    · exact ⟨_, e, by decide, by decide⟩
    rcases List.mem_cons.mp hd with e | hd
    · exact ⟨_, e, by decide, by decide⟩
    rcases List.mem_cons.mp hd with e | hd
    · exact ⟨_, e, by decide, by decide⟩
    · cases hd
  repeat' walk_at "dl"
  refine ⟨n, rfl, by omega, by omega, ?_, fun d hd => ?_, fun acc hl hA => ?_⟩
  · simp [rangeD]
    omega
  · refine gc_name (by decide) ?_
    repeat' walk_at "dl"
    rename_i x hx
    exact ⟨x, hx, rfl⟩
  have hl2 : acc.length ≤ 20 := by
    rw [hl]
    simp [rangeD]
    omega
  show SW (Fsrc a l) [.raw (.ref a), .dat (.list acc), .non, .non, .non, .non, .non, .non, .non] _ _
  repeat' walk_at "dl"
  all_goals rename_i k k0 k1
  all_goals have cl := cut_len (xs := acc) k0 k1
  · omega
  refine mixed_at (by rw [List.length_append]; omega) fun es' hp => ?_
  have hlen : es'.length ≤ 24 := by
    rw [hp.length_eq, List.length_append]
    omega
  obtain ⟨xs, rfl, hx⟩ := isF_list es' fun d hd => by
    rcases List.mem_append.mp (hp.mem_iff.mp hd) with q | q
    · exact hA d q
    · exact hA d (cut_mem q)
  rw [List.length_map] at hlen
  clear hp hA
  show SW (Fsrc a l) [.raw (.ref a), .dat (.list (xs.map frD)), .non, .non, .non, .non, .non, .non, .non] _ _
  have hsh : ∀ x, x ∈ xs.map frD → Sh 2 27000 x := fun d hd => by
    obtain ⟨x, hm, rfl⟩ := List.mem_map.mp hd
    exact (hx x hm).sh (by decide)
  refine sw_seq (sw_asg (ew_tup ?_))
  repeat' walk_at "dl"
  refine rp_at hsh (by rw [List.length_map]; omega) ?_
  repeat' walk_at "dl"
  refine gw_tup ⟨_, rfl, rfl, gws_cons (gw_name (gws_cons (gw_name (gws_cons (gw_name (gws_cons (gw_name (gws_nil ?_))))))))⟩
  show SW (Fsrc a l) [.raw (.ref a), .dat (.list (xs.map frD)), .non, .dat (.str (PyData.shown (.list (xs.map frD)))), .dat (.tuple [.int 0, .int 1]), .dat .none, .dat .none, .non, .non] _ _
  refine sw_seq (sw_for (it_list (ew_var rfl (ex_l ?_))))
  refine ⟨fun i e => ∃ z, e = [.raw (.ref a), .dat (.list (xs.map frD)), .non, .dat (.str (PyData.shown (.list (xs.map frD)))), .dat (frD (totF (xs.take i))), .dat (optF false (xs.take i)), .dat (optF true (xs.take i)), z, .non], ⟨.non, rfl⟩, ?_, ?_⟩
  · rintro i d e hd ⟨z, rfl⟩
    obtain ⟨x, hxi, rfl, ht, hm⟩ := take_map hd
    have hmem : ∀ y, y ∈ xs.take i → Fq 160 y := fun y hy => hx y (List.mem_of_mem_take hy)
    have f1 : Fq 4000 (totF (xs.take i)) := by
      refine (tot_fq (xs.take i) (0, 1) 1 fq01 hmem).mono ?_
      have : (xs.take i).length ≤ xs.length := by rw [List.length_take]; omega
      omega
    refine gw_name ?_
    refine sw_seq (sw_set (ew_call ?_))
    repeat' walk_at "dl"
    · exact f1
    · exact (hx x hm).mono (by decide)
    refine ew_low (x := x) (l := xs.take i) rfl rfl (hx x hm) hmem ?_
    refine sw_set (ew_hig (x := x) (l := xs.take i) rfl rfl (hx x hm) hmem ?_)
    rw [← ht]
    have e2 : pl (totF (xs.take i)) x = totF (xs.take (i + 1)) := by
      rw [ht]
      unfold totF
      rw [List.foldl_append]
      rfl
    refine ⟨.dat (frD x), ?_⟩
    rw [← e2]
    rfl
  rintro e ⟨z, rfl⟩
  rw [List.length_map, List.take_length]
  refine sw_seq (sw_for (it_tup ?_))
  repeat' walk_at "dl"
  refine ⟨fun i e => ∃ z2, e = [.raw (.ref a), .dat (.list (xs.map frD)), .non, .dat (.str (PyData.shown (.list (xs.map frD)))), .dat (frD (totF xs)), .dat (optF false xs), .dat (optF true xs), z, z2], ⟨.non, rfl⟩, ?_, ?_⟩
  · rintro i d e hd ⟨z2, rfl⟩
    obtain ⟨bb, rfl⟩ : ∃ bb, d = sq bb xs := by
      match i with
      | 0 => cases hd; exact ⟨false, rfl⟩
      | 1 => cases hd; exact ⟨true, rfl⟩
      | i + 2 => cases hd
    refine gw_name ?_
    repeat' walk_at "dl"
    refine ⟨bb, xs, rfl, hx, by omega, ?_⟩
    have f1 : Fq 4000 (totF xs) := (tot_fq xs (0, 1) 1 fq01 hx).mono (by omega)
    repeat' walk_at "dl"
    refine rt_at f1 (by decide) ?_
    repeat' walk_at "dl"
    refine rt_at f1 (by decide) ?_
    repeat' walk_at "dl"
    refine ne_same rfl ?_
    repeat' walk_at "dl"
    refine od_neD' ⟨shp_frs (Nat.le_trans (Sh.list hsh).dep (by decide)), by decide +kernel, ?_⟩
    cases xs with
    | nil =>
      refine ⟨false, rfl, ?_⟩
      refine iteF ?_
      refine iteF ?_
      repeat' walk_at "dl"
      exact ⟨_, rfl⟩
    | cons y ys =>
      have hlo := ext_fq false (y :: ys) (by simp) hx
      have hhi := ext_fq true (y :: ys) (by simp) hx
      refine ⟨true, rfl, ?_⟩
      have hall : ∀ x, x ∈ [frD (extF false (y :: ys)), frD (extF true (y :: ys))] → Sh 2 27000 x := fun d hd => by
        rcases List.mem_cons.mp hd with e | hd
        · exact e ▸ hlo.sh (by decide)
        rcases List.mem_cons.mp hd with e | hd
        · exact e ▸ hhi.sh (by decide)
        · cases hd
      have l24 : (y :: ys).length ≤ 24 := by omega
      rw [show optF false (y :: ys) = frD (extF false (y :: ys)) from rfl, show optF true (y :: ys) = frD (extF true (y :: ys)) from rfl]
      refine iteT ?_
      repeat' walk_at "dl"
      refine ⟨bb, y :: ys, rfl, hx, l24, by simp, ?_⟩
      repeat' walk_at "dl"
      refine ⟨bb, y :: ys, rfl, hx, l24, by simp, ?_⟩
      repeat' walk_at "dl"
      · exact hall
      · exact hall
      refine ne_same rfl ?_
      repeat' walk_at "dl"
      exact ⟨_, rfl⟩
  · rintro e ⟨z2, rfl⟩
    repeat' walk_at "dl"
    refine rp_at hsh (by rw [List.length_map]; omega) ?_
    repeat' walk_at "dl"
    exact Eq.mp (congrArg R (congrArg PyData.bool (decide_eq_true rfl).symm)) hR

end
end K01
end
section
set_option Elab.async false
set_option linter.all false
set_option maxRecDepth 100000
set_option maxHeartbeats 0
namespace K01
open PySem L2 PySem.Spec PyProof.Rows Dl RZ
section
variable {P : Program} {w : World} {K : PySem.W.Frag} {mg : Str → Option Value} {base : Heap}
def spLaw (K : PySem.W.Frag) : Sp := fun vs H Q _ => ∃ (a : Addr) (ns : List Int), vs = [.ref a] ∧ SqL K H a (ns.map V.int) ∧ ns.length ≤ 63 ∧ ∀ H', Q (.bl true) H'
theorem pair_at {v : V} {x1 x2 y1 y2 : Int} {B : Fr} {R : PyData → Prop} (hx : Fq 160 (x1, x2)) (hy : Fq 160 (y1, y2)) (r : R (.bool true)) : mPair B [.raw v, .dat (.tuple [.int x1, .int x2]), .dat (.tuple [.int y1, .int y2])] R := ⟨v, (x1, x2), (y1, y2), rfl, hx, hy, r⟩
theorem msrc_at {p l : Addr} {R : PyData → Prop} (r : R (.bool true)) : mSrc (Fsrc p l) [.raw (.ref p)] R := ⟨p, l, rfl, rfl, r⟩
theorem tot_at {b : Bool} {B : Fr} {R : PyData → Prop} (r : R (frD (0, 1))) : mTotal B [.dat (sq b [])] R := ⟨b, [], rfl, (fun _ h => by cases h), (by decide), r⟩
theorem tot_atL {B : Fr} {R : PyData → Prop} (r : R (frD (0, 1))) : mTotal B [.dat (.list [])] R := tot_at (b := false) r
theorem tot_atT {B : Fr} {R : PyData → Prop} (r : R (frD (0, 1))) : mTotal B [.dat (.tuple [])] R := tot_at (b := true) r
/-- from the source on, by data -/
theorem law_in {p l a : Addr} {H : Hp} {Q : VK} {ts : TS} {n : Nat} (j : Src p l H) (hQ : ∀ H', Q (.bl true) H')
    (hw : SW (Fsrc p l) ([.non, .raw (.ref p)] ++ List.replicate (n - 2) .non) ts ⟨fun _ => False, fun d => d = .bool true, fun _ => False, fun _ => False⟩) : ts { nx := fun _ H' => Q .non H', rt := Q } ([some (.ref a), some (.ref p)] ++ List.replicate (n - 2) none) H := by
  refine hw (fun _ => none) H (fun _ => False) (fun _ => none) _ H _ ⟨⟨j, fun _ _ e => (nomatch e)⟩, ⟨trivial, rfl, ?_⟩, ?_, fun _ _ e => (nomatch e), fun _ _ _ _ _ e => e, fun _ e => absurd rfl e⟩ ⟨fun _ _ _ _ z _ => z.elim, fun d v H2 e _ k => ?_, fun _ _ _ _ z => z.elim, fun _ _ _ _ z => z.elim⟩
  · induction n - 2 with
    | zero => trivial
    | succ m ih => exact ⟨trivial, ih⟩
  · have e : ∀ m, owned (List.replicate m Ent.non) = [] := fun m => by
      induction m with
      | zero => rfl
      | succ m ih => exact ih
    show (owned (List.replicate (n - 2) Ent.non)).Nodup
    rw [e]
    exact List.nodup_nil
  · subst e
    cases k
    exact hQ H2
theorem law_start {a : Addr} {H : Hp} {Q : VK} {ts : TS} {n : Nat} {ns : List Int} (hS : SqL K H a (ns.map V.int)) (hn : ns.length ≤ 63) (hQ : ∀ H', Q (.bl true) H')
    (hw : ∀ p l, SW (Fsrc p l) ([.non, .raw (.ref p)] ++ List.replicate n .non) ts ⟨fun _ => False, fun d => d = .bool true, fun _ => False, fun _ => False⟩) :
    tSeq (tAsg (tCall (spSource K) [] E0 (tCons (tVar 0) tNil)) (gName 1)) ts { nx := fun _ H' => Q .non H', rt := Q } ([some (.ref a), none] ++ List.replicate n none) H :=
  ⟨_, rfl, a, ns, rfl, hS, hn, fun p l H' _ _ _ sj => law_in (a := a) (n := n + 2) sj hQ (hw p l)⟩
end
local macro_rules | `(tactic| walk_at "dl") => `(tactic| first
  | ((with_reducible refine ew_varE ?_); refine ⟨_, rfl, ?_⟩)
  | ((with_reducible refine ew_int ?_))
  | ((with_reducible refine ew_str ?_))
  | ((with_reducible refine ew_bl ?_))
  | ((with_reducible refine ew_non ?_))
  | ((with_reducible refine ew_op ?_))
  | ((with_reducible refine ew_un ?_))
  | ((with_reducible refine ew_tup ?_))
  | ((with_reducible refine ew_lst ?_))
  | ((with_reducible refine ew_call ?_))
  | ((with_reducible refine ew_isi ?_))
  | ((with_reducible refine ew_cb ?_))
  | ((with_reducible refine ea_nil ?_))
  | ((with_reducible refine ea_rawE ?_); refine ⟨_, rfl, ?_⟩)
  | ((with_reducible refine ea_cons ?_))
  | ((with_reducible refine AllD.nil ?_))
  | ((with_reducible refine AllD.cons ?_))
  | ((with_reducible refine ew_isN ?_))
  | ((with_reducible refine ew_sl ?_))
  | ((with_reducible refine eo_none ?_))
  | ((with_reducible refine eo_some ?_))
  | ((with_reducible refine sd_list ?_))
  | ((with_reducible refine sd_tup ?_))
  | ((with_reducible refine tw_test ?_))
  | ((with_reducible refine tw_B ?_))
  | ((with_reducible refine tw_not ?_))
  | ((with_reducible refine tw_and ?_))
  | ((with_reducible refine tw_or ?_))
  | ((with_reducible refine sw_seq ?_))
  | ((with_reducible refine sw_if ?_))
  | ((with_reducible refine sw_ret ?_))
  | ((with_reducible refine sw_set ?_))
  | ((with_reducible refine sw_par ?_))
  | ((with_reducible refine sw_nx ?_))
  | ((with_reducible refine od_ix ?_); refine ⟨_, _, _, rfl, rfl, rfl, ?_⟩)
  | ((with_reducible refine od_mulI ?_); refine ⟨_, _, rfl, rfl, ?_, ?_⟩)
  | ((with_reducible refine od_addI ?_); refine ⟨_, _, rfl, rfl, ?_⟩)
  | ((with_reducible refine od_addL ?_); refine ⟨_, _, rfl, rfl, ?_, ?_⟩)
  | ((with_reducible refine od_I0 ?_); refine ⟨_, _, rfl, rfl, ?_⟩)
  | ((with_reducible refine od_B0 ?_); refine ⟨_, _, rfl, rfl, ?_⟩)
  | ((with_reducible refine od_I ?_); refine ⟨_, _, rfl, rfl, ?_, ?_⟩)
  | ((with_reducible refine ud_I ?_); refine ⟨_, rfl, ?_⟩)
  | ((with_reducible refine od_eqI' ?_))
  | ((with_reducible refine od_neI' ?_))
  | ((with_reducible refine od_eqS' ?_))
  | ((with_reducible refine cd_gcd ?_); refine ⟨_, _, rfl, ?_⟩)
  | ((with_reducible refine qAbs ?_); refine ⟨_, rfl, ?_⟩)
  | ((with_reducible refine qInt ?_); refine ⟨_, rfl, ?_⟩)
  | ((with_reducible refine qLen ?_); refine ⟨_, _, rfl, rfl, ?_⟩)
  | ((with_reducible refine qTup ?_); refine ⟨_, _, rfl, rfl, ?_⟩)
  | ((with_reducible refine qLst ?_); refine ⟨_, _, rfl, rfl, ?_⟩)
  | ((with_reducible refine qIntB ?_); refine ⟨_, rfl, ?_⟩)
  | ((with_reducible refine qMax2 ?_); refine ⟨_, _, rfl, ?_⟩)
  | ((with_reducible refine pair_at ?_ ?_ ?_))
  | ((with_reducible refine msrc_at ?_))
  | ((with_reducible refine tot_atL ?_))
  | ((with_reducible refine tot_atT ?_))
  | ((with_reducible refine drawn_at fun x hx => ?_))
  | ((with_reducible refine pick_atE ?_); refine ⟨by decide, fun r h0 h1 => ?_⟩)
  | ((with_reducible refine great_atE ?_); refine ⟨_, rfl, by decide, by decide, fun n h0 h1 => ?_⟩)
  | ((with_reducible refine of_atE ?_); refine ⟨by simp, Nat.le_of_ble_eq_true rfl, ?_⟩)
  | ((with_reducible refine bin_at ?_ ?_ ?_))
  | ((with_reducible refine over_at ?_ ?_ ?_))
  | ((with_reducible refine less_at ?_ ?_ ?_))
  | ((with_reducible refine floor_at ?_ ?_))
  | ((with_reducible refine ceil_at ?_ ?_))
  | ((with_reducible refine least_at ?_ ?_ ?_))
  | ((with_reducible refine fr_at ?_ ?_ ?_))
  | ((with_reducible refine ex_b ?_))
  | ((with_reducible refine ex_i ?_))
  | ((with_reducible refine ex_t ?_))
  | ((with_reducible refine ex_l ?_))
  | ((with_reducible refine ex_2 ?_))
  | ((with_reducible refine len_and ?_ ?_); exact Nat.le_of_ble_eq_true rfl)
  | ((with_reducible refine own_and ?_ ?_); rfl))
section
variable {P : Program} {w : World} {K : PySem.W.Frag} {mg : Str → Option Value} {base : Heap}
theorem ok_law {f : Addr} {fd : FuncData} (F : Fun K "law" "law" st_law f fd) (T : Tx mg) (c_over : HasG P w K mg base "over" 2 ["one", "other"] (spG mOver)) (c_total : HasG P w K mg base "total" 3 ["fractions"] (spG mTotal)) (c_floor_of : HasG P w K mg base "floor_of" 1 ["t"] (spG mFloor)) (c_ceiling_of : HasG P w K mg base "ceiling_of" 1 ["t"] (spG mCeil)) (c_is_less : HasG P w K mg base "is_less" 1 ["one", "other"] (spG mLess)) (c_l_drawn : HasG P w K mg base "_law_drawn" 3 ["source"] (spG mDrawn)) (c_l_of : HasG P w K mg base "_law_of" 2 ["source", "some"] (spG mOf)) (c_l_pair_right : HasG P w K mg base "_law_pair_right" 3 ["source", "x", "y"] (spG mPair)) (c_l_made_right : HasG P w K mg base "_law_made_right" 3 ["source"] (spG mSrc)) (c_l_list_right : HasG P w K mg base "_law_list_right" 4 ["source"] (spG mSrc)) (c_l_source : HasG P w K mg base "_law_source" 1 ["script"] (spSource K)) (ND : NoDig base) : FnG P w K mg base 5 f fd ["script"] (spLaw K) := by
  have nd := sc_law.nd
  refine funG F sc_law (fun vs H Q E ⟨a, ns, e, _⟩ => by rw [e]; rfl) fun cdv A outer s H vs Q E hr gd h => ?_
  have hu := hu_of hr
  have hu64 := hr.units
  obtain ⟨a, ns, rfl, hS, hn, hQ⟩ := h
  refine ⟨_, (pss_cons (ps_set (i := 1) nd rfl (by first | exact Or.inl rfl | exact Or.inr rfl) (c_l_source.call hr gd (pa_cons (pv 0) pa_nil)))
      (pss_cons (ps_for PassesOwn.never rfl (pi_range1 (by rfl) T.range (pa_cons pe_int pa_nil)) (pg_name (i := 2) nd rfl (by first | exact Or.inl rfl | exact Or.inr rfl)) (pss_cons (ps_set (i := 3) nd rfl (by first | exact Or.inl rfl | exact Or.inr rfl) (c_l_drawn.call hr gd (pa_cons (pv 1) pa_nil)))
      (pss_cons (ps_set (i := 4) nd rfl (by first | exact Or.inl rfl | exact Or.inr rfl) (c_l_of.call hr gd (pa_cons (pv 1) (pa_cons (pe_lst (pa_cons (pv 3) (pa_cons (pe_tup (pa_cons (pe_op op_sub pe_int (pe_ix (kIx (K := K) rfl) (pv 3) pe_int (fun _ _ => rfl))) (pa_cons (pe_ix (kIx (K := K) rfl) (pv 3) pe_int (fun _ _ => rfl)) pa_nil))) (pa_cons (c_l_drawn.call hr gd (pa_cons (pv 1) pa_nil)) (pa_cons (c_l_drawn.call hr gd (pa_cons (pv 1) pa_nil)) (pa_cons (c_l_drawn.call hr gd (pa_cons (pv 1) pa_nil)) pa_nil)))))) pa_nil))))
      (pss_one (ps_if (PW.pt (pw_or (pt_not (pt_val (c_l_pair_right.call hr gd (pa_cons (pv 1) (pa_cons (pv 3) (pa_cons (pv 4) pa_nil)))))) (pw_or1 (pt_not (pt_val (c_l_pair_right.call hr gd (pa_cons (pv 1) (pa_cons (pv 4) (pa_cons (pv 3) pa_nil))))))))) (pss_one (ps_ret pe_bl)) pss_nil)))))
      (pss_cons (ps_for PassesOwn.never rfl (pi_range1 (by rfl) T.range (pa_cons pe_int pa_nil)) (pg_name (i := 2) nd rfl (by first | exact Or.inl rfl | exact Or.inr rfl)) (pss_one (ps_if (PW.pt (pw_or (pt_not (pt_val (c_l_made_right.call hr gd (pa_cons (pv 1) pa_nil)))) (pw_or1 (pt_not (pt_val (c_l_list_right.call hr gd (pa_cons (pv 1) pa_nil))))))) (pss_one (ps_ret pe_bl)) pss_nil)))
      (pss_cons (ps_set (i := 5) nd rfl (by first | exact Or.inl rfl | exact Or.inr rfl) (pe_lst (pa_cons (c_over.call hr gd (pa_cons (pe_tup (pa_cons pe_int (pa_cons pe_int pa_nil))) (pa_cons (pe_tup (pa_cons pe_int (pa_cons pe_int pa_nil))) pa_nil))) (pa_cons (c_over.call hr gd (pa_cons (pe_tup (pa_cons pe_int (pa_cons pe_int pa_nil))) (pa_cons (pe_tup (pa_cons pe_int (pa_cons pe_int pa_nil))) pa_nil))) (pa_cons (c_total.call hr gd (pa_cons (pe_lst pa_nil) pa_nil)) (pa_cons (c_total.call hr gd (pa_cons (pe_tup pa_nil) pa_nil)) pa_nil))))))
      (pss_cons (ps_if (pt_cmpR (kNe (K := K) rfl hu64) (pe_callB (kRepr (K := K) rfl ND gd hu64) (by rfl) T.repr (by decide +kernel) (pa_cons (pv 5) pa_nil)) (pe_callB (kRepr (K := K) rfl ND gd hu64) (by rfl) T.repr (by decide +kernel) (pa_cons (pe_lst (pa_cons pe_non (pa_cons (pe_tup (pa_cons pe_int (pa_cons pe_int pa_nil))) (pa_cons (pe_tup (pa_cons pe_int (pa_cons pe_int pa_nil))) (pa_cons (pe_tup (pa_cons pe_int (pa_cons pe_int pa_nil))) pa_nil))))) pa_nil)) (nomark _)) (pss_one (ps_ret pe_bl)) pss_nil)
      (pss_cons (ps_set (i := 6) nd rfl (by first | exact Or.inl rfl | exact Or.inr rfl) (pe_tup (pa_cons (pe_op op_sub pe_int pe_int) (pa_cons pe_int pa_nil))))
      (pss_cons (ps_set (i := 5) nd rfl (by first | exact Or.inl rfl | exact Or.inr rfl) (pe_lst (pa_cons (c_floor_of.call hr gd (pa_cons (pv 6) pa_nil)) (pa_cons (c_ceiling_of.call hr gd (pa_cons (pv 6) pa_nil)) (pa_cons (c_floor_of.call hr gd (pa_cons (pe_tup (pa_cons pe_int (pa_cons pe_int pa_nil))) pa_nil)) (pa_cons (c_ceiling_of.call hr gd (pa_cons (pe_tup (pa_cons pe_int (pa_cons pe_int pa_nil))) pa_nil)) (pa_cons (c_is_less.call hr gd (pa_cons (pv 6) (pa_cons (pv 6) pa_nil))) pa_nil)))))))
      (pss_one (ps_ret (pe_cmpR (kEq (K := K) rfl hu64) (pe_callB (kRepr (K := K) rfl ND gd hu64) (by rfl) T.repr (by decide +kernel) (pa_cons (pv 5) pa_nil)) (pe_callB (kRepr (K := K) rfl ND gd hu64) (by rfl) T.repr (by decide +kernel) (pa_cons (pe_lst (pa_cons (pe_op op_sub pe_int pe_int) (pa_cons pe_int (pa_cons pe_int (pa_cons pe_int (pa_cons pe_bl pa_nil)))))) pa_nil)) (nomark _))))))))))), ?_⟩
  refine law_start (n := 5) hS hn hQ fun p l => ?_
  show SW (Fsrc p l) [.non, .raw (.ref p), .non, .non, .non, .non, .non] _ _
  refine sw_seq (sw_for (it_range1 ?_))
  repeat' walk_at "dl"
  refine ⟨_, rfl, by decide, by decide, ?_⟩
  refine ⟨fun i e => ∃ z2 z3 z4, e = [.non, .raw (.ref p), z2, z3, z4, .non, .non], ⟨_, _, _, rfl⟩, ?_, ?_⟩
  · rintro i d e hd ⟨z2, z3, z4, rfl⟩
    refine gw_name ?_
    repeat' walk_at "dl"
    rename_i x hx x2 hx2 x3 hx3 x4 hx4
    intro d hd
    obtain ⟨y, hy, rfl⟩ : ∃ y : Int × Int, Fq 160 y ∧ d = frD y := by
      rcases List.mem_cons.mp hd with e | hd
      · exact ⟨_, hx, e⟩
      rcases List.mem_cons.mp hd with e | hd
      · refine ⟨(0 - x.1, x.2), ⟨hx.pos, ?_, hx.b2⟩, e⟩
        show Bit 160 (0 - x.1)
        rw [Int.zero_sub]
        exact hx.b1.neg
      rcases List.mem_cons.mp hd with e | hd
      · exact ⟨_, hx2, e⟩
      rcases List.mem_cons.mp hd with e | hd
      · exact ⟨_, hx3, e⟩
      rcases List.mem_cons.mp hd with e | hd
      · exact ⟨_, hx4, e⟩
      · cases hd
    repeat' walk_at "dl"
    any_goals first
      | exact hx
      | exact hy
    refine iteF ?_
    repeat' walk_at "dl"
    any_goals first
      | exact hx
      | exact hy
    refine iteF ?_
    repeat' walk_at "dl"
    exact ⟨_, _, _, rfl⟩
  · rintro e ⟨z2, z3, z4, rfl⟩
    refine sw_seq (sw_for (it_range1 ?_))
    repeat' walk_at "dl"
    refine ⟨_, rfl, by decide, by decide, ?_⟩
    refine ⟨fun i e => ∃ z2, e = [.non, .raw (.ref p), z2, z3, z4, .non, .non], ⟨_, rfl⟩, ?_, ?_⟩
    · rintro i d e hd ⟨z2, rfl⟩
      refine gw_name ?_
      repeat' walk_at "dl"
      refine iteF ?_
      repeat' walk_at "dl"
      refine iteF ?_
      repeat' walk_at "dl"
      exact ⟨_, rfl⟩
    · rintro e ⟨z2, rfl⟩
      have q01 : Fq 4000 ((0, 1) : Int × Int) := fq01.mono (by decide)
      have q12 : Fq 4000 ((1, 2) : Int × Int) := (show Fq 4 (1, 2) from ⟨by decide, by unfold Bit; decide, by unfold Bit; decide⟩).mono (by decide)
      have q37 : Fq 4000 ((3, 7) : Int × Int) := (show Fq 4 (3, 7) from ⟨by decide, by unfold Bit; decide, by unfold Bit; decide⟩).mono (by decide)
      have q71 : Fq 4000 ((7, 1) : Int × Int) := (show Fq 4 (7, 1) from ⟨by decide, by unfold Bit; decide, by unfold Bit; decide⟩).mono (by decide)
      have qh : Fq 4000 ((0 - 1, 2) : Int × Int) := (show Fq 4 (0 - 1, 2) from ⟨by decide, by unfold Bit; decide, by unfold Bit; decide⟩).mono (by decide)
      have sn : Sh 2 27000 PyData.none := Sh.none.mono (by decide) (by decide)
      have si : ∀ i : Int, i.natAbs < 2 ^ 9 → Sh 2 27000 (.int i) := fun i h => (Sh.int (show Bit 12000 i from Nat.lt_of_lt_of_le h (Nat.pow_le_pow_right (by decide) (by decide)))).mono (by decide) (by decide)
      repeat' walk_at "dl"
      any_goals first
        | exact q12
        | exact q01
        | exact q37
      have e1 : ov (1, 2) (0, 1) = .none := rfl
      have e2 : ov (0, 1) (3, 7) = frD (0, 1) := congrArg frD (by decide +kernel : lst (0 * 7) (1 * 3) = (0, 1))
      rw [e1, e2]
      have s01 : Sh 2 27000 (frD (0, 1)) := q01.sh (by decide)
      have hall : ∀ x, x ∈ [PyData.none, frD (0, 1), frD (0, 1), frD (0, 1)] → Sh 2 27000 x := fun x hx => by
        rcases List.mem_cons.mp hx with e | hx
        · exact e ▸ sn
        rcases List.mem_cons.mp hx with e | hx
        · exact e ▸ s01
        rcases List.mem_cons.mp hx with e | hx
        · exact e ▸ s01
        rcases List.mem_cons.mp hx with e | hx
        · exact e ▸ s01
        · cases hx
      refine rp_at hall (by decide) ?_
      repeat' walk_at "dl"
      refine rp_at hall (by decide) ?_
      repeat' walk_at "dl"
      refine ne_same rfl ?_
      repeat' walk_at "dl"
      any_goals first
        | exact qh
        | exact q71
      have e3 : (0 - 1 : Int).fdiv 2 = 0 - 1 := by decide
      have e4 : -((-(0 - 1) : Int).fdiv 2) = 0 := by decide
      have e5 : (7 : Int).fdiv 1 = 7 := by decide
      have e6 : -((-7 : Int).fdiv 1) = 7 := by decide
      have e7 : lessF (0 - 1, 2) (0 - 1, 2) = false := by decide
      rw [e3, e4, e5, e6, e7]
      have hall2 : ∀ x, x ∈ [PyData.int (0 - 1), PyData.int 0, PyData.int 7, PyData.int 7, PyData.bool false] → Sh 2 27000 x := fun x hx => by
        rcases List.mem_cons.mp hx with e | hx
        · exact e ▸ si _ (by decide)
        rcases List.mem_cons.mp hx with e | hx
        · exact e ▸ si _ (by decide)
        rcases List.mem_cons.mp hx with e | hx
        · exact e ▸ si _ (by decide)
        rcases List.mem_cons.mp hx with e | hx
        · exact e ▸ si _ (by decide)
        rcases List.mem_cons.mp hx with e | hx
        · exact e ▸ (Sh.bool false).mono (by decide) (by decide)
        · cases hx
      refine rp_at hall2 (by decide) ?_
      repeat' walk_at "dl"
      refine rp_at hall2 (by decide) ?_
      repeat' walk_at "dl"
      exact congrArg PyData.bool (decide_eq_true rfl)
end
end K01
end
section
set_option Elab.async false
set_option linter.all false
set_option maxRecDepth 100000
set_option maxHeartbeats 0
namespace K01
open PySem L2 PySem.Spec PyProof.Rows Dl RZ
theorem law_callG {P : Program} {w : World} {K : PySem.W.Frag} {mg mb : Str → Option Value} {k : Nat} {fa a : Addr} {fd : FuncData} {x : Str} {sp : Sp} {st : Shared} {us : List Value} {ms : List Int}
    (inK : K.In st.heap) (main : st.heap.Ns mainGlobals mg) (bi : st.heap.Ns builtinsNs mb) (boot : ∀ y : Str, y ≠ "__name__" → mb y = bootBuiltins y)
    (lim : st.heap.NoLimit) (dig : NoDig st.heap) (idle : st.gens = #[]) (at0 : st.heap.get? a = some { cls := .type "list", data := .seq us.toArray })
    (wholes : IntsAre us ms) (long : ms.length ≤ sizeLine) (room : Room k callerA)
    (F : ∀ base : Heap, K.In base → base.Ns mainGlobals mg → NoDig base → FnG P w K mg base k fa fd [x] sp)
    (binds : ∀ (s : Shared) (u : Value), BindsTo s fd ⟨[u], []⟩ [(x, u)])
    (told : ∀ H : Hp, SqL K H a (ms.map V.int) → sp [.ref a] H (fun v _ => v = .bl true) E0) :
    codeAny (model P w) callerA (.call (.ref fa) ⟨[.ref a], []⟩) (fun r t => r = .ok (.ret (.bool true)) ∧ OldK st.heap t.heap ∧ t.os = st.os ∧ AllBare t.gens) st := by
  have shut := vals_ints wholes
  have size := wholes.length
  let ob : Obj := { cls := .type "list", data := .seq us.toArray }
  let H : Hp := fun b => if b = a ∧ K.lookup a = none then some (.frz ob (.lst (ms.map V.int))) else none
  have one : ∀ b u, H b = some u → b = a ∧ K.lookup a = none ∧ u = .frz ob (.lst (ms.map V.int)) := fun b u e => by
    by_cases q : b = a ∧ K.lookup a = none
    · have e2 : H b = some (.frz ob (.lst (ms.map V.int))) := if_pos q
      rw [e2] at e
      cases e
      exact ⟨q.1, q.2, rfl⟩
    · have e2 : H b = none := if_neg q
      rw [e2] at e
      cases e
  have stay : ∀ b o, st.heap.get? b = some o → H b = none → (hidT st.heap H).get? b = some o := fun b o e n => hidT_get e n
  have spaces : ∀ b m, st.heap.Ns b m → (hidT st.heap H).Ns b m := fun b m ⟨o, es, ep, e, d, r⟩ => by
    refine ⟨o, es, ep, stay b o e ?_, d, r⟩
    cases q : H b with
    | none => rfl
    | some u =>
      obtain ⟨rfl, _⟩ := one b u q
      rw [at0] at e
      cases e
      have d2 : Data.seq us.toArray _ = Data.dict es ep := d
      cases d2
  have inB : K.In (hidT st.heap H) := fun b o e => stay b o (inK b o e) (by
    cases q : H b with
    | none => rfl
    | some u =>
      obtain ⟨rfl, n, _⟩ := one b u q
      rw [n] at e
      cases e)
  have digB : NoDig (hidT st.heap H) := by
    obtain ⟨mc, d1, d2⟩ := dig
    exact ⟨mc, spaces _ _ d1, d2⟩
  have modB : Mod K mg (hidT st.heap H) := ⟨inB, spaces _ _ main, ⟨mb, spaces _ _ bi, boot⟩, by
    obtain ⟨mc, l1, l2⟩ := lim
    exact ⟨mc, spaces _ _ l1, l2⟩⟩
  have okH : HOk P w H st.heap := fun b u e => by
    obtain ⟨rfl, _, rfl⟩ := one b u e
    exact ⟨at0, by rw [List.length_map]; exact long, us, _, shut, at0⟩
  have env : Env0 P w K mg (hidT st.heap H) callerA [] st H :=
    ⟨rfl, modB, fun b o e => of_hidT e, Nat.le_of_eq (hidT_size _ _), trivial, fun b z => absurd (show b ∈ ([] : List Addr) from z) (by simp), okH, .of_eq idle⟩
  have seen : SqL K H a (ms.map V.int) := by
    cases q : K.lookup a with
    | none => exact .inl (.inr ⟨ob, if_pos ⟨rfl, q⟩⟩)
    | some o =>
      have e := inK a o q
      rw [at0] at e
      cases e
      exact .inr ⟨_, us.toArray, _, q, rfl, rfl, rfl, by rw [List.size_toArray, size]; exact long, by simpa using shut⟩
  refine codeAny_mono ((F _ inB (spaces _ _ main) digB).go callerA [] st H ⟨[.ref a], []⟩ [.ref a] [.ref a] _ _ room rfl env (binds st (.ref a)) (.cons rfl .nil) (told H seen)) fun r t h => ?_
  cases r with
  | error e => exact h.elim
  | ok fl =>
    cases fl with
    | next => exact h.elim
    | brk => exact h.elim
    | cont => exact h.elim
    | ret u =>
      obtain ⟨v, H2, os, bare, un, ok2, rv, q⟩ := h
      have q2 : v = .bl true := q
      subst q2
      obtain rfl : u = Value.bool true := rv
      refine ⟨rfl, OldK.of_keep fun b o e => ?_, os, bare⟩
      cases z : H b with
      | none => exact un.keep b o e z (by intro y; exact absurd (show b ∈ ([] : List Addr) from y) (by simp)) (by simp)
      | some u =>
        obtain ⟨rfl, _, rfl⟩ := one b u z
        have z2 := un.frzs b ob _ z
        obtain ⟨e1, _⟩ := okH b _ z
        obtain ⟨e2, _⟩ := ok2 b _ z2
        rw [e] at e1
        cases e1
        exact e2
theorem walk_ofG {l : PySem.W.OpenLaw} {n k : Nat} {q : Program} {loose : List Str} {XP : (Str → Option Value) → Heap → Prop} {YP : World → Heap → Prop} {d : DefRec} {K : Params → PySem.W.Frag} {sp : PySem.W.Frag → Sp} {x : Str}
    (most : l.most = some n) (few : n ≤ sizeLine) (plainD : d.params.defaults = []) (room : Room k callerA) (hY : ∀ (w : World) (h : Heap), YP w h → (K w.params).In h)
    (F : ∀ (w : World) (mg : Str → Option Value) (fa : Addr) (h : Heap), (K w.params).In h → h.Ns mainGlobals mg → mg d.name = some (.ref fa) → ∃ fd : FuncData, (∀ (s : Shared) (u : Value), BindsTo s fd ⟨[u], []⟩ [(x, u)]) ∧
      ∀ base : Heap, (K w.params).In base → base.Ns mainGlobals mg → NoDig base → FnG l.prog w (K w.params) mg base k fa fd [x] (sp (K w.params)))
    (told : ∀ (K : PySem.W.Frag) (H : Hp) (a : Addr) (ns : List Int), ns.length ≤ n → SqL K H a (ns.map V.int) → sp K [.ref a] H (fun v _ => v = .bl true) E0) :
    PySem.W.WalkO q loose XP YP l.row.toRowW d [] (fun f vs => PySem.call f vs) := by
  refine Att.attach_call most plainD fun w s₀ st mg mb fa o pm cd doc a us ms G Y ho hd hcd named at0 wholes short idle => ?_
  have inK := hY w _ Y
  obtain ⟨fd, bs, each⟩ := F w mg fa _ inK G.T.g named
  exact law_callG inK G.T.g G.T.b G.T.builtins G.T.nolimit G.T.nodigits idle at0 wholes (Nat.le_trans short few) room each bs fun H z => told _ H a ms short z
theorem all_mk {w : World} {K : PySem.W.Frag} {h : Heap} {mg : Str → Option Value} {fa f_fraction_of f_plus f_minus f_times f_over f_is_less f_floor_of f_ceiling_of f_total f_lowest f_highest f_l_source f_l_pick f_l_of f_l_mixed f_l_least f_l_plus f_l_great f_l_drawn f_l_pair_right f_l_made_right f_l_list_right f_law : Addr} (X : K.In h) (G : h.Ns mainGlobals mg) (hfa : mg "law" = some (.ref fa))
    {od_fraction_of an_fraction_of : Option Addr} {sl_fraction_of : Array (Option Value)} {oc_fraction_of kV_fraction_of dc_fraction_of pm_fraction_of cd_fraction_of ct_fraction_of : Value} (a_fraction_of : PySem.W.nsIn K mainGlobals "fraction_of" = some (some (.ref f_fraction_of)))
    (l_fraction_of : K.lookup f_fraction_of = some ⟨oc_fraction_of, od_fraction_of, .func (PySem.W.fnOf "fraction_of" "fraction_of" (defArgs st_fraction_of) (defBody st_fraction_of) (defScope st_fraction_of) .none kV_fraction_of dc_fraction_of pm_fraction_of an_fraction_of cd_fraction_of ct_fraction_of), sl_fraction_of⟩)
    (c_fraction_of : PySem.W.codeIn K cd_fraction_of "fraction_of" = true) (k_fraction_of : PySem.W.keepIn K (.ref f_fraction_of) = true)
    {od_plus an_plus : Option Addr} {sl_plus : Array (Option Value)} {oc_plus kV_plus dc_plus pm_plus cd_plus ct_plus : Value} (a_plus : PySem.W.nsIn K mainGlobals "plus" = some (some (.ref f_plus)))
    (l_plus : K.lookup f_plus = some ⟨oc_plus, od_plus, .func (PySem.W.fnOf "plus" "plus" (defArgs st_plus) (defBody st_plus) (defScope st_plus) .none kV_plus dc_plus pm_plus an_plus cd_plus ct_plus), sl_plus⟩)
    (c_plus : PySem.W.codeIn K cd_plus "plus" = true) (k_plus : PySem.W.keepIn K (.ref f_plus) = true)
    {od_minus an_minus : Option Addr} {sl_minus : Array (Option Value)} {oc_minus kV_minus dc_minus pm_minus cd_minus ct_minus : Value} (a_minus : PySem.W.nsIn K mainGlobals "minus" = some (some (.ref f_minus)))
    (l_minus : K.lookup f_minus = some ⟨oc_minus, od_minus, .func (PySem.W.fnOf "minus" "minus" (defArgs st_minus) (defBody st_minus) (defScope st_minus) .none kV_minus dc_minus pm_minus an_minus cd_minus ct_minus), sl_minus⟩)
    (c_minus : PySem.W.codeIn K cd_minus "minus" = true) (k_minus : PySem.W.keepIn K (.ref f_minus) = true)
    {od_times an_times : Option Addr} {sl_times : Array (Option Value)} {oc_times kV_times dc_times pm_times cd_times ct_times : Value} (a_times : PySem.W.nsIn K mainGlobals "times" = some (some (.ref f_times)))
    (l_times : K.lookup f_times = some ⟨oc_times, od_times, .func (PySem.W.fnOf "times" "times" (defArgs st_times) (defBody st_times) (defScope st_times) .none kV_times dc_times pm_times an_times cd_times ct_times), sl_times⟩)
    (c_times : PySem.W.codeIn K cd_times "times" = true) (k_times : PySem.W.keepIn K (.ref f_times) = true)
    {od_over an_over : Option Addr} {sl_over : Array (Option Value)} {oc_over kV_over dc_over pm_over cd_over ct_over : Value} (a_over : PySem.W.nsIn K mainGlobals "over" = some (some (.ref f_over)))
    (l_over : K.lookup f_over = some ⟨oc_over, od_over, .func (PySem.W.fnOf "over" "over" (defArgs st_over) (defBody st_over) (defScope st_over) .none kV_over dc_over pm_over an_over cd_over ct_over), sl_over⟩)
    (c_over : PySem.W.codeIn K cd_over "over" = true) (k_over : PySem.W.keepIn K (.ref f_over) = true)
    {od_is_less an_is_less : Option Addr} {sl_is_less : Array (Option Value)} {oc_is_less kV_is_less dc_is_less pm_is_less cd_is_less ct_is_less : Value} (a_is_less : PySem.W.nsIn K mainGlobals "is_less" = some (some (.ref f_is_less)))
    (l_is_less : K.lookup f_is_less = some ⟨oc_is_less, od_is_less, .func (PySem.W.fnOf "is_less" "is_less" (defArgs st_is_less) (defBody st_is_less) (defScope st_is_less) .none kV_is_less dc_is_less pm_is_less an_is_less cd_is_less ct_is_less), sl_is_less⟩)
    (c_is_less : PySem.W.codeIn K cd_is_less "is_less" = true) (k_is_less : PySem.W.keepIn K (.ref f_is_less) = true)
    {od_floor_of an_floor_of : Option Addr} {sl_floor_of : Array (Option Value)} {oc_floor_of kV_floor_of dc_floor_of pm_floor_of cd_floor_of ct_floor_of : Value} (a_floor_of : PySem.W.nsIn K mainGlobals "floor_of" = some (some (.ref f_floor_of)))
    (l_floor_of : K.lookup f_floor_of = some ⟨oc_floor_of, od_floor_of, .func (PySem.W.fnOf "floor_of" "floor_of" (defArgs st_floor_of) (defBody st_floor_of) (defScope st_floor_of) .none kV_floor_of dc_floor_of pm_floor_of an_floor_of cd_floor_of ct_floor_of), sl_floor_of⟩)
    (c_floor_of : PySem.W.codeIn K cd_floor_of "floor_of" = true) (k_floor_of : PySem.W.keepIn K (.ref f_floor_of) = true)
    {od_ceiling_of an_ceiling_of : Option Addr} {sl_ceiling_of : Array (Option Value)} {oc_ceiling_of kV_ceiling_of dc_ceiling_of pm_ceiling_of cd_ceiling_of ct_ceiling_of : Value} (a_ceiling_of : PySem.W.nsIn K mainGlobals "ceiling_of" = some (some (.ref f_ceiling_of)))
    (l_ceiling_of : K.lookup f_ceiling_of = some ⟨oc_ceiling_of, od_ceiling_of, .func (PySem.W.fnOf "ceiling_of" "ceiling_of" (defArgs st_ceiling_of) (defBody st_ceiling_of) (defScope st_ceiling_of) .none kV_ceiling_of dc_ceiling_of pm_ceiling_of an_ceiling_of cd_ceiling_of ct_ceiling_of), sl_ceiling_of⟩)
    (c_ceiling_of : PySem.W.codeIn K cd_ceiling_of "ceiling_of" = true) (k_ceiling_of : PySem.W.keepIn K (.ref f_ceiling_of) = true)
    {od_total an_total : Option Addr} {sl_total : Array (Option Value)} {oc_total kV_total dc_total pm_total cd_total ct_total : Value} (a_total : PySem.W.nsIn K mainGlobals "total" = some (some (.ref f_total)))
    (l_total : K.lookup f_total = some ⟨oc_total, od_total, .func (PySem.W.fnOf "total" "total" (defArgs st_total) (defBody st_total) (defScope st_total) .none kV_total dc_total pm_total an_total cd_total ct_total), sl_total⟩)
    (c_total : PySem.W.codeIn K cd_total "total" = true) (k_total : PySem.W.keepIn K (.ref f_total) = true)
    {od_lowest an_lowest : Option Addr} {sl_lowest : Array (Option Value)} {oc_lowest kV_lowest dc_lowest pm_lowest cd_lowest ct_lowest : Value} (a_lowest : PySem.W.nsIn K mainGlobals "lowest" = some (some (.ref f_lowest)))
    (l_lowest : K.lookup f_lowest = some ⟨oc_lowest, od_lowest, .func (PySem.W.fnOf "lowest" "lowest" (defArgs st_lowest) (defBody st_lowest) (defScope st_lowest) .none kV_lowest dc_lowest pm_lowest an_lowest cd_lowest ct_lowest), sl_lowest⟩)
    (c_lowest : PySem.W.codeIn K cd_lowest "lowest" = true) (k_lowest : PySem.W.keepIn K (.ref f_lowest) = true)
    {od_highest an_highest : Option Addr} {sl_highest : Array (Option Value)} {oc_highest kV_highest dc_highest pm_highest cd_highest ct_highest : Value} (a_highest : PySem.W.nsIn K mainGlobals "highest" = some (some (.ref f_highest)))
    (l_highest : K.lookup f_highest = some ⟨oc_highest, od_highest, .func (PySem.W.fnOf "highest" "highest" (defArgs st_highest) (defBody st_highest) (defScope st_highest) .none kV_highest dc_highest pm_highest an_highest cd_highest ct_highest), sl_highest⟩)
    (c_highest : PySem.W.codeIn K cd_highest "highest" = true) (k_highest : PySem.W.keepIn K (.ref f_highest) = true)
    {od_l_source an_l_source : Option Addr} {sl_l_source : Array (Option Value)} {oc_l_source kV_l_source dc_l_source pm_l_source cd_l_source ct_l_source : Value} (a_l_source : PySem.W.nsIn K mainGlobals "_law_source" = some (some (.ref f_l_source)))
    (l_l_source : K.lookup f_l_source = some ⟨oc_l_source, od_l_source, .func (PySem.W.fnOf "_law_source" "_law_source" (defArgs st_l_source) (defBody st_l_source) (defScope st_l_source) .none kV_l_source dc_l_source pm_l_source an_l_source cd_l_source ct_l_source), sl_l_source⟩)
    (c_l_source : PySem.W.codeIn K cd_l_source "_law_source" = true) (k_l_source : PySem.W.keepIn K (.ref f_l_source) = true)
    {od_l_pick an_l_pick : Option Addr} {sl_l_pick : Array (Option Value)} {oc_l_pick kV_l_pick dc_l_pick pm_l_pick cd_l_pick ct_l_pick : Value} (a_l_pick : PySem.W.nsIn K mainGlobals "_law_pick" = some (some (.ref f_l_pick)))
    (l_l_pick : K.lookup f_l_pick = some ⟨oc_l_pick, od_l_pick, .func (PySem.W.fnOf "_law_pick" "_law_pick" (defArgs st_l_pick) (defBody st_l_pick) (defScope st_l_pick) .none kV_l_pick dc_l_pick pm_l_pick an_l_pick cd_l_pick ct_l_pick), sl_l_pick⟩)
    (c_l_pick : PySem.W.codeIn K cd_l_pick "_law_pick" = true) (k_l_pick : PySem.W.keepIn K (.ref f_l_pick) = true)
    {od_l_of an_l_of : Option Addr} {sl_l_of : Array (Option Value)} {oc_l_of kV_l_of dc_l_of pm_l_of cd_l_of ct_l_of : Value} (a_l_of : PySem.W.nsIn K mainGlobals "_law_of" = some (some (.ref f_l_of)))
    (l_l_of : K.lookup f_l_of = some ⟨oc_l_of, od_l_of, .func (PySem.W.fnOf "_law_of" "_law_of" (defArgs st_l_of) (defBody st_l_of) (defScope st_l_of) .none kV_l_of dc_l_of pm_l_of an_l_of cd_l_of ct_l_of), sl_l_of⟩)
    (c_l_of : PySem.W.codeIn K cd_l_of "_law_of" = true) (k_l_of : PySem.W.keepIn K (.ref f_l_of) = true)
    {od_l_mixed an_l_mixed : Option Addr} {sl_l_mixed : Array (Option Value)} {oc_l_mixed kV_l_mixed dc_l_mixed pm_l_mixed cd_l_mixed ct_l_mixed : Value} (a_l_mixed : PySem.W.nsIn K mainGlobals "_law_mixed" = some (some (.ref f_l_mixed)))
    (l_l_mixed : K.lookup f_l_mixed = some ⟨oc_l_mixed, od_l_mixed, .func (PySem.W.fnOf "_law_mixed" "_law_mixed" (defArgs st_l_mixed) (defBody st_l_mixed) (defScope st_l_mixed) .none kV_l_mixed dc_l_mixed pm_l_mixed an_l_mixed cd_l_mixed ct_l_mixed), sl_l_mixed⟩)
    (c_l_mixed : PySem.W.codeIn K cd_l_mixed "_law_mixed" = true) (k_l_mixed : PySem.W.keepIn K (.ref f_l_mixed) = true)
    {od_l_least an_l_least : Option Addr} {sl_l_least : Array (Option Value)} {oc_l_least kV_l_least dc_l_least pm_l_least cd_l_least ct_l_least : Value} (a_l_least : PySem.W.nsIn K mainGlobals "_law_least" = some (some (.ref f_l_least)))
    (l_l_least : K.lookup f_l_least = some ⟨oc_l_least, od_l_least, .func (PySem.W.fnOf "_law_least" "_law_least" (defArgs st_l_least) (defBody st_l_least) (defScope st_l_least) .none kV_l_least dc_l_least pm_l_least an_l_least cd_l_least ct_l_least), sl_l_least⟩)
    (c_l_least : PySem.W.codeIn K cd_l_least "_law_least" = true) (k_l_least : PySem.W.keepIn K (.ref f_l_least) = true)
    {od_l_plus an_l_plus : Option Addr} {sl_l_plus : Array (Option Value)} {oc_l_plus kV_l_plus dc_l_plus pm_l_plus cd_l_plus ct_l_plus : Value} (a_l_plus : PySem.W.nsIn K mainGlobals "_law_plus" = some (some (.ref f_l_plus)))
    (l_l_plus : K.lookup f_l_plus = some ⟨oc_l_plus, od_l_plus, .func (PySem.W.fnOf "_law_plus" "_law_plus" (defArgs st_l_plus) (defBody st_l_plus) (defScope st_l_plus) .none kV_l_plus dc_l_plus pm_l_plus an_l_plus cd_l_plus ct_l_plus), sl_l_plus⟩)
    (c_l_plus : PySem.W.codeIn K cd_l_plus "_law_plus" = true) (k_l_plus : PySem.W.keepIn K (.ref f_l_plus) = true)
    {od_l_great an_l_great : Option Addr} {sl_l_great : Array (Option Value)} {oc_l_great kV_l_great dc_l_great pm_l_great cd_l_great ct_l_great : Value} (a_l_great : PySem.W.nsIn K mainGlobals "_law_great" = some (some (.ref f_l_great)))
    (l_l_great : K.lookup f_l_great = some ⟨oc_l_great, od_l_great, .func (PySem.W.fnOf "_law_great" "_law_great" (defArgs st_l_great) (defBody st_l_great) (defScope st_l_great) .none kV_l_great dc_l_great pm_l_great an_l_great cd_l_great ct_l_great), sl_l_great⟩)
    (c_l_great : PySem.W.codeIn K cd_l_great "_law_great" = true) (k_l_great : PySem.W.keepIn K (.ref f_l_great) = true)
    {od_l_drawn an_l_drawn : Option Addr} {sl_l_drawn : Array (Option Value)} {oc_l_drawn kV_l_drawn dc_l_drawn pm_l_drawn cd_l_drawn ct_l_drawn : Value} (a_l_drawn : PySem.W.nsIn K mainGlobals "_law_drawn" = some (some (.ref f_l_drawn)))
    (l_l_drawn : K.lookup f_l_drawn = some ⟨oc_l_drawn, od_l_drawn, .func (PySem.W.fnOf "_law_drawn" "_law_drawn" (defArgs st_l_drawn) (defBody st_l_drawn) (defScope st_l_drawn) .none kV_l_drawn dc_l_drawn pm_l_drawn an_l_drawn cd_l_drawn ct_l_drawn), sl_l_drawn⟩)
    (c_l_drawn : PySem.W.codeIn K cd_l_drawn "_law_drawn" = true) (k_l_drawn : PySem.W.keepIn K (.ref f_l_drawn) = true)
    {od_l_pair_right an_l_pair_right : Option Addr} {sl_l_pair_right : Array (Option Value)} {oc_l_pair_right kV_l_pair_right dc_l_pair_right pm_l_pair_right cd_l_pair_right ct_l_pair_right : Value} (a_l_pair_right : PySem.W.nsIn K mainGlobals "_law_pair_right" = some (some (.ref f_l_pair_right)))
    (l_l_pair_right : K.lookup f_l_pair_right = some ⟨oc_l_pair_right, od_l_pair_right, .func (PySem.W.fnOf "_law_pair_right" "_law_pair_right" (defArgs st_l_pair_right) (defBody st_l_pair_right) (defScope st_l_pair_right) .none kV_l_pair_right dc_l_pair_right pm_l_pair_right an_l_pair_right cd_l_pair_right ct_l_pair_right), sl_l_pair_right⟩)
    (c_l_pair_right : PySem.W.codeIn K cd_l_pair_right "_law_pair_right" = true) (k_l_pair_right : PySem.W.keepIn K (.ref f_l_pair_right) = true)
    {od_l_made_right an_l_made_right : Option Addr} {sl_l_made_right : Array (Option Value)} {oc_l_made_right kV_l_made_right dc_l_made_right pm_l_made_right cd_l_made_right ct_l_made_right : Value} (a_l_made_right : PySem.W.nsIn K mainGlobals "_law_made_right" = some (some (.ref f_l_made_right)))
    (l_l_made_right : K.lookup f_l_made_right = some ⟨oc_l_made_right, od_l_made_right, .func (PySem.W.fnOf "_law_made_right" "_law_made_right" (defArgs st_l_made_right) (defBody st_l_made_right) (defScope st_l_made_right) .none kV_l_made_right dc_l_made_right pm_l_made_right an_l_made_right cd_l_made_right ct_l_made_right), sl_l_made_right⟩)
    (c_l_made_right : PySem.W.codeIn K cd_l_made_right "_law_made_right" = true) (k_l_made_right : PySem.W.keepIn K (.ref f_l_made_right) = true)
    {od_l_list_right an_l_list_right : Option Addr} {sl_l_list_right : Array (Option Value)} {oc_l_list_right kV_l_list_right dc_l_list_right pm_l_list_right cd_l_list_right ct_l_list_right : Value} (a_l_list_right : PySem.W.nsIn K mainGlobals "_law_list_right" = some (some (.ref f_l_list_right)))
    (l_l_list_right : K.lookup f_l_list_right = some ⟨oc_l_list_right, od_l_list_right, .func (PySem.W.fnOf "_law_list_right" "_law_list_right" (defArgs st_l_list_right) (defBody st_l_list_right) (defScope st_l_list_right) .none kV_l_list_right dc_l_list_right pm_l_list_right an_l_list_right cd_l_list_right ct_l_list_right), sl_l_list_right⟩)
    (c_l_list_right : PySem.W.codeIn K cd_l_list_right "_law_list_right" = true) (k_l_list_right : PySem.W.keepIn K (.ref f_l_list_right) = true)
    {od_law an_law : Option Addr} {sl_law : Array (Option Value)} {oc_law kV_law dc_law pm_law cd_law ct_law : Value} (a_law : PySem.W.nsIn K mainGlobals "law" = some (some (.ref f_law)))
    (l_law : K.lookup f_law = some ⟨oc_law, od_law, .func (PySem.W.fnOf "law" "law" (defArgs st_law) (defBody st_law) (defScope st_law) .none kV_law dc_law pm_law an_law cd_law ct_law), sl_law⟩)
    (c_law : PySem.W.codeIn K cd_law "law" = true) (k_law : PySem.W.keepIn K (.ref f_law) = true)
    (z_len : PySem.W.nsIn K mainGlobals "len" = some none) (z_abs : PySem.W.nsIn K mainGlobals "abs" = some none) (z_int : PySem.W.nsIn K mainGlobals "int" = some none) (z_max : PySem.W.nsIn K mainGlobals "max" = some none) (z_list : PySem.W.nsIn K mainGlobals "list" = some none) (z_tuple : PySem.W.nsIn K mainGlobals "tuple" = some none) (z_range : PySem.W.nsIn K mainGlobals "range" = some none) (z_repr : PySem.W.nsIn K mainGlobals "repr" = some none) (z_all : PySem.W.nsIn K mainGlobals "all" = some none) (z_isinstance : PySem.W.nsIn K mainGlobals "isinstance" = some none) (z_gcd : PySem.W.nsIn K mainGlobals "gcd" = some (some (.builtin "math.gcd"))) :
    ∃ fd : FuncData, (∀ (s : Shared) (u : Value), BindsTo s fd ⟨[u], []⟩ [("script", u)]) ∧ ∀ base : Heap, K.In base → base.Ns mainGlobals mg → NoDig base → FnG PySem.Challenge.rw_everygust_k01_fractions.prog w K mg base 5 fa fd ["script"] (spLaw K) := by
  have e := hfa.symm.trans (PySem.W.mg_of X G a_law)
  cases e
  have T : Tx mg := ⟨PySem.W.mg_none_of X G z_len, PySem.W.mg_none_of X G z_abs, PySem.W.mg_none_of X G z_int, PySem.W.mg_none_of X G z_max, PySem.W.mg_none_of X G z_list, PySem.W.mg_none_of X G z_tuple, PySem.W.mg_none_of X G z_range, PySem.W.mg_none_of X G z_repr, PySem.W.mg_none_of X G z_all, PySem.W.mg_none_of X G z_isinstance, PySem.W.mg_of X G z_gcd⟩
  have F_fraction_of := fun_mk (st := st_fraction_of) l_fraction_of c_fraction_of k_fraction_of
  have F_plus := fun_mk (st := st_plus) l_plus c_plus k_plus
  have F_minus := fun_mk (st := st_minus) l_minus c_minus k_minus
  have F_times := fun_mk (st := st_times) l_times c_times k_times
  have F_over := fun_mk (st := st_over) l_over c_over k_over
  have F_is_less := fun_mk (st := st_is_less) l_is_less c_is_less k_is_less
  have F_floor_of := fun_mk (st := st_floor_of) l_floor_of c_floor_of k_floor_of
  have F_ceiling_of := fun_mk (st := st_ceiling_of) l_ceiling_of c_ceiling_of k_ceiling_of
  have F_total := fun_mk (st := st_total) l_total c_total k_total
  have F_lowest := fun_mk (st := st_lowest) l_lowest c_lowest k_lowest
  have F_highest := fun_mk (st := st_highest) l_highest c_highest k_highest
  have F_l_source := fun_mk (st := st_l_source) l_l_source c_l_source k_l_source
  have F_l_pick := fun_mk (st := st_l_pick) l_l_pick c_l_pick k_l_pick
  have F_l_of := fun_mk (st := st_l_of) l_l_of c_l_of k_l_of
  have F_l_mixed := fun_mk (st := st_l_mixed) l_l_mixed c_l_mixed k_l_mixed
  have F_l_least := fun_mk (st := st_l_least) l_l_least c_l_least k_l_least
  have F_l_plus := fun_mk (st := st_l_plus) l_l_plus c_l_plus k_l_plus
  have F_l_great := fun_mk (st := st_l_great) l_l_great c_l_great k_l_great
  have F_l_drawn := fun_mk (st := st_l_drawn) l_l_drawn c_l_drawn k_l_drawn
  have F_l_pair_right := fun_mk (st := st_l_pair_right) l_l_pair_right c_l_pair_right k_l_pair_right
  have F_l_made_right := fun_mk (st := st_l_made_right) l_l_made_right c_l_made_right k_l_made_right
  have F_l_list_right := fun_mk (st := st_l_list_right) l_l_list_right c_l_list_right k_l_list_right
  have F_law := fun_mk (st := st_law) l_law c_law k_law
  have b_fraction_of := F_fraction_of.binds (ps := ["p", "q"]) fun _ _ _ _ _ _ us hl => match us, hl with | [_, _], _ => rfl
  have b_plus := F_plus.binds (ps := ["one", "other"]) fun _ _ _ _ _ _ us hl => match us, hl with | [_, _], _ => rfl
  have b_minus := F_minus.binds (ps := ["one", "other"]) fun _ _ _ _ _ _ us hl => match us, hl with | [_, _], _ => rfl
  have b_times := F_times.binds (ps := ["one", "other"]) fun _ _ _ _ _ _ us hl => match us, hl with | [_, _], _ => rfl
  have b_over := F_over.binds (ps := ["one", "other"]) fun _ _ _ _ _ _ us hl => match us, hl with | [_, _], _ => rfl
  have b_is_less := F_is_less.binds (ps := ["one", "other"]) fun _ _ _ _ _ _ us hl => match us, hl with | [_, _], _ => rfl
  have b_floor_of := F_floor_of.binds (ps := ["t"]) fun _ _ _ _ _ _ us hl => match us, hl with | [_], _ => rfl
  have b_ceiling_of := F_ceiling_of.binds (ps := ["t"]) fun _ _ _ _ _ _ us hl => match us, hl with | [_], _ => rfl
  have b_total := F_total.binds (ps := ["fractions"]) fun _ _ _ _ _ _ us hl => match us, hl with | [_], _ => rfl
  have b_lowest := F_lowest.binds (ps := ["fractions"]) fun _ _ _ _ _ _ us hl => match us, hl with | [_], _ => rfl
  have b_highest := F_highest.binds (ps := ["fractions"]) fun _ _ _ _ _ _ us hl => match us, hl with | [_], _ => rfl
  have b_l_source := F_l_source.binds (ps := ["script"]) fun _ _ _ _ _ _ us hl => match us, hl with | [_], _ => rfl
  have b_l_pick := F_l_pick.binds (ps := ["source", "many"]) fun _ _ _ _ _ _ us hl => match us, hl with | [_, _], _ => rfl
  have b_l_of := F_l_of.binds (ps := ["source", "some"]) fun _ _ _ _ _ _ us hl => match us, hl with | [_, _], _ => rfl
  have b_l_mixed := F_l_mixed.binds (ps := ["source", "things"]) fun _ _ _ _ _ _ us hl => match us, hl with | [_, _], _ => rfl
  have b_l_least := F_l_least.binds (ps := ["a", "b"]) fun _ _ _ _ _ _ us hl => match us, hl with | [_, _], _ => rfl
  have b_l_plus := F_l_plus.binds (ps := ["x", "y"]) fun _ _ _ _ _ _ us hl => match us, hl with | [_, _], _ => rfl
  have b_l_great := F_l_great.binds (ps := ["source", "figures"]) fun _ _ _ _ _ _ us hl => match us, hl with | [_, _], _ => rfl
  have b_l_drawn := F_l_drawn.binds (ps := ["source"]) fun _ _ _ _ _ _ us hl => match us, hl with | [_], _ => rfl
  have b_l_pair_right := F_l_pair_right.binds (ps := ["source", "x", "y"]) fun _ _ _ _ _ _ us hl => match us, hl with | [_, _, _], _ => rfl
  have b_l_made_right := F_l_made_right.binds (ps := ["source"]) fun _ _ _ _ _ _ us hl => match us, hl with | [_], _ => rfl
  have b_l_list_right := F_l_list_right.binds (ps := ["source"]) fun _ _ _ _ _ _ us hl => match us, hl with | [_], _ => rfl
  refine ⟨PySem.W.fnOf "law" "law" (defArgs st_law) (defBody st_law) (defScope st_law) .none kV_law dc_law pm_law an_law cd_law ct_law, fun s u => .of_eq rfl, fun base _ _ ND => ?_⟩
  have h_fraction_of : Has PySem.Challenge.rw_everygust_k01_fractions.prog w K mg base "fraction_of" 1 ["p", "q"] (spG mFr) := ⟨_, _, ok_fraction_of F_fraction_of T , PySem.W.mg_of X G a_fraction_of, k_fraction_of, b_fraction_of⟩
  have h_over : Has PySem.Challenge.rw_everygust_k01_fractions.prog w K mg base "over" 2 ["one", "other"] (spG mOver) := ⟨_, _, ok_over F_over T h_fraction_of, PySem.W.mg_of X G a_over, k_over, b_over⟩
  have h_plus : Has PySem.Challenge.rw_everygust_k01_fractions.prog w K mg base "plus" 2 ["one", "other"] (spG (mBin pl)) := ⟨_, _, ok_plus F_plus T h_fraction_of, PySem.W.mg_of X G a_plus, k_plus, b_plus⟩
  have h_total : Has PySem.Challenge.rw_everygust_k01_fractions.prog w K mg base "total" 3 ["fractions"] (spG mTotal) := ⟨_, _, ok_total F_total T h_plus, PySem.W.mg_of X G a_total, k_total, b_total⟩
  have h_is_less : Has PySem.Challenge.rw_everygust_k01_fractions.prog w K mg base "is_less" 1 ["one", "other"] (spG mLess) := ⟨_, _, ok_is_less F_is_less T , PySem.W.mg_of X G a_is_less, k_is_less, b_is_less⟩
  have h_floor_of : Has PySem.Challenge.rw_everygust_k01_fractions.prog w K mg base "floor_of" 1 ["t"] (spG mFloor) := ⟨_, _, ok_floor_of F_floor_of T , PySem.W.mg_of X G a_floor_of, k_floor_of, b_floor_of⟩
  have h_ceiling_of : Has PySem.Challenge.rw_everygust_k01_fractions.prog w K mg base "ceiling_of" 1 ["t"] (spG mCeil) := ⟨_, _, ok_ceiling_of F_ceiling_of T , PySem.W.mg_of X G a_ceiling_of, k_ceiling_of, b_ceiling_of⟩
  have h_l_source : Has PySem.Challenge.rw_everygust_k01_fractions.prog w K mg base "_law_source" 1 ["script"] (spSource K) := ⟨_, _, ok_source F_l_source T , PySem.W.mg_of X G a_l_source, k_l_source, b_l_source⟩
  have h_l_pick : Has PySem.Challenge.rw_everygust_k01_fractions.prog w K mg base "_law_pick" 1 ["source", "many"] (spG mPick) := ⟨_, _, ok_pick F_l_pick T , PySem.W.mg_of X G a_l_pick, k_l_pick, b_l_pick⟩
  have h_l_of : Has PySem.Challenge.rw_everygust_k01_fractions.prog w K mg base "_law_of" 2 ["source", "some"] (spG mOf) := ⟨_, _, ok_l_of F_l_of T h_l_pick, PySem.W.mg_of X G a_l_of, k_l_of, b_l_of⟩
  have h_l_least : Has PySem.Challenge.rw_everygust_k01_fractions.prog w K mg base "_law_least" 1 ["a", "b"] (spG mLeast) := ⟨_, _, ok_l_least F_l_least T , PySem.W.mg_of X G a_l_least, k_l_least, b_l_least⟩
  have h_l_great : Has PySem.Challenge.rw_everygust_k01_fractions.prog w K mg base "_law_great" 2 ["source", "figures"] (spG mGreat) := ⟨_, _, ok_l_great F_l_great T h_l_pick, PySem.W.mg_of X G a_l_great, k_l_great, b_l_great⟩
  have h_l_drawn : Has PySem.Challenge.rw_everygust_k01_fractions.prog w K mg base "_law_drawn" 3 ["source"] (spG mDrawn) := ⟨_, _, ok_l_drawn F_l_drawn T h_l_pick h_l_least h_l_great, PySem.W.mg_of X G a_l_drawn, k_l_drawn, b_l_drawn⟩
  have h_minus : Has PySem.Challenge.rw_everygust_k01_fractions.prog w K mg base "minus" 2 ["one", "other"] (spG (mBin mi)) := ⟨_, _, ok_minus F_minus T h_fraction_of, PySem.W.mg_of X G a_minus, k_minus, b_minus⟩
  have h_times : Has PySem.Challenge.rw_everygust_k01_fractions.prog w K mg base "times" 2 ["one", "other"] (spG (mBin tm)) := ⟨_, _, ok_times F_times T h_fraction_of, PySem.W.mg_of X G a_times, k_times, b_times⟩
  have h_l_plus : Has PySem.Challenge.rw_everygust_k01_fractions.prog w K mg base "_law_plus" 2 ["x", "y"] (spG (mBin pl)) := ⟨_, _, ok_l_plus F_l_plus T h_l_least, PySem.W.mg_of X G a_l_plus, k_l_plus, b_l_plus⟩
  have h_l_pair_right : HasG PySem.Challenge.rw_everygust_k01_fractions.prog w K mg base "_law_pair_right" 3 ["source", "x", "y"] (spG mPair) := ⟨_, _, ok_l_pair_right F_l_pair_right T h_plus.toG h_minus.toG h_times.toG h_over.toG h_is_less.toG h_floor_of.toG h_ceiling_of.toG h_l_least.toG h_l_plus.toG ND, PySem.W.mg_of X G a_l_pair_right, k_l_pair_right, b_l_pair_right⟩
  have h_l_made_right : HasG PySem.Challenge.rw_everygust_k01_fractions.prog w K mg base "_law_made_right" 3 ["source"] (spG mSrc) := ⟨_, _, ok_l_made_right F_l_made_right T h_fraction_of.toG h_l_pick.toG h_l_of.toG h_l_least.toG h_l_great.toG ND, PySem.W.mg_of X G a_l_made_right, k_l_made_right, b_l_made_right⟩
  have h_lowest : Has PySem.Challenge.rw_everygust_k01_fractions.prog w K mg base "lowest" 2 ["fractions"] (spG (mExt false)) := ⟨_, _, ok_lowest F_lowest T h_is_less, PySem.W.mg_of X G a_lowest, k_lowest, b_lowest⟩
  have h_highest : Has PySem.Challenge.rw_everygust_k01_fractions.prog w K mg base "highest" 2 ["fractions"] (spG (mExt true)) := ⟨_, _, ok_highest F_highest T h_is_less, PySem.W.mg_of X G a_highest, k_highest, b_highest⟩
  have h_l_mixed : Has PySem.Challenge.rw_everygust_k01_fractions.prog w K mg base "_law_mixed" 2 ["source", "things"] (spG mMixed) := ⟨_, _, ok_l_mixed F_l_mixed T h_l_pick, PySem.W.mg_of X G a_l_mixed, k_l_mixed, b_l_mixed⟩
  have h_l_list_right : HasG PySem.Challenge.rw_everygust_k01_fractions.prog w K mg base "_law_list_right" 4 ["source"] (spG mSrc) := ⟨_, _, ok_l_list_right F_l_list_right T h_total.toG h_lowest.toG h_highest.toG h_l_pick.toG h_l_of.toG h_l_mixed.toG h_l_plus.toG h_l_drawn.toG ND, PySem.W.mg_of X G a_l_list_right, k_l_list_right, b_l_list_right⟩
  exact ok_law F_law T h_over.toG h_total.toG h_floor_of.toG h_ceiling_of.toG h_is_less.toG h_l_drawn.toG h_l_of.toG h_l_pair_right h_l_made_right h_l_list_right h_l_source.toG ND
end K01
end
set_option Elab.async false
set_option linter.all false
set_option maxRecDepth 100000
set_option maxHeartbeats 0
open PySem PySem.W PyProof.Rows
theorem PySem.Challenge.cw_everygust_k01_fractions_holds : PySem.Challenge.rw_everygust_k01_fractions.Holds := by
  w_on; o_law; k_head; (case hw => w_witness2)
  k_fill
  refine K01.walk_ofG (l := PySem.Challenge.rw_everygust_k01_fractions) (n := 63) (k := 5) (sp := K01.spLaw) (x := "script") rfl (by decide) rfl ⟨rfl, by decide, by decide⟩ (fun w h Y => PySem.W.kIn_of Y) ?F (fun K H a ns short z => ⟨a, ns, rfl, z, short, fun _ => rfl⟩)
  case F =>
    intro w mg fa h KX G hmg
    refine' K01.all_mk KX G hmg ?a_fraction_of ?l_fraction_of ?c_fraction_of ?k_fraction_of ?a_plus ?l_plus ?c_plus ?k_plus ?a_minus ?l_minus ?c_minus ?k_minus ?a_times ?l_times ?c_times ?k_times ?a_over ?l_over ?c_over ?k_over ?a_is_less ?l_is_less ?c_is_less ?k_is_less ?a_floor_of ?l_floor_of ?c_floor_of ?k_floor_of ?a_ceiling_of ?l_ceiling_of ?c_ceiling_of ?k_ceiling_of ?a_total ?l_total ?c_total ?k_total ?a_lowest ?l_lowest ?c_lowest ?k_lowest ?a_highest ?l_highest ?c_highest ?k_highest ?a_l_source ?l_l_source ?c_l_source ?k_l_source ?a_l_pick ?l_l_pick ?c_l_pick ?k_l_pick ?a_l_of ?l_l_of ?c_l_of ?k_l_of ?a_l_mixed ?l_l_mixed ?c_l_mixed ?k_l_mixed ?a_l_least ?l_l_least ?c_l_least ?k_l_least ?a_l_plus ?l_l_plus ?c_l_plus ?k_l_plus ?a_l_great ?l_l_great ?c_l_great ?k_l_great ?a_l_drawn ?l_l_drawn ?c_l_drawn ?k_l_drawn ?a_l_pair_right ?l_l_pair_right ?c_l_pair_right ?k_l_pair_right ?a_l_made_right ?l_l_made_right ?c_l_made_right ?k_l_made_right ?a_l_list_right ?l_l_list_right ?c_l_list_right ?k_l_list_right ?a_law ?l_law ?c_law ?k_law ?z_len ?z_abs ?z_int ?z_max ?z_list ?z_tuple ?z_range ?z_repr ?z_all ?z_isinstance ?z_gcd
    (case a_fraction_of => k_is); (case l_fraction_of => k_is); (case c_fraction_of => k_is); (case k_fraction_of => k_is)
    (case a_plus => k_is); (case l_plus => k_is); (case c_plus => k_is); (case k_plus => k_is)
    (case a_minus => k_is); (case l_minus => k_is); (case c_minus => k_is); (case k_minus => k_is)
    (case a_times => k_is); (case l_times => k_is); (case c_times => k_is); (case k_times => k_is)
    (case a_over => k_is); (case l_over => k_is); (case c_over => k_is); (case k_over => k_is)
    (case a_is_less => k_is); (case l_is_less => k_is); (case c_is_less => k_is); (case k_is_less => k_is)
    (case a_floor_of => k_is); (case l_floor_of => k_is); (case c_floor_of => k_is); (case k_floor_of => k_is)
    (case a_ceiling_of => k_is); (case l_ceiling_of => k_is); (case c_ceiling_of => k_is); (case k_ceiling_of => k_is)
    (case a_total => k_is); (case l_total => k_is); (case c_total => k_is); (case k_total => k_is)
    (case a_lowest => k_is); (case l_lowest => k_is); (case c_lowest => k_is); (case k_lowest => k_is)
    (case a_highest => k_is); (case l_highest => k_is); (case c_highest => k_is); (case k_highest => k_is)
    (case a_l_source => k_is); (case l_l_source => k_is); (case c_l_source => k_is); (case k_l_source => k_is)
    (case a_l_pick => k_is); (case l_l_pick => k_is); (case c_l_pick => k_is); (case k_l_pick => k_is)
    (case a_l_of => k_is); (case l_l_of => k_is); (case c_l_of => k_is); (case k_l_of => k_is)
    (case a_l_mixed => k_is); (case l_l_mixed => k_is); (case c_l_mixed => k_is); (case k_l_mixed => k_is)
    (case a_l_least => k_is); (case l_l_least => k_is); (case c_l_least => k_is); (case k_l_least => k_is)
    (case a_l_plus => k_is); (case l_l_plus => k_is); (case c_l_plus => k_is); (case k_l_plus => k_is)
    (case a_l_great => k_is); (case l_l_great => k_is); (case c_l_great => k_is); (case k_l_great => k_is)
    (case a_l_drawn => k_is); (case l_l_drawn => k_is); (case c_l_drawn => k_is); (case k_l_drawn => k_is)
    (case a_l_pair_right => k_is); (case l_l_pair_right => k_is); (case c_l_pair_right => k_is); (case k_l_pair_right => k_is)
    (case a_l_made_right => k_is); (case l_l_made_right => k_is); (case c_l_made_right => k_is); (case k_l_made_right => k_is)
    (case a_l_list_right => k_is); (case l_l_list_right => k_is); (case c_l_list_right => k_is); (case k_l_list_right => k_is)
    (case a_law => k_is); (case l_law => k_is); (case c_law => k_is); (case k_law => k_is)
    (case z_len => k_is); (case z_abs => k_is); (case z_int => k_is); (case z_max => k_is)
    (case z_list => k_is); (case z_tuple => k_is); (case z_range => k_is); (case z_repr => k_is)
    (case z_all => k_is); (case z_isinstance => k_is); (case z_gcd => k_is)
