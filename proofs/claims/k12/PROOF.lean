import PyProof.Rows.All
import Wide.All
import OpenK.AllK
import Wide.FinOn
import HandS.ForMost
import HandS.Exc
import HandS.TryOnly
import HandS.TryMany
import HandS.IsInst
import HandS.Lambda
import HandS.TupAny
import HandS.Style
import HandS.Flow
import HandS.HeadHook4
import HandS.ExcInit
import HandS.WordsExc
import HandS.Wide
import HandS.WideBits
import HandS.TupMul
import HandS.Deep
import HandS.Text
import PyProof.ZipIter
import PyProof.CallType
import PyProof.Walk
import PyProof.WalkLemmas
import PyProof.RangeIter
import HandS.Iter
import HandS.Conv
import HandS.ClsMeth
import HandS.RaiseMore
import HandS.Strs
import HandS.SetFor
import HandS.ReCall
import HandS.TupLe
import HandS.Defaults
import HandS.Ends
import HandS.EndBits
import HandS.SortInts
import KE.GoesEnum
import KE.GoesMore
import KE.GoesZip
import HandS.Zip
import HandS.DictComp
import HandS.Head3
import HandS.HeadEnd
import PySem.Challenge.RW_threesfit_k12_orders_and_rows
set_option Elab.async false
set_option linter.all false
set_option maxRecDepth 100000
set_option maxHeartbeats 2000000
/-! Data behind the heap: what a value is as plain data (Rep), a def's outcome as a plain function (Mo), the frame's names as data (Stt). -/
namespace Cz
open PySem PySem.Spec PyProof.Rows L2

abbrev D := PyData
/-- an outcome: a value; an own exception by its class's name with its one field; no word -/
inductive Out (S α : Type) where
  | ok (a : α) (s : S)
  | ex (c : Str) (pl : Option (Str × D)) (s : S)
  | bad
abbrev Mo (S α : Type) := S → Out S α
section
variable {S α β γ : Type}
def mRet (a : α) : Mo S α := fun s => .ok a s
def mBad : Mo S α := fun _ => .bad
def mThr (c : Str) (pl : Option (Str × D)) : Mo S α := fun s => .ex c pl s
def mBnd (m : Mo S α) (f : α → Mo S β) : Mo S β := fun s => match m s with
  | .ok a s' => f a s'
  | .ex c pl s' => .ex c pl s'
  | .bad => .bad
def mOf : Option α → Mo S α
  | some a => mRet a
  | none => mBad
theorem mBnd_ok {m : Mo S α} {f : α → Mo S β} {s s' : S} {a : α} (h : m s = .ok a s') : mBnd m f s = f a s' := by unfold mBnd; rw [h]
theorem mBnd_ret {a : α} {f : α → Mo S β} : mBnd (mRet a) f = f a := rfl
theorem mBnd_some {a : α} {f : α → Mo S β} : mBnd (mOf (some a)) f = f a := rfl
theorem mBnd_assoc {m : Mo S α} {f : α → Mo S β} {g : β → Mo S γ} : mBnd (mBnd m f) g = mBnd m fun a => mBnd (f a) g := by
  funext s
  unfold mBnd
  cases m s <;> rfl
end

/-! ### values as data -/
def kD : Key → D
  | .inl i => .int i
  | .inr x => .str x
/-- a tuple, known to its object: it bears no dict -/
def TupD (H : Hp) (a : Addr) (xs : List V) : Prop := ∃ o : Obj, H a = some (.frz o (.tup xs)) ∧ o.dict = none
theorem TupD.sq {K : PySem.W.Frag} {H : Hp} {a : Addr} {xs : List V} (h : TupD H a xs) : SqT K H a xs := let ⟨o, h, _⟩ := h; .inl (.inr ⟨o, h⟩)
mutual
inductive Rep (K : PySem.W.Frag) (N : Addr → Prop) (H : Hp) : V → D → Prop
  | non : Rep K N H .non .none
  | bl (b : Bool) : Rep K N H (.bl b) (.bool b)
  | int (i : Int) : Rep K N H (.int i) (.int i)
  | str (x : Str) : Rep K N H (.str x) (.str x)
  | lst {a : Addr} {xs : List V} {ds : List D} (n : ¬ N a) (h : H a = some (.lst xs)) (r : Reps K N H xs ds) : Rep K N H (.ref a) (.list ds)
  | tup {a : Addr} {xs : List V} {ds : List D} (h : TupD H a xs) (r : Reps K N H xs ds) : Rep K N H (.ref a) (.tuple ds)
  | dic {a : Addr} {kvs : List (Key × V)} {es : List (D × D)} (n : ¬ N a) (h : H a = some (.dK kvs)) (r : Repk K N H kvs es) : Rep K N H (.ref a) (.dict es)
inductive Reps (K : PySem.W.Frag) (N : Addr → Prop) (H : Hp) : List V → List D → Prop
  | nil : Reps K N H [] []
  | cons {v : V} {vs : List V} {d : D} {ds : List D} (h : Rep K N H v d) (r : Reps K N H vs ds) : Reps K N H (v :: vs) (d :: ds)
inductive Repk (K : PySem.W.Frag) (N : Addr → Prop) (H : Hp) : List (Key × V) → List (D × D) → Prop
  | nil : Repk K N H [] []
  | cons {k : Key} {v : V} {vs : List (Key × V)} {d : D} {ds : List (D × D)} (h : Rep K N H v d) (r : Repk K N H vs ds) : Repk K N H ((k, v) :: vs) ((kD k, d) :: ds)
end

/-- what never changes once it stands -/
def fixd : HO → Bool
  | .tup _ => true
  | .frz _ _ => true
  | _ => false
def tblo : HO → Bool
  | .tbl _ => true
  | _ => false
def mutb : HO → Bool
  | .lst _ => true
  | .dK _ => true
  | .dT _ => true
  | .set _ _ => true
  | .ins _ _ _ => true
  | .tbl _ => true
  | _ => false
/-- all but what stands in M is as it was -/
structure Keep (M : Addr → Prop) (H H' : Hp) : Prop where
  st : ∀ a o, H a = some o → (¬ M a ∨ fixd o = true) → tblo o = false → H' a = some o
  al : ∀ a, H a ≠ none → H' a ≠ none
theorem Keep.refl {M : Addr → Prop} {H : Hp} : Keep M H H := ⟨fun _ _ h _ _ => h, fun _ h => h⟩
theorem Keep.trans {M : Addr → Prop} {H H1 H2 : Hp} (a : Keep M H H1) (b : Keep M H1 H2) : Keep M H H2 :=
  ⟨fun c o h n t => b.st c o (a.st c o h n t) n t, fun c h => b.al c (a.al c h)⟩
theorem Keep.mono {M M' : Addr → Prop} {H H' : Hp} (k : Keep M H H') (m : ∀ a, M a → M' a) : Keep M' H H' :=
  ⟨fun c o h n t => k.st c o h (n.imp (fun z q => z (m c q)) id) t, k.al⟩
theorem Keep.same {M : Addr → Prop} {H H' : Hp} (e : Same H H') : Keep M H H' :=
  ⟨fun a o h _ _ => e a o h, fun a h => by
    cases q : H a with
    | none => exact absurd q h
    | some o => rw [e a o q]; exact Option.some_ne_none _⟩
theorem same_new {H : Hp} {p : Addr} {o : HO} (h : H p = none) : Same H (upd H p o) := fun b u e => by
  rw [upd_ne (ne_of_none e h)]
  exact e
/-- a change at p -/
theorem Keep.at_ {M : Addr → Prop} {H : Hp} {p : Addr} {o u : HO} (hm : M p) (h : H p = some u) (f : fixd u = false) : Keep M H (upd H p o) := by
  refine ⟨fun a w e n t => ?_, fun a e => ?_⟩
  · by_cases ha : a = p
    · subst ha
      rw [h] at e
      cases e
      rcases n with n | n
      · exact absurd hm n
      · rw [f] at n; cases n
    · rw [upd_ne ha]; exact e
  · by_cases ha : a = p
    · subst ha; rw [upd_same]; exact Option.some_ne_none _
    · rw [upd_ne ha]; exact e

section
variable {K : PySem.W.Frag} {N N' M : Addr → Prop} {H H' : Hp}
theorem SqT.keep {a : Addr} {xs : List V} (k : Keep M H H') (h : SqT K H a xs) : SqT K H' a xs := by
  rcases h with (h | ⟨o, h⟩) | h
  · exact .inl (.inl (k.st a _ h (.inr rfl) rfl))
  · exact .inl (.inr ⟨o, k.st a _ h (.inr rfl) rfl⟩)
  · exact .inr h
theorem TupD.keep {a : Addr} {xs : List V} (k : Keep M H H') (h : TupD H a xs) : TupD H' a xs := let ⟨o, h, d⟩ := h; ⟨o, k.st a _ h (.inr rfl) rfl, d⟩
mutual
theorem Rep.keep (hM : ∀ a, M a → N a) (hN : ∀ a, N' a → N a) (k : Keep M H H') : ∀ (d : D) (v : V), Rep K N H v d → Rep K N' H' v d
  | .none, _, h => by cases h; exact .non
  | .bool b, _, h => by cases h; exact .bl b
  | .int i, _, h => by cases h; exact .int i
  | .str x, _, h => by cases h; exact .str x
  | .list ds, _, h => by
    cases h with
    | lst n h r => exact .lst (fun z => n (hN _ z)) (k.st _ _ h (.inl fun z => n (hM _ z)) rfl) (Reps.keep hM hN k ds _ r)
  | .tuple ds, _, h => by
    cases h with
    | tup h r => exact .tup (TupD.keep k h) (Reps.keep hM hN k ds _ r)
  | .dict es, _, h => by
    cases h with
    | dic n h r => exact .dic (fun z => n (hN _ z)) (k.st _ _ h (.inl fun z => n (hM _ z)) rfl) (Repk.keep hM hN k es _ r)
theorem Reps.keep (hM : ∀ a, M a → N a) (hN : ∀ a, N' a → N a) (k : Keep M H H') : ∀ (ds : List D) (vs : List V), Reps K N H vs ds → Reps K N' H' vs ds
  | [], _, h => by cases h; exact .nil
  | d :: ds, _, h => by
    cases h with
    | cons h r => exact .cons (Rep.keep hM hN k d _ h) (Reps.keep hM hN k ds _ r)
theorem Repk.keep (hM : ∀ a, M a → N a) (hN : ∀ a, N' a → N a) (k : Keep M H H') : ∀ (es : List (D × D)) (vs : List (Key × V)), Repk K N H vs es → Repk K N' H' vs es
  | [], _, h => by cases h; exact .nil
  | (dk, d) :: es, _, h => by
    cases h with
    | cons h r => exact .cons (Rep.keep hM hN k d _ h) (Repk.keep hM hN k es _ r)
end
theorem Reps.len : ∀ {vs : List V} {ds : List D}, Reps K N H vs ds → vs.length = ds.length
  | _, _, .nil => rfl
  | _, _, .cons _ r => by simp [Reps.len r]
theorem Reps.get : ∀ {vs : List V} {ds : List D} {i : Nat} {d : D}, Reps K N H vs ds → ds[i]? = some d → ∃ v, vs[i]? = some v ∧ Rep K N H v d
  | _, _, _, _, .nil, e => by simp at e
  | _, _, 0, _, .cons h _, e => by
    simp at e
    subst e
    exact ⟨_, by simp, h⟩
  | _, _, i + 1, d, .cons _ r, e => by
    obtain ⟨v, e1, h⟩ := Reps.get (i := i) (d := d) r (by simpa using e)
    exact ⟨v, by simpa using e1, h⟩
theorem Reps.app : ∀ {vs ws : List V} {ds es : List D}, Reps K N H vs ds → Reps K N H ws es → Reps K N H (vs ++ ws) (ds ++ es)
  | _, _, _, _, .nil, h => h
  | _, _, _, _, .cons h r, q => .cons h (Reps.app r q)
theorem Reps.take : ∀ {vs : List V} {ds : List D} (n : Nat), Reps K N H vs ds → Reps K N H (vs.take n) (ds.take n)
  | _, _, 0, _ => by simpa using Reps.nil
  | _, _, _ + 1, .nil => by simpa using Reps.nil
  | _, _, n + 1, .cons h r => .cons h (Reps.take n r)
theorem Reps.drop : ∀ {vs : List V} {ds : List D} (n : Nat), Reps K N H vs ds → Reps K N H (vs.drop n) (ds.drop n)
  | _, _, 0, h => h
  | _, _, _ + 1, .nil => .nil
  | _, _, n + 1, .cons _ r => Reps.drop n r
theorem Reps.erase : ∀ {vs : List V} {ds : List D} (n : Nat), Reps K N H vs ds → Reps K N H (vs.eraseIdx n) (ds.eraseIdx n)
  | _, _, _, .nil => .nil
  | _, _, 0, .cons _ r => r
  | _, _, n + 1, .cons h r => .cons h (Reps.erase n r)
theorem Reps.setAt : ∀ {vs : List V} {ds : List D} {v : V} {d : D} (n : Nat), Reps K N H vs ds → Rep K N H v d → Reps K N H (vs.set n v) (ds.set n d)
  | _, _, _, _, _, .nil, _ => .nil
  | _, _, _, _, 0, .cons _ r, h => .cons h r
  | _, _, _, _, n + 1, .cons q r, h => .cons q (Reps.setAt n r h)
theorem Reps.rev {vs : List V} {ds : List D} (h : Reps K N H vs ds) : Reps K N H vs.reverse ds.reverse := by
  induction vs generalizing ds with
  | nil => cases h; exact .nil
  | cons v vs ih =>
    cases h with
    | cons q r =>
      rw [List.reverse_cons, List.reverse_cons]
      exact (ih r).app (.cons q .nil)
theorem Reps.rep {vs : List V} {ds : List D} (h : Reps K N H vs ds) : ∀ n : Nat, Reps K N H (List.replicate n vs).flatten (List.replicate n ds).flatten
  | 0 => .nil
  | n + 1 => by
    rw [List.replicate_succ, List.replicate_succ, List.flatten_cons, List.flatten_cons]
    exact h.app (Reps.rep h n)
theorem Reps.ints : ∀ {vs : List V} {ns : List Int}, Reps K N H vs (ns.map .int) → vs = ns.map V.int
  | _, [], .nil => rfl
  | _, n :: ns, .cons h r => by
    cases h
    rw [Reps.ints r]; rfl
theorem Reps.of_ints : ∀ ns : List Int, Reps K N H (ns.map V.int) (ns.map .int)
  | [] => .nil
  | n :: ns => .cons (.int n) (Reps.of_ints ns)
theorem Reps.bls : ∀ {vs : List V} {bs : List Bool}, Reps K N H vs (bs.map .bool) → vs = bs.map V.bl
  | _, [], .nil => rfl
  | _, b :: bs, .cons h r => by
    cases h
    rw [Reps.bls r]; rfl
theorem Reps.strs : ∀ {vs : List V} {xs : List Str}, Reps K N H vs (xs.map .str) → vs = xs.map V.str
  | _, [], .nil => rfl
  | _, x :: xs, .cons h r => by
    cases h
    rw [Reps.strs r]; rfl
theorem Reps.of_strs : ∀ xs : List Str, Reps K N H (xs.map V.str) (xs.map .str)
  | [] => .nil
  | x :: xs => .cons (.str x) (Reps.of_strs xs)
end

/-! ### the state beside the frame: what defs share (a law's deck) -/
structure Wd (S : Type) where
  /-- where it stands -/
  M : Addr → Prop
  ok : S → Hp → Prop
  /-- the objects that have a number -/
  nm : Nat → Option Addr
  live : ∀ {s H a}, ok s H → M a → H a ≠ none
  ext : ∀ {s H H'}, ok s H → (∀ a o, H a = some o → (M a ∨ mutb o = false) → H' a = some o) → ok s H'
theorem Wd.same {S : Type} (W : Wd S) {s : S} {H H' : Hp} (h : W.ok s H) (e : Same H H') : W.ok s H' := W.ext h fun a o q _ => e a o q

/-- the worlds that a law's defs share -/
class WCl (S : Type) where
  cl : Wd S → Prop
/-- a frame's surroundings: the shared state; B, what is tracked and neither read nor written here; H0, the heap at the entry -/
structure Cf (S : Type) [WCl S] where
  W : Wd S
  hW : WCl.cl W
  B : Addr → Prop
  H0 : Hp
abbrev Ows := Nat → Option Addr
/-- a name's content: data; a list of its own that may grow; a numbered object -/
inductive DV where
  | v (d : D)
  | own (ds : List D)
  | opq (n : Nat)
abbrev En := List (Option DV)
section
variable {S : Type} [WCl S]
def Cf.Mw (c : Cf S) (ow : Ows) : Addr → Prop := fun a => c.W.M a ∨ ∃ i, ow i = some a
def Cf.Nn (c : Cf S) (ow : Ows) : Addr → Prop := fun a => c.W.M a ∨ c.B a ∨ ∃ i, ow i = some a
def Cf.N0 (c : Cf S) : Addr → Prop := fun a => c.W.M a ∨ c.B a
def SlotOk (K : PySem.W.Frag) (c : Cf S) (ow : Ows) (H : Hp) (i : Nat) (x : Option V) : DV → Prop
  | .v d => ∃ v, x = some v ∧ Rep K (c.Nn ow) H v d
  | .own ds => ∃ p xs, x = some (.ref p) ∧ ow i = some p ∧ H p = some (.lst xs) ∧ Reps K (c.Nn ow) H xs ds
  | .opq n => ∃ a, x = some (.ref a) ∧ c.W.nm n = some a
structure Stt (K : PySem.W.Frag) (c : Cf S) (ow : Ows) (ρ : En) (σ : L2.St) (H : Hp) (s : S) : Prop where
  ok : c.W.ok s H
  kp : Keep c.W.M c.H0 H
  bl : ∀ a, c.B a → H a ≠ none
  ows : ∀ i p, ow i = some p → ¬ c.W.M p ∧ ¬ c.B p ∧ H p ≠ none ∧ c.H0 p = none
  inj : ∀ i j p, ow i = some p → ow j = some p → i = j
  ln : σ.length = ρ.length
  sl : ∀ i dv, ρ[i]? = some (some dv) → SlotOk K c ow H i (σ[i]?.join) dv
variable {K : PySem.W.Frag} {c : Cf S} {ow : Ows} {ρ ρ' : En} {σ : L2.St} {H H' : Hp} {s s' : S}
theorem Cf.MN (c : Cf S) (ow : Ows) : ∀ a, c.W.M a → c.Nn ow a := fun _ h => .inl h
theorem Cf.MwN (c : Cf S) (ow : Ows) : ∀ a, c.Mw ow a → c.Nn ow a := fun _ h => h.elim .inl fun z => .inr (.inr z)
theorem Cf.N0N (c : Cf S) (ow : Ows) : ∀ a, c.N0 a → c.Nn ow a := fun _ h => h.elim .inl fun z => .inr (.inl z)
theorem Rep.keepM {v : V} {d : D} (h : Rep K (c.Nn ow) H v d) (k : Keep c.W.M H H') : Rep K (c.Nn ow) H' v d := Rep.keep (c.MN ow) (fun _ z => z) k _ _ h
theorem Reps.keepM {v : List V} {d : List D} (h : Reps K (c.Nn ow) H v d) (k : Keep c.W.M H H') : Reps K (c.Nn ow) H' v d := Reps.keep (c.MN ow) (fun _ z => z) k _ _ h
theorem Rep.keepW {v : V} {d : D} (h : Rep K (c.Nn ow) H v d) (k : Keep (c.Mw ow) H H') : Rep K (c.Nn ow) H' v d := Rep.keep (c.MwN ow) (fun _ z => z) k _ _ h
theorem Rep.keepS {N : Addr → Prop} {v : V} {d : D} (h : Rep K N H v d) (e : Same H H') : Rep K N H' v d := Rep.keep (M := fun _ => False) (fun _ z => z.elim) (fun _ z => z) (Keep.same e) _ _ h
theorem Reps.keepS {N : Addr → Prop} {v : List V} {d : List D} (h : Reps K N H v d) (e : Same H H') : Reps K N H' v d := Reps.keep (M := fun _ => False) (fun _ z => z.elim) (fun _ z => z) (Keep.same e) _ _ h
theorem Rep.sub {N N' : Addr → Prop} {v : V} {d : D} (h : Rep K N H v d) (e : ∀ a, N' a → N a) : Rep K N' H v d := Rep.keep (M := fun _ => False) (fun _ z => z.elim) e Keep.refl _ _ h
theorem Reps.sub {N N' : Addr → Prop} {v : List V} {d : List D} (h : Reps K N H v d) (e : ∀ a, N' a → N a) : Reps K N' H v d := Reps.keep (M := fun _ => False) (fun _ z => z.elim) e Keep.refl _ _ h
theorem SlotOk.keepM {i : Nat} {x : Option V} {dv : DV} (h : SlotOk K c ow H i x dv) (k : Keep c.W.M H H') (ho : ∀ i p, ow i = some p → ¬ c.W.M p) : SlotOk K c ow H' i x dv := by
  cases dv with
  | v d =>
    obtain ⟨v, e, r⟩ := h
    exact ⟨v, e, r.keepM k⟩
  | own ds =>
    obtain ⟨p, xs, e, eo, hp, r⟩ := h
    exact ⟨p, xs, e, eo, k.st p _ hp (.inl (ho i p eo)) rfl, r.keepM k⟩
  | opq n => exact h
/-- behind an expression -/
theorem Stt.move (h : Stt K c ow ρ σ H s) (k : Keep c.W.M H H') (o : c.W.ok s' H') : Stt K c ow ρ σ H' s' where
  ok := o
  kp := h.kp.trans k
  bl := fun a b => k.al a (h.bl a b)
  ows := fun i p e => let ⟨a, b, d, f⟩ := h.ows i p e; ⟨a, b, k.al p d, f⟩
  inj := h.inj
  ln := h.ln
  sl := fun i dv e => (h.sl i dv e).keepM k fun i p e => (h.ows i p e).1
theorem Stt.fresh (h : Stt K c ow ρ σ H s) {p : Addr} (n : H p = none) : ¬ c.Nn ow p := by
  rintro (z | z | ⟨i, z⟩)
  · exact c.W.live h.ok z n
  · exact h.bl p z n
  · exact (h.ows i p z).2.2.1 n
theorem Stt.fresh0 (h : Stt K c ow ρ σ H s) {p : Addr} (n : H p = none) : c.H0 p = none := by
  cases e : c.H0 p with
  | none => rfl
  | some o => exact absurd n (h.kp.al p (by rw [e]; exact Option.some_ne_none _))
theorem Stt.new (h : Stt K c ow ρ σ H s) {p : Addr} {o : HO} (n : H p = none) : Keep c.W.M H (upd H p o) ∧ c.W.ok s (upd H p o) := ⟨Keep.same (same_new n), c.W.same h.ok (same_new n)⟩
end
end Cz
set_option Elab.async false
set_option linter.all false
set_option maxRecDepth 100000
set_option maxHeartbeats 2000000
/-! Expressions as plain functions: JE. -/
namespace Cz
open PySem PySem.Spec PyProof.Rows L2

/-- what an outcome is to satisfy -/
def Out.post {S α : Type} (o : Out S α) (P : α → S → Prop) (X : Str → Option (Str × D) → S → Prop) : Prop := match o with
  | .ok a s => P a s
  | .ex c pl s => X c pl s
  | .bad => False
/-- an exception's dict: its one field -/
def Exo (K : PySem.W.Frag) (N : Addr → Prop) (H : Hp) (pl : Option (Str × D)) (dx : Option Addr) : Prop := match pl with
  | none => dx = none
  | some (f, d) => ∃ a v, dx = some a ∧ H a = some (.xd [(f, v)]) ∧ Rep K N H v d
section
variable {S : Type} [WCl S]
/-- a list of one's own may be read, where nothing keeps it -/
def RepX (b : Bool) (K : PySem.W.Frag) (c : Cf S) (ow : Ows) (H : Hp) (v : V) (d : D) : Prop :=
  Rep K (c.Nn ow) H v d ∨ (b = true ∧ ∃ i p xs ds, ow i = some p ∧ v = .ref p ∧ d = .list ds ∧ H p = some (.lst xs) ∧ Reps K (c.Nn ow) H xs ds)
def Cont (b : Bool) (K : PySem.W.Frag) (c : Cf S) (E : XK) (ow : Ows) (H : Hp) (o : Out S D) (Q : VK) : Prop :=
  o.post (fun d s' => ∀ v H', Keep c.W.M H H' → c.W.ok s' H' → RepX b K c ow H' v d → Q v H')
    (fun C pl s' => ∀ dx H', Keep c.W.M H H' → c.W.ok s' H' → Exo K c.N0 H' pl dx → E (.ref (He.ga K C)) dx H')
def tE (b : Bool) (K : PySem.W.Frag) (c : Cf S) (E : XK) (ρ : En) (m : Mo S D) : TE := fun σ H Q => ∃ ow s, Stt K c ow ρ σ H s ∧ Cont b K c E ow H (m s) Q
/-- THE JUDGEMENT: the expression e, the names being ρ, does what m does -/
def JE (b : Bool) (X : Cx) (c : Cf S) (E : XK) (ρ : En) (e : Expr) (m : Mo S D) : Prop := PE X e (tE b X.K c E ρ m)
variable {b b' : Bool} {X : Cx} {K : PySem.W.Frag} {c : Cf S} {E : XK} {ρ : En} {e e1 e2 : Expr} {m m1 m2 : Mo S D} {ow : Ows} {σ : L2.St} {H H1 : Hp} {s : S} {Q : VK}

theorem RepX.keepM {v : V} {d : D} {H' : Hp} (h : RepX b K c ow H v d) (k : Keep c.W.M H H') (T : Stt K c ow ρ σ H s) : RepX b K c ow H' v d := by
  rcases h with h | ⟨e, i, p, xs, ds, h1, h2, h3, h4, h5⟩
  · exact .inl (h.keepM k)
  · exact .inr ⟨e, i, p, xs, ds, h1, h2, h3, k.st p _ h4 (.inl (T.ows i p h1).1) rfl, h5.keepM k⟩
theorem RepX.up {v : V} {d : D} (h : RepX b K c ow H v d) : RepX true K c ow H v d := h.imp id fun ⟨_, z⟩ => ⟨rfl, z⟩
theorem RepX.of {v : V} {d : D} (h : Rep K (c.Nn ow) H v d) : RepX b K c ow H v d := .inl h
theorem RepX.val {v : V} {d : D} (h : RepX false K c ow H v d) : Rep K (c.Nn ow) H v d := h.elim id fun ⟨z, _⟩ => by cases z
theorem RepX.list {v : V} {ds : List D} (h : RepX b K c ow H v (.list ds)) : ∃ p xs, v = .ref p ∧ H p = some (.lst xs) ∧ Reps K (c.Nn ow) H xs ds := by
  rcases h with h | ⟨_, i, p, xs, ds', h1, h2, h3, h4, h5⟩
  · cases h with
    | lst n h r => exact ⟨_, _, rfl, h, r⟩
  · cases h3
    exact ⟨p, xs, h2, h4, h5⟩
theorem RepX.tupD {v : V} {ds : List D} (h : RepX b K c ow H v (.tuple ds)) : ∃ p xs, v = .ref p ∧ TupD H p xs ∧ Reps K (c.Nn ow) H xs ds := by
  rcases h with h | ⟨_, i, p, xs, ds', h1, h2, h3, h4, h5⟩
  · cases h with
    | tup h r => exact ⟨_, _, rfl, h, r⟩
  · cases h3
theorem RepX.tuple {v : V} {ds : List D} (h : RepX b K c ow H v (.tuple ds)) : ∃ p xs, v = .ref p ∧ SqT K H p xs ∧ Reps K (c.Nn ow) H xs ds := let ⟨p, xs, e, h, r⟩ := h.tupD; ⟨p, xs, e, h.sq, r⟩
theorem RepX.int {v : V} {i : Int} (h : RepX b K c ow H v (.int i)) : v = .int i := by
  rcases h with h | ⟨_, i, p, xs, ds', h1, h2, h3, h4, h5⟩
  · cases h; rfl
  · cases h3
theorem RepX.bl {v : V} {i : Bool} (h : RepX b K c ow H v (.bool i)) : v = .bl i := by
  rcases h with h | ⟨_, i, p, xs, ds', h1, h2, h3, h4, h5⟩
  · cases h; rfl
  · cases h3
theorem RepX.str {v : V} {i : Str} (h : RepX b K c ow H v (.str i)) : v = .str i := by
  rcases h with h | ⟨_, i, p, xs, ds', h1, h2, h3, h4, h5⟩
  · cases h; rfl
  · cases h3
theorem RepX.non {v : V} (h : RepX b K c ow H v .none) : v = .non := by
  rcases h with h | ⟨_, i, p, xs, ds', h1, h2, h3, h4, h5⟩
  · cases h; rfl
  · cases h3
theorem RepX.dict {v : V} {es : List (D × D)} (h : RepX b K c ow H v (.dict es)) : ∃ p kvs, v = .ref p ∧ H p = some (.dK kvs) ∧ Repk K (c.Nn ow) H kvs es := by
  rcases h with h | ⟨_, i, p, xs, ds', h1, h2, h3, h4, h5⟩
  · cases h with
    | dic n h r => exact ⟨_, _, rfl, h, r⟩
  · cases h3

theorem Cont.move {o : Out S D} (h : Cont b K c E ow H o Q) (k : Keep c.W.M H H1) : Cont b K c E ow H1 o Q := by
  cases o with
  | ok d s => exact fun v H' k' => h v H' (k.trans k')
  | ex C pl s => exact fun dx H' k' => h dx H' (k.trans k')
  | bad => exact h
/-- a part first -/
theorem bnd_at {f : D → Mo S D} {R : VK} (T : Stt K c ow ρ σ H s) (q : Cont b' K c E ow H (mBnd m f s) Q)
    (go : ∀ d s1 v H1, Keep c.W.M H H1 → Stt K c ow ρ σ H1 s1 → RepX b K c ow H1 v d → Cont b' K c E ow H1 (f d s1) Q → R v H1) : tE b K c E ρ m σ H R := by
  refine ⟨ow, s, T, ?_⟩
  unfold mBnd at q
  cases e : m s with
  | ok d s1 =>
    rw [e] at q
    exact fun v H1 k o r => go d s1 v H1 k (T.move k o) r (Cont.move q k)
  | ex C pl s1 =>
    rw [e] at q
    exact q
  | bad =>
    rw [e] at q
    exact q
theorem of_done {o : Option D} (T : Stt K c ow ρ σ H s) (q : Cont b K c E ow H (mOf o s) Q) : ∃ d, o = some d ∧ ∀ v H', Keep c.W.M H H' → c.W.ok s H' → RepX b K c ow H' v d → Q v H' := by
  cases o with
  | none => exact q.elim
  | some d => exact ⟨d, rfl, q⟩
/-- the end: a value that stands as it is -/
theorem done_val {d : D} {v : V} (T : Stt K c ow ρ σ H s) (q : ∀ v H', Keep c.W.M H H' → c.W.ok s H' → RepX b K c ow H' v d → Q v H') (r : Rep K (c.Nn ow) H v d) : Q v H := q v H .refl T.ok (.inl r)
/-- .. a new object -/
theorem done_new {d : D} {p : Addr} {o : HO} (T : Stt K c ow ρ σ H s) (q : ∀ v H', Keep c.W.M H H' → c.W.ok s H' → RepX b K c ow H' v d → Q v H') (n : H p = none)
    (r : Rep K (c.Nn ow) (upd H p o) (.ref p) d) : Q (.ref p) (upd H p o) := q _ _ (T.new n).1 (T.new n).2 (.inl r)
theorem rep_lst {p : Addr} {xs : List V} {ds : List D} (T : Stt K c ow ρ σ H s) (n : H p = none) (r : Reps K (c.Nn ow) H xs ds) : Rep K (c.Nn ow) (upd H p (.lst xs)) (.ref p) (.list ds) :=
  .lst (T.fresh n) upd_same (r.keepS (same_new n))
theorem rep_tup {p : Addr} {xs : List V} {ds : List D} {o : Obj} (d : o.dict = none) (n : H p = none) (r : Reps K (c.Nn ow) H xs ds) : Rep K (c.Nn ow) (upd H p (.frz o (.tup xs))) (.ref p) (.tuple ds) :=
  .tup ⟨o, upd_same, d⟩ (r.keepS (same_new n))
/-- a new tuple's object -/
theorem laidT {X : Cx} {pins : List (Addr × Obj)} {σ : L2.St} {H : Hp} {s : Shared} {h' : Heap} {t' : Nat} {a : Addr} {us : List Value} {xs : List V} (I : L2.Inv X pins σ H s) (k : ∀ b u, s.heap.get? b = some u → h'.get? b = some u) (ha : s.heap.objs.size ≤ a)
    (ho : h'.get? a = some { cls := .type "tuple", data := .seq us.toArray }) (rv : Vals xs us) (hz : xs.length ≤ sizeLine) :
    L2.Inv X pins σ (upd H a (.frz { cls := .type "tuple", data := .seq us.toArray } (.tup xs))) { s with heap := h', toks := t' } :=
  I.laid k ha ⟨ho, hz, us, rv, ⟨_, ho, rfl, _, rfl⟩⟩
/-- the display -/
def tTupF (t : TA) : TE := fun σ H Q => t σ H fun xs H1 => xs.length ≤ sizeLine ∧ ∀ p o, H1 p = none → o.dict = none → Q (.ref p) (upd H1 p (.frz o (.tup xs)))
theorem pe_tupF {X : Cx} {es : List Expr} {t : TA} {pos : Pos} {x1} (h : PA X es t) : PE X (.Tuple es x1 pos) (tTupF t) :=
  ⟨fun pins s σ H Q I hq => wpAny_Tuple_spliced (thn (h.run pos pins s σ H _ I hq) fun us s1 ⟨xs, H1, I1, rv, z, q⟩ => ⟨by rw [← rv.length]; exact z,
    ⟨.ref s1.heap.objs.size, _, laidT (t' := s1.toks) I1 (fun b u e => Heap.get?_push_of_some _ e) (Nat.le_refl _) (Heap.get?_push_size _ rfl) rv z, rfl, q _ _ (I1.hok.fresh (Nat.le_refl _)) rfl⟩⟩)⟩

theorem JE.of {t : TE} (h : PE X e t) (w : ∀ σ H Q, tE b X.K c E ρ m σ H Q → t σ H Q) : JE b X c E ρ e m := ⟨fun pins s σ H Q I q => h.run pins s σ H Q I (w σ H Q q)⟩
theorem JE.up (h : JE false X c E ρ e m) : JE b X c E ρ e m := JE.of h fun σ H Q ⟨ow, s, T, q⟩ => by
  refine ⟨ow, s, T, ?_⟩
  cases z : m s with
  | ok d s1 =>
    rw [z] at q
    exact fun v H' k o r => q v H' k o (.inl r.val)
  | ex C pl s1 => rw [z] at q; exact q
  | bad => rw [z] at q; exact q
/-- a closed value -/
theorem JE.con {v : V} {d : D} (h : PE X e (tC v)) (r : ∀ N H, Rep X.K N H v d) : JE b X c E ρ e (mRet d) := JE.of h fun σ H Q ⟨ow, s, T, q⟩ => q v H .refl T.ok (.inl (r _ _))
theorem je_int {i : Int} {j pos} : JE b X c E ρ (.Constant (.int i) j pos) (mRet (.int i)) := JE.con pe_int fun _ _ => .int i
theorem je_str {i : Str} {j pos} : JE b X c E ρ (.Constant (.str i) j pos) (mRet (.str i)) := JE.con pe_str fun _ _ => .str i
theorem je_bl {i : Bool} {j pos} : JE b X c E ρ (.Constant (.bool i) j pos) (mRet (.bool i)) := JE.con pe_bl fun _ _ => .bl i
theorem je_non {j pos} : JE b X c E ρ (.Constant .none j pos) (mRet .none) := JE.con pe_non fun _ _ => .non
theorem join_some {i : Nat} {v : V} (e : σ[i]?.join = some v) : σ[i]? = some (some v) := by
  cases h : σ[i]? with
  | none => rw [h] at e; cases e
  | some o =>
    rw [h] at e
    cases o with
    | none => cases e
    | some w => cases e; rfl
theorem je_var (i : Nat) {x : Str} {d : D} {pos : Pos} (hρ : ρ[i]? = some (some (.v d))) (hN : X.N[i]? = some x := by rfl) (hv : Vis X.env.scope x := by first | exact .inl rfl | exact .inr (.inl rfl) | exact .inr (.inr rfl))
    (hd : (x == ("__debug__" : Str)) = false := by decide) (hcd : (x == ("__classdict__" : Str)) = false := by decide) : JE b X c E ρ (.Name x pos) (mRet d) :=
  JE.of (pe_var hN hv hd hcd) fun σ H Q ⟨ow, s, T, q⟩ => by
    obtain ⟨v, e, r⟩ := T.sl i _ hρ
    exact ⟨v, join_some e, q v H .refl T.ok (.inl r)⟩
/-- a list of one's own, to be read at once -/
theorem je_own (i : Nat) {x : Str} {ds : List D} {pos : Pos} (hρ : ρ[i]? = some (some (.own ds))) (hN : X.N[i]? = some x := by rfl) (hv : Vis X.env.scope x := by first | exact .inl rfl | exact .inr (.inl rfl) | exact .inr (.inr rfl))
    (hd : (x == ("__debug__" : Str)) = false := by decide) (hcd : (x == ("__classdict__" : Str)) = false := by decide) : JE true X c E ρ (.Name x pos) (mRet (.list ds)) :=
  JE.of (pe_var hN hv hd hcd) fun σ H Q ⟨ow, s, T, q⟩ => by
    obtain ⟨p, xs, e, ho, hp, r⟩ := T.sl i _ hρ
    exact ⟨_, join_some e, q _ H .refl T.ok (.inr ⟨rfl, i, p, xs, ds, ho, rfl, rfl, hp, r⟩)⟩

/-! ### operations of two values -/
/-- r, on data, is g -/
def OkR2 (K : PySem.W.Frag) (r : R2) (g : D → D → Option D) : Prop := ∀ {S : Type} [WCl S] {c : Cf S} {ow ρ σ H s x y dx dy d Q}, Stt (S := S) K c ow ρ σ H s → RepX true K c ow H x dx → RepX true K c ow H y dy → g dx dy = some d →
  (∀ v H', Same H H' → Rep K (c.Nn ow) H' v d → Q v H') → r x y H Q
theorem ok2_run {r : R2} {g : D → D → Option D} (hg : OkR2 K r g) {x y : V} {dx dy : D} (T : Stt K c ow ρ σ H s) (rx : RepX true K c ow H x dx) (ry : RepX true K c ow H y dy) (q : Cont b K c E ow H (mOf (g dx dy) s) Q) : r x y H Q := by
  obtain ⟨d, e, q⟩ := of_done T q
  exact hg T rx ry e fun v H' k rv => q v H' (.same k) (c.W.same T.ok k) (.inl rv)
/-- two operands, one after the other -/
theorem two_at {b1 b2 : Bool} {f : D → D → Mo S D} {R : V → V → Hp → Prop} (T : Stt K c ow ρ σ H s) (q : Cont b K c E ow H (mBnd m1 (fun x => mBnd m2 fun y => f x y) s) Q)
    (go : ∀ dx dy s2 x y H2, Keep c.W.M H H2 → Stt K c ow ρ σ H2 s2 → RepX true K c ow H2 x dx → RepX true K c ow H2 y dy → Cont b K c E ow H2 (f dx dy s2) Q → R x y H2) :
    tE b1 K c E ρ m1 σ H fun x H1 => tE b2 K c E ρ m2 σ H1 fun y H2 => R x y H2 :=
  bnd_at T q fun dx s1 x H1 k1 St1 r1 q1 => bnd_at St1 q1 fun dy s2 y H2 k2 St2 r2 q2 => go dx dy s2 x y H2 (k1.trans k2) St2 (r1.up.keepM k2 St1) r2.up q2
theorem je_bin {b1 b2 : Bool} {op : Operator} {r : R2} {g : D → D → Option D} {pos : Pos} (ho : OpR X (binaryOp op) r) (hg : OkR2 X.K r g) (h1 : JE b1 X c E ρ e1 m1) (h2 : JE b2 X c E ρ e2 m2) :
    JE b X c E ρ (.BinOp e1 op e2 pos) (mBnd m1 fun x => mBnd m2 fun y => mOf (g x y)) :=
  JE.of (pe_op ho h1 h2) fun σ H Q ⟨ow, s, T, q⟩ => two_at T q fun dx dy s2 x y H2 k St2 rx ry q2 => ok2_run hg St2 rx ry q2
theorem je_cmp {b1 b2 : Bool} {op : CmpOp} {r : R2} {g : D → D → Option D} {pos : Pos} (ho : OpR X (compareOp op) r) (hg : OkR2 X.K r g) (h1 : JE b1 X c E ρ e1 m1) (h2 : JE b2 X c E ρ e2 m2) (hm : behindInMarks op e2 = false) :
    JE b X c E ρ (.Compare e1 [op] [e2] pos) (mBnd m1 fun x => mBnd m2 fun y => mOf (g x y)) :=
  JE.of (pe_cmpR ho h1 h2 hm) fun σ H Q ⟨ow, s, T, q⟩ => two_at T q fun dx dy s2 x y H2 k St2 rx ry q2 => ok2_run hg St2 rx ry q2
theorem je_ix {b1 b2 : Bool} {r : R2} {g : D → D → Option D} {pos : Pos} (ho : IxR X r) (hg : OkR2 X.K r g) (h1 : JE b1 X c E ρ e1 m1) (h2 : JE b2 X c E ρ e2 m2) (hs : PlainIx e2) :
    JE b X c E ρ (.Subscript e1 e2 pos) (mBnd m1 fun x => mBnd m2 fun y => mOf (g x y)) :=
  JE.of (pe_ix ho h1 h2 hs) fun σ H Q ⟨ow, s, T, q⟩ => two_at T q fun dx dy s2 x y H2 k St2 rx ry q2 => ok2_run hg St2 rx ry q2
/-- one value -/
def OkR1 (K : PySem.W.Frag) (r : V → Hp → VK → Prop) (g : D → Option D) : Prop := ∀ {S : Type} [WCl S] {c : Cf S} {ow ρ σ H s x dx d Q}, Stt (S := S) K c ow ρ σ H s → RepX true K c ow H x dx → g dx = some d →
  (∀ v H', Same H H' → Rep K (c.Nn ow) H' v d → Q v H') → r x H Q
theorem ok1_run {r : V → Hp → VK → Prop} {g : D → Option D} (hg : OkR1 K r g) {x : V} {dx : D} (T : Stt K c ow ρ σ H s) (rx : RepX true K c ow H x dx) (q : Cont b K c E ow H (mOf (g dx) s) Q) : r x H Q := by
  obtain ⟨d, e, q⟩ := of_done T q
  exact hg T rx e fun v H' k rv => q v H' (.same k) (c.W.same T.ok k) (.inl rv)
theorem je_un {b1 : Bool} {op : UnaryOp} {r : V → Hp → VK → Prop} {g : D → Option D} {pos : Pos} (ho : UnR X (unaryOp op) r) (hg : OkR1 X.K r g) (h1 : JE b1 X c E ρ e1 m1) :
    JE b X c E ρ (.UnaryOp op e1 pos) (mBnd m1 fun x => mOf (g x)) :=
  JE.of (pe_un ho h1) fun σ H Q ⟨ow, s, T, q⟩ => bnd_at (b := b1) T q fun dx s1 x H1 k St1 rx q1 => ok1_run hg St1 rx.up q1

/-! ### argument lists -/
/-- several operands, from the left -/
def mAll : List (Mo S D) → Mo S (List D)
  | [] => mRet []
  | m :: ms => mBnd m fun d => mBnd (mAll ms) fun ds => mRet (d :: ds)
inductive RepXs (b : Bool) (K : PySem.W.Frag) (c : Cf S) (ow : Ows) (H : Hp) : List V → List D → Prop
  | nil : RepXs b K c ow H [] []
  | cons {v : V} {vs : List V} {d : D} {ds : List D} (h : RepX b K c ow H v d) (r : RepXs b K c ow H vs ds) : RepXs b K c ow H (v :: vs) (d :: ds)
theorem RepXs.keepM {H' : Hp} (k : Keep c.W.M H H') (T : Stt K c ow ρ σ H s) : ∀ {vs : List V} {ds : List D}, RepXs b K c ow H vs ds → RepXs b K c ow H' vs ds
  | _, _, .nil => .nil
  | _, _, .cons h r => .cons (h.keepM k T) (RepXs.keepM k T r)
theorem RepXs.vals : ∀ {vs : List V} {ds : List D}, RepXs false K c ow H vs ds → Reps K (c.Nn ow) H vs ds
  | _, _, .nil => .nil
  | _, _, .cons h r => .cons h.val (RepXs.vals r)
/-- an argument list: JA -/
inductive JA (b : Bool) (X : Cx) (c : Cf S) (E : XK) (ρ : En) : List Expr → List (Mo S D) → Prop
  | nil : JA b X c E ρ [] []
  | cons {e : Expr} {es : List Expr} {m : Mo S D} {ms : List (Mo S D)} (h : JE b X c E ρ e m) (r : JA b X c E ρ es ms) (hs : starEach (e :: es) X.env = (false, eval e X.env) :: starEach es X.env) : JA b X c E ρ (e :: es) (m :: ms)
theorem ja_cons {es : List Expr} {ms : List (Mo S D)} (h : JE b X c E ρ e m) (r : JA b X c E ρ es ms) (hs : starEach (e :: es) X.env = (false, eval e X.env) :: starEach es X.env := by rfl) : JA b X c E ρ (e :: es) (m :: ms) := .cons h r hs
theorem mBnd_fun {α β : Type} {m : Mo S α} {f g : α → Mo S β} (h : ∀ a, f a = g a) : mBnd m f = mBnd m g := by
  have e : f = g := funext h
  rw [e]
/-- the reading of an argument list -/
def tAs (b : Bool) (K : PySem.W.Frag) (c : Cf S) (E : XK) (ρ : En) : List (Mo S D) → TA
  | [] => tNil
  | m :: ms => tCons (tE b K c E ρ m) (tAs b K c E ρ ms)
theorem JA.pa {es : List Expr} {ms : List (Mo S D)} (h : JA b X c E ρ es ms) : PA X es (tAs b X.K c E ρ ms) := by
  induction h with
  | nil => exact pa_nil
  | cons h r hs ih => exact pa_cons h ih hs
theorem all_at {R : List V → Hp → Prop} : ∀ {ms : List (Mo S D)} {f : List D → Mo S D} {H : Hp} {s : S}, Stt K c ow ρ σ H s → Cont b' K c E ow H (mBnd (mAll ms) f s) Q →
    (∀ ds s2 vs H2, Keep c.W.M H H2 → Stt K c ow ρ σ H2 s2 → RepXs b K c ow H2 vs ds → ds.length = ms.length → Cont b' K c E ow H2 (f ds s2) Q → R vs H2) → tAs b K c E ρ ms σ H R
  | [], f, H, s, T, q, go => go [] s [] H .refl T .nil rfl q
  | m :: ms, f, H, s, T, q, go => by
    have e : mBnd (mAll (m :: ms)) f = mBnd m fun d => mBnd (mAll ms) fun ds => f (d :: ds) := by
      show mBnd (mBnd m fun d => mBnd (mAll ms) fun ds => mRet (d :: ds)) f = _
      rw [mBnd_assoc]
      refine mBnd_fun fun d => ?_
      rw [mBnd_assoc]
      exact mBnd_fun fun ds => mBnd_ret
    rw [e] at q
    refine bnd_at (b := b) T q fun d s1 v H1 k1 St1 r1 q1 => ?_
    refine all_at (f := fun ds => f (d :: ds)) (R := fun vs H2 => R (v :: vs) H2) St1 q1 fun ds s2 vs H2 k2 St2 r2 l2 q2 => ?_
    exact go (d :: ds) s2 (v :: vs) H2 (k1.trans k2) St2 (.cons (r1.keepM k2 St1) r2) (by simp [l2]) q2
def rTup : List V → Hp → VK → Prop := fun xs H Q => xs.length ≤ sizeLine ∧ ∀ p, H p = none → Q (.ref p) (upd H p (.tup xs))
/-- the displays -/
def gTupD (ds : List D) : Option D := if ds.length ≤ sizeLine then some (.tuple ds) else none
def gLstD (ds : List D) : Option D := if ds.length ≤ sizeLine then some (.list ds) else none
theorem RepXs.len : ∀ {vs : List V} {ds : List D}, RepXs b K c ow H vs ds → vs.length = ds.length
  | _, _, .nil => rfl
  | _, _, .cons _ r => by simp [RepXs.len r]
theorem je_tup {es : List Expr} {ms : List (Mo S D)} {x1 pos} (h : JA false X c E ρ es ms) : JE b X c E ρ (.Tuple es x1 pos) (mBnd (mAll ms) fun ds => mOf (gTupD ds)) :=
  JE.of (pe_tupF h.pa) fun σ H Q ⟨ow, s, T, q⟩ => all_at T q fun ds s2 vs H2 k St2 r _ q2 => by
    obtain ⟨d, e, q2⟩ := of_done St2 q2
    unfold gTupD at e
    split at e
    · rename_i hl
      cases e
      exact ⟨by rw [r.len]; exact hl, fun p o n dn => done_new St2 q2 n (rep_tup dn n r.vals)⟩
    · cases e
theorem je_lst {es : List Expr} {ms : List (Mo S D)} {pos} (h : JA false X c E ρ es ms) : JE b X c E ρ (.List es pos) (mBnd (mAll ms) fun ds => mOf (gLstD ds)) :=
  JE.of (pe_lst h.pa) fun σ H Q ⟨ow, s, T, q⟩ => all_at T q fun ds s2 vs H2 k St2 r _ q2 => by
    obtain ⟨d, e, q2⟩ := of_done St2 q2
    unfold gLstD at e
    split at e
    · rename_i hl
      cases e
      exact ⟨by rw [r.len]; exact hl, fun p n => done_new St2 q2 n (rep_lst St2 n r.vals)⟩
    · cases e
/-- calls of built-ins by values -/
def OkRn (K : PySem.W.Frag) (r : List V → Hp → VK → Prop) (g : List D → Option D) : Prop := ∀ {S : Type} [WCl S] {c : Cf S} {ow ρ σ H s xs ds d Q}, Stt (S := S) K c ow ρ σ H s → RepXs true K c ow H xs ds → g ds = some d →
  (∀ v H', Same H H' → Rep K (c.Nn ow) H' v d → Q v H') → r xs H Q
theorem RepXs.up : ∀ {vs : List V} {ds : List D}, RepXs b K c ow H vs ds → RepXs true K c ow H vs ds
  | _, _, .nil => .nil
  | _, _, .cons h r => .cons h.up r.up
theorem okn_run {r : List V → Hp → VK → Prop} {g : List D → Option D} (hg : OkRn K r g) {xs : List V} {ds : List D} (T : Stt K c ow ρ σ H s) (rx : RepXs true K c ow H xs ds) (q : Cont b K c E ow H (mOf (g ds) s) Q) : r xs H Q := by
  obtain ⟨d, e, q⟩ := of_done T q
  exact hg T rx e fun v H' k rv => q v H' (.same k) (c.W.same T.ok k) (.inl rv)
theorem je_callB {b1 : Bool} {x : Str} {id : String} {r : List V → Hp → VK → Prop} {g : List D → Option D} {es : List Expr} {ms : List (Mo S D)} {p pos : Pos} (hc : CallR X (.builtin id) r) (hg : OkRn X.K r g) (gl : Gl X x) (hm : X.mg x = none) (hv : bootBuiltins x = some (.builtin id))
    (h : JA b1 X c E ρ (e :: es) ms) (hn : x ≠ "__name__" := by decide) (hdb : (x == ("__debug__" : Str)) = false := by decide) (he : starEach (e :: es) X.env = (false, eval e X.env) :: starEach es X.env := by rfl) (hpl : (backTo pos (starEach es X.env)).any (·.1) = false := by rfl) :
    JE b X c E ρ (.Call (.Name x p) (e :: es) [] pos) (mBnd (mAll ms) fun ds => mOf (g ds)) :=
  JE.of (pe_callB hc gl hm hv h.pa hn hdb he hpl) fun σ H Q ⟨ow, s, T, q⟩ => all_at T q fun ds s2 vs H2 k St2 r _ q2 => okn_run hg St2 r.up q2
theorem je_callTy {b1 : Bool} {x : Str} {T : String} {r : List V → Hp → VK → Prop} {g : List D → Option D} {es : List Expr} {ms : List (Mo S D)} {p pos : Pos} (hc : CallR X (.type T) r) (hg : OkRn X.K r g) (gl : Gl X x) (hm : X.mg x = none) (hv : bootBuiltins x = some (.type T))
    (h : JA b1 X c E ρ (e :: es) ms) (hn : x ≠ "__name__" := by decide) (hdb : (x == ("__debug__" : Str)) = false := by decide) (he : starEach (e :: es) X.env = (false, eval e X.env) :: starEach es X.env := by rfl) (hpl : (backTo pos (starEach es X.env)).any (·.1) = false := by rfl) :
    JE b X c E ρ (.Call (.Name x p) (e :: es) [] pos) (mBnd (mAll ms) fun ds => mOf (g ds)) :=
  JE.of (pe_callTy hc gl hm hv h.pa hn hdb he hpl) fun σ H Q ⟨ow, s, T, q⟩ => all_at T q fun ds s2 vs H2 k St2 r _ q2 => okn_run hg St2 r.up q2

/-! ### tests -/
def ContT (K : PySem.W.Frag) (c : Cf S) (E : XK) (H : Hp) (o : Out S Bool) (Q : Bool → Hp → Prop) : Prop :=
  o.post (fun k s' => ∀ H', Keep c.W.M H H' → c.W.ok s' H' → Q k H')
    (fun C pl s' => ∀ dx H', Keep c.W.M H H' → c.W.ok s' H' → Exo K c.N0 H' pl dx → E (.ref (He.ga K C)) dx H')
def tT (K : PySem.W.Frag) (c : Cf S) (E : XK) (ρ : En) (m : Mo S Bool) : TT := fun σ H Q => ∃ ow s, Stt K c ow ρ σ H s ∧ ContT K c E H (m s) Q
def JT (X : Cx) (c : Cf S) (E : XK) (ρ : En) (e : Expr) (m : Mo S Bool) : Prop := PT X e (tT X.K c E ρ m)
def JW (X : Cx) (c : Cf S) (E : XK) (ρ : En) (e : Expr) (m : Mo S Bool) : Prop := PW X e (tT X.K c E ρ m)
theorem JT.of {t : TT} {m : Mo S Bool} (h : PT X e t) (w : ∀ σ H Q, tT X.K c E ρ m σ H Q → t σ H Q) : JT X c E ρ e m := ⟨fun pins s σ H Q I q => h.run pins s σ H Q I (w σ H Q q)⟩
theorem JW.of {t : TT} {m : Mo S Bool} (h : PW X e t) (w : ∀ σ H Q, tT X.K c E ρ m σ H Q → t σ H Q) : JW X c E ρ e m := ⟨fun wh pins s σ H Q I q => h.run wh pins s σ H Q I (w σ H Q q)⟩
theorem ContT.move {o : Out S Bool} {Q : Bool → Hp → Prop} (h : ContT K c E H o Q) (k : Keep c.W.M H H1) : ContT K c E H1 o Q := by
  cases o with
  | ok d s => exact fun H' k' => h H' (k.trans k')
  | ex C pl s => exact fun dx H' k' => h dx H' (k.trans k')
  | bad => exact h
/-- a value, then a test of it -/
theorem bndT_at {f : D → Mo S Bool} {Q : Bool → Hp → Prop} {R : VK} (T : Stt K c ow ρ σ H s) (q : ContT K c E H (mBnd m f s) Q)
    (go : ∀ d s1 v H1, Keep c.W.M H H1 → Stt K c ow ρ σ H1 s1 → RepX b K c ow H1 v d → ContT K c E H1 (f d s1) Q → R v H1) : tE b K c E ρ m σ H R := by
  refine ⟨ow, s, T, ?_⟩
  unfold mBnd at q
  cases e : m s with
  | ok d s1 =>
    rw [e] at q
    exact fun v H1 k o r => go d s1 v H1 k (T.move k o) r (ContT.move q k)
  | ex C pl s1 =>
    rw [e] at q
    exact q
  | bad =>
    rw [e] at q
    exact q
/-- a test, then a test -/
theorem bndTT_at {mt : Mo S Bool} {f : Bool → Mo S Bool} {Q R : Bool → Hp → Prop} (T : Stt K c ow ρ σ H s) (q : ContT K c E H (mBnd mt f s) Q)
    (go : ∀ d s1 H1, Keep c.W.M H H1 → Stt K c ow ρ σ H1 s1 → ContT K c E H1 (f d s1) Q → R d H1) : tT K c E ρ mt σ H R := by
  refine ⟨ow, s, T, ?_⟩
  unfold mBnd at q
  cases e : mt s with
  | ok d s1 =>
    rw [e] at q
    exact fun H1 k o => go d s1 H1 k (T.move k o) (ContT.move q k)
  | ex C pl s1 =>
    rw [e] at q
    exact q
  | bad =>
    rw [e] at q
    exact q
/-- a test, then a value -/
theorem bndTE_at {mt : Mo S Bool} {f : Bool → Mo S D} {R : Bool → Hp → Prop} (T : Stt K c ow ρ σ H s) (q : Cont b K c E ow H (mBnd mt f s) Q)
    (go : ∀ d s1 H1, Keep c.W.M H H1 → Stt K c ow ρ σ H1 s1 → Cont b K c E ow H1 (f d s1) Q → R d H1) : tT K c E ρ mt σ H R := by
  refine ⟨ow, s, T, ?_⟩
  unfold mBnd at q
  cases e : mt s with
  | ok d s1 =>
    rw [e] at q
    exact fun H1 k o => go d s1 H1 k (T.move k o) (Cont.move q k)
  | ex C pl s1 =>
    rw [e] at q
    exact q
  | bad =>
    rw [e] at q
    exact q
/-- truth -/
def gTru : D → Option Bool
  | .none => some false
  | .bool k => some k
  | .int i => some (i != 0)
  | .str x => if x.length ≤ sizeLine then some ((x.length : Int) != 0) else none
  | .list ds => some (!ds.isEmpty)
  | .tuple ds => some (!ds.isEmpty)
  | .dict es => some (!es.isEmpty)
def gBl : D → Option Bool
  | .bool k => some k
  | _ => none
theorem Reps.emp {N : Addr → Prop} {xs : List V} {ds : List D} (r : Reps K N H xs ds) : xs.isEmpty = ds.isEmpty := by cases r <;> rfl
theorem Repk.emp {N : Addr → Prop} {xs : List (Key × V)} {ds : List (D × D)} (r : Repk K N H xs ds) : xs.isEmpty = ds.isEmpty := by cases r <;> rfl
theorem tru_v {v : V} {d : D} {k : Bool} (r : RepX true K c ow H v d) (e : gTru d = some k) : TruV K v H k := by
  cases d with
  | none => cases r.non; cases e; rfl
  | bool i => cases r.bl; cases e; rfl
  | int i => cases r.int; cases e; rfl
  | str x =>
    cases r.str
    have e : (if x.length ≤ sizeLine then some ((x.length : Int) != 0) else none) = some k := e
    by_cases hl : x.length ≤ sizeLine
    · rw [if_pos hl] at e
      cases e
      exact ⟨hl, rfl⟩
    · rw [if_neg hl] at e
      cases e
  | list ds =>
    obtain ⟨p, xs, rfl, h, r⟩ := r.list
    cases e
    exact .inl ⟨xs, SqL.of h, by rw [r.emp]⟩
  | tuple ds =>
    obtain ⟨p, xs, rfl, h, r⟩ := r.tuple
    cases e
    exact .inr (.inl ⟨xs, h, by rw [r.emp]⟩)
  | dict es =>
    obtain ⟨p, xs, rfl, h, r⟩ := r.dict
    cases e
    exact .inr (.inr ⟨xs, h, by rw [r.emp]⟩)
theorem ofT_done {o : Option Bool} {Q : Bool → Hp → Prop} (q : ContT K c E H (mOf o s) Q) : ∃ k, o = some k ∧ ∀ H', Keep c.W.M H H' → c.W.ok s H' → Q k H' := by
  cases o with
  | none => exact q.elim
  | some d => exact ⟨d, rfl, q⟩
/-- any expression whose own test is its value's truth -/
theorem jt_val {b1 : Bool} (h : JE b1 X c E ρ e m) (he : ∀ whole, isTrue e X.env whole = (do let v ← whole; standAt e.pos; holding [v] (truthy v)) := by intro _; rfl) : JT X c E ρ e (mBnd m fun d => mOf (gTru d)) :=
  JT.of (pt_truth h he) fun σ H Q ⟨ow, s, T, q⟩ => bndT_at T q fun d s1 v H1 k St1 r q1 => by
    obtain ⟨k, e, q1⟩ := ofT_done q1
    exact ⟨k, tru_v r.up e, q1 H1 .refl St1.ok⟩
/-- a comparison as a test -/
theorem jt_cmp {b1 b2 : Bool} {op : CmpOp} {r : R2} {g : D → D → Option D} {pos : Pos} (ho : OpR X (compareOp op) r) (hg : OkR2 X.K r g) (h1 : JE b1 X c E ρ e1 m1) (h2 : JE b2 X c E ρ e2 m2) (hm : behindInMarks op e2 = false) :
    JT X c E ρ (.Compare e1 [op] [e2] pos) (mBnd m1 fun x => mBnd m2 fun y => mBnd (mOf (g x y)) fun d => mOf (gBl d)) :=
  JT.of (pt_cmpR ho h1 h2 hm) fun σ H Q ⟨ow, s, T, q⟩ => bndT_at T q fun dx s1 x H1 k1 St1 r1 q1 => bndT_at St1 q1 fun dy s2 y H2 k2 St2 r2 q2 => by
    cases e : g dx dy with
    | none =>
      rw [e] at q2
      exact q2.elim
    | some d =>
      rw [e] at q2
      refine hg St2 (r1.up.keepM k2 St1) r2.up e fun v H' k rv => ?_
      obtain ⟨z, e3, q3⟩ := ofT_done (show ContT X.K c E H2 (mOf (gBl d) s2) Q from q2)
      cases d with
      | bool k0 =>
        cases e3
        cases rv
        exact ⟨z, rfl, q3 H' (.same k) (c.W.same St2.ok k)⟩
      | _ => cases e3
theorem jt_not {mt : Mo S Bool} {pos : Pos} (h : JT X c E ρ e mt) : JT X c E ρ (.UnaryOp .Not e pos) (mBnd mt fun k => mRet (!k)) :=
  JT.of (pt_not h) fun σ H Q ⟨ow, s, T, q⟩ => bndTT_at T q fun k s1 H1 k1 St1 q1 => q1 H1 .refl St1.ok
theorem jw_and1 {mt : Mo S Bool} {pos : Pos} (h : JT X c E ρ e mt) : JW X c E ρ (.BoolOp .And [e] pos) mt := pw_and1 h
theorem jw_or1 {mt : Mo S Bool} {pos : Pos} (h : JT X c E ρ e mt) : JW X c E ρ (.BoolOp .Or [e] pos) mt := pw_or1 h
theorem jw_and {mt nt : Mo S Bool} {es : List Expr} {pos : Pos} (h : JT X c E ρ e mt) (h2 : JW X c E ρ (.BoolOp .And (e1 :: es) pos) nt) : JW X c E ρ (.BoolOp .And (e :: e1 :: es) pos) (mBnd mt fun k => if k = true then nt else mRet false) :=
  JW.of (pw_and h h2) fun σ H Q ⟨ow, s, T, q⟩ => bndTT_at T q fun k s1 H1 k1 St1 q1 => by
    cases k with
    | true => exact ⟨ow, s1, St1, q1⟩
    | false => exact q1 H1 .refl St1.ok
theorem jw_or {mt nt : Mo S Bool} {es : List Expr} {pos : Pos} (h : JT X c E ρ e mt) (h2 : JW X c E ρ (.BoolOp .Or (e1 :: es) pos) nt) : JW X c E ρ (.BoolOp .Or (e :: e1 :: es) pos) (mBnd mt fun k => if k = true then mRet true else nt) :=
  JW.of (pw_or h h2) fun σ H Q ⟨ow, s, T, q⟩ => bndTT_at T q fun k s1 H1 k1 St1 q1 => by
    cases k with
    | true => exact q1 H1 .refl St1.ok
    | false => exact ⟨ow, s1, St1, q1⟩
theorem jt_w {mt : Mo S Bool} (h : JW X c E ρ e mt) : JT X c E ρ e mt := h.pt
/-! ### and, or, not, if as values -/
theorem je_ife {mt : Mo S Bool} {et : Expr} {pos : Pos} (h : JT X c E ρ et mt) (h1 : JE b X c E ρ e1 m1) (h2 : JE b X c E ρ e2 m2) : JE b X c E ρ (.IfExp et e1 e2 pos) (mBnd mt fun k => if k = true then m1 else m2) :=
  JE.of (pe_ifExp h h1 h2) fun σ H Q ⟨ow, s, T, q⟩ => bndTE_at T q fun k s1 H1 k1 St1 q1 => by
    cases k with
    | true => exact ⟨ow, s1, St1, q1⟩
    | false => exact ⟨ow, s1, St1, q1⟩
def mAnd (m1 m2 : Mo S D) : Mo S D := mBnd m1 fun d => match d with
  | .bool true => m2
  | .bool false => mRet (.bool false)
  | _ => mBad
def mOr (m1 m2 : Mo S D) : Mo S D := mBnd m1 fun d => match d with
  | .bool false => m2
  | .bool true => mRet (.bool true)
  | _ => mBad
theorem je_one {op} {pos : Pos} (h : JE b X c E ρ e m) : JE b X c E ρ (.BoolOp op [e] pos) m := pe_one h
theorem je_and {b1 : Bool} {es : List Expr} {pos : Pos} (h : JE b1 X c E ρ e1 m1) (h2 : JE b X c E ρ (.BoolOp .And (e2 :: es) pos) m2) : JE b X c E ρ (.BoolOp .And (e1 :: e2 :: es) pos) (mAnd m1 m2) :=
  JE.of (pe_and h h2) fun σ H Q ⟨ow, s, T, q⟩ => bnd_at T q fun d s1 v H1 k1 St1 r q1 => by
    cases d with
    | bool k =>
      refine ⟨k, r.bl, ?_⟩
      cases k with
      | true => exact ⟨ow, s1, St1, q1⟩
      | false => exact q1 _ H1 .refl St1.ok (.inl (.bl false))
    | _ => exact q1.elim
theorem je_or {b1 : Bool} {es : List Expr} {pos : Pos} (h : JE b1 X c E ρ e1 m1) (h2 : JE b X c E ρ (.BoolOp .Or (e2 :: es) pos) m2) : JE b X c E ρ (.BoolOp .Or (e1 :: e2 :: es) pos) (mOr m1 m2) :=
  JE.of (pe_or h h2) fun σ H Q ⟨ow, s, T, q⟩ => bnd_at T q fun d s1 v H1 k1 St1 r q1 => by
    cases d with
    | bool k =>
      refine ⟨k, r.bl, ?_⟩
      cases k with
      | true => exact q1 _ H1 .refl St1.ok (.inl (.bl true))
      | false => exact ⟨ow, s1, St1, q1⟩
    | _ => exact q1.elim
def gNot : D → Option D
  | .bool k => some (.bool (!k))
  | _ => none
theorem je_not {b1 : Bool} {pos : Pos} (h : JE b1 X c E ρ e m) : JE b X c E ρ (.UnaryOp .Not e pos) (mBnd m fun d => mOf (gNot d)) :=
  JE.of (pe_not h) fun σ H Q ⟨ow, s, T, q⟩ => bnd_at T q fun d s1 v H1 k1 St1 r q1 => by
    obtain ⟨d', e, q1⟩ := of_done St1 q1
    cases d with
    | bool k =>
      cases e
      exact ⟨k, r.bl, q1 _ H1 .refl St1.ok (.inl (.bl _))⟩
    | _ => cases e
/-- a <= b < c -/
theorem je_chain {b1 b2 b3 : Bool} {e3 : Expr} {m3 : Mo S D} {op op' : CmpOp} {r r' : R2} {g g' : D → D → Option D} {pos : Pos} (ho : OpR X (compareOp op) r) (ho' : OpR X (compareOp op') r') (hg : OkR2 X.K r g) (hg' : OkR2 X.K r' g')
    (h1 : JE b1 X c E ρ e1 m1) (h2 : JE b2 X c E ρ e2 m2) (h3 : JE b3 X c E ρ e3 m3) (hm : lastMarks [op, op'] [e2, e3] = false := by with_unfolding_all rfl) :
    JE b X c E ρ (.Compare e1 [op, op'] [e2, e3] pos) (mBnd m1 fun x => mBnd m2 fun y => mBnd (mOf (g x y)) fun d => match d with
      | .bool true => mBnd m3 fun z => mOf (g' y z)
      | .bool false => mRet (.bool false)
      | _ => mBad) :=
  JE.of (pe_chain ho ho' h1 h2 h3 hm) fun σ H Q ⟨ow, s, T, q⟩ => two_at T q fun dx dy s2 x y H2 k2 St2 rx ry q2 => by
    cases e : g dx dy with
    | none =>
      rw [e] at q2
      exact q2.elim
    | some d =>
      rw [e] at q2
      refine hg St2 rx ry e fun v H3 k3 rv => ?_
      have St3 := St2.move (.same k3) (c.W.same St2.ok k3)
      cases d with
      | bool k =>
        cases rv
        refine ⟨k, rfl, ?_⟩
        cases k with
        | true =>
          refine bnd_at (f := fun z => mOf (g' dy z)) (b := b3) (b' := b) St3 (Cont.move (show Cont b X.K c E ow H2 (mBnd m3 (fun z => mOf (g' dy z)) s2) Q from q2) (.same k3)) fun dz s4 z H4 k4 St4 rz q4 => ?_
          exact ok2_run hg' St4 ((ry.keepM (.same k3) St2).keepM k4 St3) rz.up q4
        | false => exact q2 _ H3 (.same k3) St3.ok (.inl (.bl false))
      | _ => exact q2.elim
end
end Cz
set_option Elab.async false
set_option linter.all false
set_option maxRecDepth 100000
set_option maxHeartbeats 2000000
/-! Defs: their promises (spD), their calls; statements as plain functions: JSs. -/
namespace Cz
open PySem PySem.Spec PyProof.Rows L2

/-! ### a def's promise -/
inductive Agr {S : Type} (W : Wd S) (K : PySem.W.Frag) (N : Addr → Prop) (H : Hp) : List (Option Nat) → List V → List D → Prop
  | nil : Agr W K N H [] [] []
  | dat {pt : List (Option Nat)} {v : V} {vs : List V} {d : D} {ds : List D} (h : Rep K N H v d) (r : Agr W K N H pt vs ds) : Agr W K N H (none :: pt) (v :: vs) (d :: ds)
  | opq {pt : List (Option Nat)} {n : Nat} {a : Addr} {vs : List V} {ds : List D} (h : W.nm n = some a) (r : Agr W K N H pt vs ds) : Agr W K N H (some n :: pt) (.ref a :: vs) ds
section
variable {S : Type} [WCl S]
theorem Agr.len {W : Wd S} {K : PySem.W.Frag} {N : Addr → Prop} {H : Hp} : ∀ {pt : List (Option Nat)} {vs : List V} {ds : List D}, Agr W K N H pt vs ds → vs.length = pt.length
  | _, _, _, .nil => rfl
  | _, _, _, .dat _ r => by simp [Agr.len r]
  | _, _, _, .opq _ r => by simp [Agr.len r]
def spD (K : PySem.W.Frag) (pt : List (Option Nat)) (m : List D → Mo S D) : Sp := fun vs H Q E => ∃ (W : Wd S) (B : Addr → Prop) (ds : List D) (s : S), WCl.cl W ∧ W.ok s H ∧ (∀ a, B a → H a ≠ none) ∧ Agr W K (fun a => W.M a ∨ B a) H pt vs ds ∧
  (m ds s).post (fun d s' => ∀ v H', Keep W.M H H' → W.ok s' H' → Rep K (fun a => W.M a ∨ B a) H' v d → Q v H')
    (fun C pl s' => ∀ dx H', Keep W.M H H' → W.ok s' H' → Exo K (fun a => W.M a ∨ B a) H' pl dx → E (.ref (He.ga K C)) dx H')
/-- a def keeps a promise, wherever no repr runs -/
structure Gn (P : Program) (w : World) (K : PySem.W.Frag) (mg : Str → Option Value) (base : Heap) (k : Nat) (f : Addr) (fd : FuncData) (ps : List Str) (sp : Sp) : Prop where
  len : ∀ vs H Q E, sp vs H Q E → vs.length = ps.length
  run : ∀ (A : Around) (outer : List Env) (s : Shared) (H : Hp) (args : PySem.Args) (us : List Value) (vs : List V) (Q : VK) (E : XK), Room k A → A.guards = some [] → Env0 P w K mg base A outer s H → BindsTo s fd args (ps.zip us) → Vals vs us → sp vs H Q E →
    codeAny (model P w) A (.call (.ref f) args) (CR (L2.CX P w) outer P w H s Q E) s
theorem Gn.mono {P : Program} {w : World} {K : PySem.W.Frag} {mg : Str → Option Value} {base : Heap} {j k : Nat} {f : Addr} {fd : FuncData} {ps : List Str} {sp : Sp} (F : Gn P w K mg base j f fd ps sp) (h : j ≤ k) : Gn P w K mg base k f fd ps sp :=
  ⟨F.len, fun A outer s H args us vs Q E hr => F.run A outer s H args us vs Q E (hr.mono h)⟩
/-- what a place in a def knows of what runs around it -/
structure Xok (X : Cx) (E : XK) (k : Nat) : Prop where
  room : Room k X.A
  grd : X.A.guards = some []
  pass : Passes (L2.CX X.prog X.w) X E
variable {b b' : Bool} {X : Cx} {K : PySem.W.Frag} {c : Cf S} {E : XK} {ρ : En} {e e1 e2 : Expr} {m m1 m2 : Mo S D} {ow : Ows} {σ : L2.St} {H H1 : Hp} {s : S} {Q : VK}
theorem run_gn {k : Nat} {f : Addr} {fd : FuncData} {ps : List Str} {sp : Sp} {pins : List (Addr × Obj)} {s : Shared} {us ws : List Value} {ks : List Str} {vs : List V} (F : Gn X.prog X.w X.K X.mg X.base k f fd ps sp) (O : Xok X E k)
    (I : Inv X pins σ H s) {args : PySem.Args} (r : Vals vs us) (hb : BindsTo s fd args (ps.zip us)) (h : sp vs H Q E) : wpAny (model X.prog X.w) X.A (PySem.call (.ref f) args.pos args.kw) (EP X pins σ Q) X.xe s := by
  refine wpAny_call (codeAny_mono (F.run X.A X.stack s H args us vs Q E O.room O.grd I.env0 hb r h) fun r s' hq => ?_)
  cases r with
  | error e => exact O.pass pins σ H s e s' I hq
  | ok fl =>
    cases fl with
    | ret u => exact I.after hq
    | next => exact hq.elim
    | brk => exact hq.elim
    | cont => exact hq.elim
/-- an argument: data, or the numbered object in slot i -/
abbrev AG (S : Type) := Sum (Mo S D) (Nat × Nat)
def ptOf : List (AG S) → List (Option Nat)
  | [] => []
  | .inl _ :: r => none :: ptOf r
  | .inr (_, n) :: r => some n :: ptOf r
def mG : List (AG S) → Mo S (List D)
  | [] => mRet []
  | .inl m :: r => mBnd m fun d => mBnd (mG r) fun ds => mRet (d :: ds)
  | .inr _ :: r => mG r
def tG (K : PySem.W.Frag) (c : Cf S) (E : XK) (ρ : En) : List (AG S) → TA
  | [] => tNil
  | .inl m :: r => tCons (tE false K c E ρ m) (tG K c E ρ r)
  | .inr (i, _) :: r => tCons (tVar i) (tG K c E ρ r)
inductive JG (X : Cx) (c : Cf S) (E : XK) (ρ : En) : List Expr → List (AG S) → Prop
  | nil : JG X c E ρ [] []
  | dat {e : Expr} {es : List Expr} {m : Mo S D} {gs : List (AG S)} (h : JE false X c E ρ e m) (r : JG X c E ρ es gs) (hs : starEach (e :: es) X.env = (false, eval e X.env) :: starEach es X.env) : JG X c E ρ (e :: es) (.inl m :: gs)
  | opq {x : Str} {pos : Pos} {i n : Nat} {es : List Expr} {gs : List (AG S)} (h : PE X (.Name x pos) (tVar i)) (hρ : ρ[i]? = some (some (.opq n))) (r : JG X c E ρ es gs)
      (hs : starEach (.Name x pos :: es) X.env = (false, eval (.Name x pos) X.env) :: starEach es X.env) : JG X c E ρ (.Name x pos :: es) (.inr (i, n) :: gs)
theorem jg_dat {es : List Expr} {gs : List (AG S)} (h : JE false X c E ρ e m) (r : JG X c E ρ es gs) (hs : starEach (e :: es) X.env = (false, eval e X.env) :: starEach es X.env := by rfl) : JG X c E ρ (e :: es) (.inl m :: gs) := .dat h r hs
theorem jg_opq (i n : Nat) {x : Str} {pos : Pos} {es : List Expr} {gs : List (AG S)} (r : JG X c E ρ es gs) (hρ : ρ[i]? = some (some (.opq n)) := by rfl) (hN : X.N[i]? = some x := by rfl) (hv : Vis X.env.scope x := by first | exact .inl rfl | exact .inr (.inl rfl) | exact .inr (.inr rfl))
    (hd : (x == ("__debug__" : Str)) = false := by decide) (hcd : (x == ("__classdict__" : Str)) = false := by decide)
    (hs : starEach (.Name x pos :: es) X.env = (false, eval (.Name x pos) X.env) :: starEach es X.env := by rfl) : JG X c E ρ (.Name x pos :: es) (.inr (i, n) :: gs) := .opq (pe_var hN hv hd hcd) hρ r hs
theorem JG.pa {es : List Expr} {gs : List (AG S)} (h : JG X c E ρ es gs) : PA X es (tG X.K c E ρ gs) := by
  induction h with
  | nil => exact pa_nil
  | dat h r hs ih => exact pa_cons h ih hs
  | opq h hρ r hs ih => exact pa_cons h ih hs
/-- the numbered ones are there -/
def GOk (ρ : En) (gs : List (AG S)) : Prop := ∀ i n, (Sum.inr (i, n) : AG S) ∈ gs → ρ[i]? = some (some (.opq n))
theorem JG.gok {es : List Expr} {gs : List (AG S)} (h : JG X c E ρ es gs) : GOk ρ gs := by
  induction h with
  | nil => exact fun i n z => by cases z
  | dat h r hs ih =>
    intro i n z
    rcases List.mem_cons.mp z with z | z
    · cases z
    · exact ih i n z
  | opq h hρ r hs ih =>
    intro i n z
    rcases List.mem_cons.mp z with z | z
    · cases z
      exact hρ
    · exact ih i n z
theorem Agr.keepM {H' : Hp} (k : Keep c.W.M H H') : ∀ {pt : List (Option Nat)} {vs : List V} {ds : List D}, Agr c.W K (c.Nn ow) H pt vs ds → Agr c.W K (c.Nn ow) H' pt vs ds
  | _, _, _, .nil => .nil
  | _, _, _, .dat h r => .dat (h.keepM k) (Agr.keepM k r)
  | _, _, _, .opq h r => .opq h (Agr.keepM k r)
theorem g_at {R : List V → Hp → Prop} : ∀ {gs : List (AG S)} {f : List D → Mo S D} {H : Hp} {s : S}, GOk ρ gs → Stt K c ow ρ σ H s → Cont b' K c E ow H (mBnd (mG gs) f s) Q →
    (∀ ds s2 vs H2, Keep c.W.M H H2 → Stt K c ow ρ σ H2 s2 → Agr c.W K (c.Nn ow) H2 (ptOf gs) vs ds → Cont b' K c E ow H2 (f ds s2) Q → R vs H2) → tG K c E ρ gs σ H R
  | [], f, H, s, go, T, q, k => k [] s [] H .refl T .nil q
  | .inl m :: gs, f, H, s, go, T, q, k => by
    have e : mBnd (mG (.inl m :: gs)) f = mBnd m fun d => mBnd (mG gs) fun ds => f (d :: ds) := by
      show mBnd (mBnd m fun d => mBnd (mG gs) fun ds => mRet (d :: ds)) f = _
      rw [mBnd_assoc]
      refine mBnd_fun fun d => ?_
      rw [mBnd_assoc]
      exact mBnd_fun fun ds => mBnd_ret
    rw [e] at q
    refine bnd_at (b := false) T q fun d s1 v H1 k1 T1 r1 q1 => ?_
    refine g_at (f := fun ds => f (d :: ds)) (R := fun vs H2 => R (v :: vs) H2) (fun i n z => go i n (List.mem_cons_of_mem _ z)) T1 q1 fun ds s2 vs H2 k2 T2 r2 q2 => ?_
    exact k (d :: ds) s2 (v :: vs) H2 (k1.trans k2) T2 (.dat (r1.val.keepM k2) r2) q2
  | .inr (i, n) :: gs, f, H, s, go, T, q, k => by
    obtain ⟨a, ea, en⟩ := T.sl i _ (go i n List.mem_cons_self)
    refine ⟨_, join_some ea, ?_⟩
    exact g_at (f := f) (R := fun vs H2 => R (.ref a :: vs) H2) (fun i n z => go i n (List.mem_cons_of_mem _ z)) T q fun ds s2 vs H2 k2 T2 r2 q2 => k ds s2 (.ref a :: vs) H2 k2 T2 (.opq en r2) q2
/-- the callee's promise, from the caller's wish -/
theorem sp_of {mf : List D → Mo S D} {pt : List (Option Nat)} {ds : List D} {vs : List V} (T : Stt K c ow ρ σ H s) (r : Agr c.W K (c.Nn ow) H pt vs ds) (q : Cont b K c E ow H (mf ds s) Q) : spD K pt mf vs H Q E := by
  refine ⟨c.W, fun a => c.B a ∨ ∃ i, ow i = some a, ds, s, c.hW, T.ok, fun a z => z.elim (T.bl a) fun ⟨i, z⟩ => (T.ows i a z).2.2.1, r, ?_⟩
  cases e : mf ds s with
  | ok d s' =>
    rw [e] at q
    exact fun v H' k o rv => q v H' k o (.inl rv)
  | ex C pl s' =>
    rw [e] at q
    refine fun dx H' k o x => q dx H' k o ?_
    cases pl with
    | none => exact x
    | some fd =>
      obtain ⟨a, v, e1, e2, e3⟩ := x
      exact ⟨a, v, e1, e2, e3.sub (c.N0N ow)⟩
  | bad => rw [e] at q; exact q.elim
/-- f(e, ..) -/
theorem je_call {k : Nat} {f : Addr} {fd : FuncData} {ps : List Str} {pt : List (Option Nat)} {mf : List D → Mo S D} {x : Str} {es : List Expr} {gs : List (AG S)} {p pos : Pos} (G : Gn X.prog X.w X.K X.mg X.base k f fd ps (spD X.K pt mf)) (O : Xok X E k)
    (gl : Gl X x) (hm : X.mg x = some (.ref f)) (hk : PySem.W.keepIn X.K (.ref f) = true) (hb : L2.Binds X.K fd ps []) (h : JG X c E ρ (e :: es) gs) (hp : ptOf gs = pt := by rfl)
    (hdb : (x == ("__debug__" : Str)) = false := by decide) (he : starEach (e :: es) X.env = (false, eval e X.env) :: starEach es X.env := by rfl) (hpl : (backTo pos (starEach es X.env)).any (·.1) = false := by rfl) :
    JE b X c E ρ (.Call (.Name x p) (e :: es) [] pos) (mBnd (mG gs) mf) := by
  have P : PE X (.Call (.Name x p) (e :: es) [] pos) (fun σ H Q => tG X.K c E ρ gs σ H fun vs H1 => spD X.K pt mf vs H1 Q E) := by
    refine ⟨fun pins s σ H Q I q => ?_⟩
    refine wpAny_Call_Name_kw (ld_glob I gl hm ?_ hdb)
    refine PySem.W.callWith_K (h₀ := X.base) I.ok.mod.kin hk (thn (h.pa.run pos pins s σ H _ I q) fun us s1 z => ?_) he hpl
    obtain ⟨vs, H1, I1, r, q1⟩ := z
    refine ⟨I1.kIn, run_gn (args := ⟨us, []⟩) (ws := []) (ks := []) G O I1 r ?_ q1⟩
    have hl := G.len _ _ _ _ q1
    have e := hb s1 us I1.kIn (by rw [List.append_nil, ← r.length]; exact hl)
    rw [List.append_nil] at e
    exact e
  refine JE.of P fun σ H Q ⟨ow, s, T, q⟩ => g_at h.gok T q fun ds s2 vs H2 k2 T2 r2 q2 => ?_
  rw [hp] at r2
  exact sp_of T2 r2 q2
/-- f(e, .., k = v, ..), all data: ix tells at which place of what is written each parameter's value stands -/
def pickD (ix : List Nat) (ds : List D) : List D := ix.map fun i => ds.getD i .none
def pickV (ix : List Nat) (vs : List V) : List V := ix.map fun i => vs.getD i .non
def pickU (ix : List Nat) (us : List Value) : List Value := ix.map fun i => us.getD i .none
def allN (n : Nat) : List (Option Nat) := List.replicate n none
theorem Agr.of_reps {W : Wd S} {N : Addr → Prop} : ∀ {vs : List V} {ds : List D}, Reps K N H vs ds → Agr W K N H (allN ds.length) vs ds
  | _, _, .nil => .nil
  | _, _, .cons h r => .dat h (Agr.of_reps r)
theorem Reps.pick {N : Addr → Prop} {vs : List V} {ds : List D} (r : Reps K N H vs ds) : ∀ ix : List Nat, Reps K N H (pickV ix vs) (pickD ix ds)
  | [] => .nil
  | i :: ix => by
    refine .cons ?_ (Reps.pick r ix)
    cases e : ds[i]? with
    | none =>
      have l := r.len
      have h1 : ds.length ≤ i := List.getElem?_eq_none_iff.mp e
      have e2 : vs[i]? = none := List.getElem?_eq_none_iff.mpr (by omega)
      have q1 : ds.getD i .none = .none := by rw [List.getD_eq_getElem?_getD, e]; rfl
      have q2 : vs.getD i .non = .non := by rw [List.getD_eq_getElem?_getD, e2]; rfl
      show Rep K N H (vs.getD i .non) (ds.getD i .none)
      rw [q1, q2]
      exact .non
    | some d =>
      obtain ⟨v, e2, h⟩ := r.get e
      have q1 : ds.getD i .none = d := by rw [List.getD_eq_getElem?_getD, e]; rfl
      have q2 : vs.getD i .non = v := by rw [List.getD_eq_getElem?_getD, e2]; rfl
      show Rep K N H (vs.getD i .non) (ds.getD i .none)
      rw [q1, q2]
      exact h
theorem Vals.pick {vs : List V} {us : List Value} (r : Vals vs us) : ∀ ix : List Nat, Vals (pickV ix vs) (pickU ix us)
  | [] => .nil
  | i :: ix => by
    refine .cons ?_ (Vals.pick r ix)
    cases e : vs[i]? with
    | none =>
      have q1 : vs.getD i .non = .non := by rw [List.getD_eq_getElem?_getD, e]; rfl
      have q2 : us.getD i .none = .none := by rw [List.getD_eq_getElem?_getD, L2.Vals.none_of r e]; rfl
      show RelV (vs.getD i .non) (us.getD i .none)
      rw [q1, q2]
      rfl
    | some v =>
      obtain ⟨u, e2, h⟩ := L2.Vals.get r e
      have q1 : vs.getD i .non = v := by rw [List.getD_eq_getElem?_getD, e]; rfl
      have q2 : us.getD i .none = u := by rw [List.getD_eq_getElem?_getD, e2]; rfl
      show RelV (vs.getD i .non) (us.getD i .none)
      rw [q1, q2]
      exact h
/-- the keywords' values, from the left -/
inductive JK (X : Cx) (c : Cf S) (E : XK) (ρ : En) : List Keyword → List (Mo S D) → Prop
  | nil : JK X c E ρ [] []
  | cons {nm : Option Str} {e : Expr} {kp : Pos} {kws : List Keyword} {m : Mo S D} {ms : List (Mo S D)} (h : JE false X c E ρ e m) (r : JK X c E ρ kws ms) : JK X c E ρ (⟨nm, e, kp⟩ :: kws) (m :: ms)
theorem JK.pk {kws : List Keyword} {ms : List (Mo S D)} (h : JK X c E ρ kws ms) : PK X kws (tAs false X.K c E ρ ms) := by
  induction h with
  | nil => exact pk_nil
  | cons h r ih => exact pk_cons h ih
/-- how such a call binds -/
def BindsK (K : PySem.W.Frag) (fd : FuncData) (ps ks : List Str) (n : Nat) (ix : List Nat) : Prop := ∀ (s : Shared) (us ws : List Value), K.In s.heap → us.length = n → ws.length = ks.length → BindsTo s fd ⟨us, ks.zip ws⟩ (ps.zip (pickU ix (us ++ ws)))
theorem all_at2 {R : List V → List V → Hp → Prop} {ms ns : List (Mo S D)} {f : List D → Mo S D} (T : Stt K c ow ρ σ H s) (q : Cont b' K c E ow H (mBnd (mAll ms) (fun ds => mBnd (mAll ns) fun es => f (ds ++ es)) s) Q)
    (go : ∀ ds s2 vs ws H2, Keep c.W.M H H2 → Stt K c ow ρ σ H2 s2 → Reps K (c.Nn ow) H2 (vs ++ ws) ds → vs.length = ms.length → ws.length = ns.length → Cont b' K c E ow H2 (f ds s2) Q → R vs ws H2) :
    tAs false K c E ρ ms σ H fun vs H1 => tAs false K c E ρ ns σ H1 fun ws H2 => R vs ws H2 := by
  have ln : ∀ (ms : List (Mo S D)) (s s' : S) (ds : List D), mAll ms s = .ok ds s' → ds.length = ms.length := by
    intro ms
    induction ms with
    | nil => intro s s' ds e; cases e; rfl
    | cons m ms ih =>
      intro s s' ds e
      have e : mBnd m (fun d => mBnd (mAll ms) fun ds => mRet (d :: ds)) s = .ok ds s' := e
      unfold mBnd at e
      cases h1 : m s with
      | ok d s1 =>
        rw [h1] at e
        dsimp only at e
        cases h2 : mAll ms s1 with
        | ok ds2 s2 =>
          rw [h2] at e
          cases e
          simp [ih _ _ _ h2]
        | ex _ _ _ => rw [h2] at e; cases e
        | bad => rw [h2] at e; cases e
      | ex _ _ _ => rw [h1] at e; cases e
      | bad => rw [h1] at e; cases e
  -- lengths are told by the outcome: redo the walk with them
  have step : ∀ {ms : List (Mo S D)} {f : List D → Mo S D} {H : Hp} {s : S} {R : List V → Hp → Prop}, Stt K c ow ρ σ H s → Cont b' K c E ow H (mBnd (mAll ms) f s) Q →
      (∀ ds s2 vs H2, Keep c.W.M H H2 → Stt K c ow ρ σ H2 s2 → Reps K (c.Nn ow) H2 vs ds → vs.length = ms.length → Cont b' K c E ow H2 (f ds s2) Q → R vs H2) → tAs false K c E ρ ms σ H R := by
    intro ms
    induction ms with
    | nil => intro f H s R T q go; exact go [] s [] H .refl T .nil rfl q
    | cons m ms ih =>
      intro f H s R T q go
      have e : mBnd (mAll (m :: ms)) f = mBnd m fun d => mBnd (mAll ms) fun ds => f (d :: ds) := by
        show mBnd (mBnd m fun d => mBnd (mAll ms) fun ds => mRet (d :: ds)) f = _
        rw [mBnd_assoc]
        refine mBnd_fun fun d => ?_
        rw [mBnd_assoc]
        exact mBnd_fun fun ds => mBnd_ret
      rw [e] at q
      refine bnd_at (b := false) T q fun d s1 v H1 k1 T1 r1 q1 => ?_
      refine ih (f := fun ds => f (d :: ds)) (R := fun vs H2 => R (v :: vs) H2) T1 q1 fun ds s2 vs H2 k2 T2 r2 l2 q2 => ?_
      exact go (d :: ds) s2 (v :: vs) H2 (k1.trans k2) T2 (.cons (r1.val.keepM k2) r2) (by simp [l2]) q2
  refine step T q fun ds s2 vs H2 k2 T2 r2 l2 q2 => step T2 q2 fun es s3 ws H3 k3 T3 r3 l3 q3 => go (ds ++ es) s3 vs ws H3 (k2.trans k3) T3 ((r2.keepM k3).app r3) l2 l3 q3
theorem je_callK {k : Nat} {f : Addr} {fd : FuncData} {ps ks : List Str} {mf : List D → Mo S D} {x : Str} {kws : List Keyword} {es : List Expr} {ms ns : List (Mo S D)} {ix : List Nat} {p pos : Pos} (G : Gn X.prog X.w X.K X.mg X.base k f fd ps (spD X.K (allN ix.length) mf)) (O : Xok X E k)
    (gl : Gl X x) (hm : X.mg x = some (.ref f)) (hk : PySem.W.keepIn X.K (.ref f) = true) (hb : BindsK X.K fd ps ks ms.length ix) (h : JA false X c E ρ (e :: es) ms) (h2 : JK X c E ρ kws ns) (hn : ns.length = ks.length := by rfl)
    (hall : (backToKw pos (keywordEach kws X.env)).all (·.1.isSome) = true := by rfl) (hks : (backToKw pos (keywordEach kws X.env)).filterMap (·.1) = ks := by rfl)
    (hdb : (x == ("__debug__" : Str)) = false := by decide) (he : starEach (e :: es) X.env = (false, eval e X.env) :: starEach es X.env := by rfl)
    (hpl : ((backTo pos (starEach (e :: es) X.env)).any (·.1) || (backToKw pos (keywordEach kws X.env)).any (·.1.isNone)) = false := by rfl) :
    JE b X c E ρ (.Call (.Name x p) (e :: es) kws pos) (mBnd (mAll ms) fun ds => mBnd (mAll ns) fun zs => mf (pickD ix (ds ++ zs))) := by
  have P : PE X (.Call (.Name x p) (e :: es) kws pos) (fun σ H Q => tAs false X.K c E ρ ms σ H fun vs H1 => tAs false X.K c E ρ ns σ H1 fun ws H2 => vs.length = ms.length ∧ ws.length = ns.length ∧ spD X.K (allN ix.length) mf (pickV ix (vs ++ ws)) H2 Q E) := by
    refine ⟨fun pins s σ H Q I q => ?_⟩
    refine wpAny_Call_Name_kw (ld_glob I gl hm ?_ hdb)
    refine PySem.W.callWith_KW (h₀ := X.base) I.ok.mod.kin hk hall (thn (h.pa.run pos pins s σ H _ I q) fun us s1 z => ?_) hpl he
    obtain ⟨vs, H1, I1, r, q1⟩ := z
    refine thn (h2.pk.run pos pins s1 σ H1 _ I1 q1) fun ws s2 z => ?_
    obtain ⟨zs, H2, I2, r2, l1, l2, q2⟩ := z
    refine ⟨I2.kIn, ?_⟩
    rw [hks]
    refine run_gn (args := ⟨us, ks.zip ws⟩) (ws := []) (ks := []) G O I2 (Vals.pick (r.append r2) ix) ?_ q2
    exact hb s2 us ws I2.kIn (by rw [← r.length, l1]) (by rw [← r2.length, l2, hn])
  refine JE.of P fun σ H Q ⟨ow, s, T, q⟩ => all_at2 (f := fun ds => mf (pickD ix ds)) T q fun ds s2 vs ws H2 k2 T2 r2 l1 l2 q2 => ⟨l1, l2, ?_⟩
  have r3 := Agr.of_reps (W := c.W) (r2.pick ix)
  have el : (pickD ix ds).length = ix.length := by simp [pickD]
  rw [el] at r3
  exact sp_of T2 r3 q2
end
end Cz
set_option Elab.async false
set_option linter.all false
set_option maxRecDepth 100000
set_option maxHeartbeats 2000000
/-! Statements as plain functions: JSs; a def's body to its promise. -/
namespace Cz
open PySem PySem.Spec PyProof.Rows L2
section
variable {S : Type} [WCl S]
/-- behind a statement: it goes on with a, or d is returned -/
inductive Fl (α : Type) where
  | nx (a : α)
  | rt (d : D)
/-- what a statement may change: the shared state, lists of one's own, new objects -/
structure Stp (c : Cf S) (ow : Ows) (H : Hp) (ow' : Ows) (H' : Hp) : Prop where
  kp : Keep (c.Mw ow) H H'
  fr : ∀ i p, ow' i = some p → (∃ j, ow j = some p) ∨ H p = none
theorem Stp.refl {c : Cf S} {ow : Ows} {H : Hp} : Stp c ow H ow H := ⟨.refl, fun i p e => .inl ⟨i, e⟩⟩
theorem Stp.trans {c : Cf S} {ow ow1 ow2 : Ows} {H H1 H2 : Hp} (a : Stp c ow H ow1 H1) (b : Stp c ow1 H1 ow2 H2) : Stp c ow H ow2 H2 := by
  refine ⟨⟨fun x o e n t => ?_, fun x e => b.kp.al x (a.kp.al x e)⟩, fun i p e => ?_⟩
  · refine b.kp.st x o (a.kp.st x o e n t) ?_ t
    rcases n with n | n
    · refine .inl fun z => ?_
      rcases z with z | ⟨i, z⟩
      · exact n (.inl z)
      · rcases a.fr i x z with ⟨j, z⟩ | z
        · exact n (.inr ⟨j, z⟩)
        · rw [e] at z; cases z
    · exact .inr n
  · rcases b.fr i p e with ⟨j, z⟩ | z
    · exact a.fr j p z
    · refine .inr ?_
      cases q : H p with
      | none => rfl
      | some o => exact absurd z (a.kp.al p (by rw [q]; exact Option.some_ne_none _))
theorem Stp.of {c : Cf S} {ow : Ows} {H H' : Hp} (k : Keep c.W.M H H') : Stp c ow H ow H' := ⟨k.mono fun _ z => .inl z, fun i p e => .inl ⟨i, e⟩⟩
def ContS {α : Type} (K : PySem.W.Frag) (c : Cf S) (E : XK) (ρf : α → En) (ow : Ows) (H : Hp) (o : Out S (Fl α)) (Dn : Ends) : Prop :=
  o.post (fun fl s' => match fl with
      | .nx a => ∀ ow' σ' H', Stp c ow H ow' H' → Stt K c ow' (ρf a) σ' H' s' → Dn.nx σ' H'
      | .rt d => ∀ v H', Keep c.W.M c.H0 H' → c.W.ok s' H' → Rep K c.N0 H' v d → Dn.rt v H')
    (fun C pl s' => ∀ dx H', Keep c.W.M c.H0 H' → c.W.ok s' H' → Exo K c.N0 H' pl dx → E (.ref (He.ga K C)) dx H')
def tS {α : Type} (K : PySem.W.Frag) (c : Cf S) (E : XK) (ρf : α → En) (ρ : En) (m : Mo S (Fl α)) : TS := fun Dn σ H => ∃ ow s, Stt K c ow ρ σ H s ∧ ContS K c E ρf ow H (m s) Dn
/-- THE JUDGEMENT of a block: from the names ρ on it does what m does; where it goes on, the names are ρf -/
def JSs {α : Type} (X : Cx) (c : Cf S) (E : XK) (ρf : α → En) (ρ : En) (sts : List Stmt) (m : Mo S (Fl α)) : Prop := PSs X sts (tS X.K c E ρf ρ m)
variable {α β γ : Type} {b b' : Bool} {X : Cx} {K : PySem.W.Frag} {c : Cf S} {E : XK} {ρ ρ1 : En} {ρf : α → En} {e e1 e2 : Expr} {m m1 m2 : Mo S D} {ow ow1 : Ows} {σ σ1 : L2.St} {H H1 : Hp} {s s1 : S} {Q : VK} {Dn : Ends} {sts rest : List Stmt}
theorem JSs.of {t : TS} {m : Mo S (Fl α)} (h : PSs X sts t) (w : ∀ Dn σ H, tS X.K c E ρf ρ m Dn σ H → t Dn σ H) : JSs X c E ρf ρ sts m := ⟨fun pins s σ H Dn I q => h.run pins s σ H Dn I (w Dn σ H q)⟩
theorem pss_ex {ι : Type} {t : ι → TS} (h : ∀ i, PSs X sts (t i)) : PSs X sts (fun Dn σ H => ∃ i, t i Dn σ H) := ⟨fun pins s σ H Dn I ⟨i, q⟩ => (h i).run pins s σ H Dn I q⟩
theorem ContS.move {o : Out S (Fl α)} (h : ContS K c E ρf ow H o Dn) (k : Stp c ow H ow1 H1) : ContS K c E ρf ow1 H1 o Dn := by
  cases o with
  | ok fl s =>
    cases fl with
    | nx a => exact fun ow' σ' H' k' => h ow' σ' H' (k.trans k')
    | rt d => exact h
  | ex C pl s => exact h
  | bad => exact h
/-- an expression, then the rest -/
theorem bndS_at {f : D → Mo S (Fl α)} {R : VK} (T : Stt K c ow ρ σ H s) (q : ContS K c E ρf ow H (mBnd m f s) Dn)
    (go : ∀ d s1 v H1, Keep c.W.M H H1 → Stt K c ow ρ σ H1 s1 → RepX b K c ow H1 v d → ContS K c E ρf ow H1 (f d s1) Dn → R v H1) : tE b K c E ρ m σ H R := by
  refine ⟨ow, s, T, ?_⟩
  unfold mBnd at q
  cases e : m s with
  | ok d s1 =>
    rw [e] at q
    exact fun v H1 k o r => go d s1 v H1 k (T.move k o) r (ContS.move q (.of k))
  | ex C pl s1 =>
    rw [e] at q
    exact fun dx H1 k o x => q dx H1 (T.kp.trans k) o x
  | bad =>
    rw [e] at q
    exact q
/-- a test, then the rest -/
theorem bndTS_at {mt : Mo S Bool} {f : Bool → Mo S (Fl α)} {R : Bool → Hp → Prop} (T : Stt K c ow ρ σ H s) (q : ContS K c E ρf ow H (mBnd mt f s) Dn)
    (go : ∀ d s1 H1, Keep c.W.M H H1 → Stt K c ow ρ σ H1 s1 → ContS K c E ρf ow H1 (f d s1) Dn → R d H1) : tT K c E ρ mt σ H R := by
  refine ⟨ow, s, T, ?_⟩
  unfold mBnd at q
  cases e : mt s with
  | ok d s1 =>
    rw [e] at q
    exact fun H1 k o => go d s1 H1 k (T.move k o) (ContS.move q (.of k))
  | ex C pl s1 =>
    rw [e] at q
    exact fun dx H1 k o x => q dx H1 (T.kp.trans k) o x
  | bad =>
    rw [e] at q
    exact q
/-! ### the names -/
/-- forgetting names -/
def Wk : En → En → Prop
  | [], [] => True
  | _ :: r, none :: r' => Wk r r'
  | some a :: r, some b :: r' => a = b ∧ Wk r r'
  | _, _ => False
theorem Wk.refl : ∀ ρ : En, Wk ρ ρ
  | [] => trivial
  | none :: r => Wk.refl r
  | some _ :: r => ⟨rfl, Wk.refl r⟩
theorem Wk.len : ∀ {ρ ρ' : En}, Wk ρ ρ' → ρ.length = ρ'.length
  | [], [], _ => rfl
  | _ :: r, none :: r', h => by simp [Wk.len (ρ := r) (ρ' := r') (by cases ‹Option DV› <;> exact h)]
  | some a :: r, some b :: r', h => by simp [Wk.len (ρ := r) (ρ' := r') h.2]
  | [], _ :: _, h => by cases h
  | none :: _, some _ :: _, h => by cases h
  | _ :: _, [], h => by
    rename_i a r
    cases a <;> cases h
theorem Wk.at_ : ∀ {ρ ρ' : En} {i : Nat} {dv : DV}, Wk ρ ρ' → ρ'[i]? = some (some dv) → ρ[i]? = some (some dv)
  | [], [], _, _, _, e => by simp at e
  | a :: r, none :: r', 0, _, _, e => by simp at e
  | a :: r, none :: r', i + 1, dv, h, e => by
    have h' : Wk r r' := by cases a <;> exact h
    simpa using Wk.at_ (i := i) (dv := dv) h' (by simpa using e)
  | some a :: r, some b :: r', 0, dv, h, e => by
    rw [h.1]
    simpa using e
  | some a :: r, some b :: r', i + 1, dv, h, e => by simpa using Wk.at_ (i := i) (dv := dv) h.2 (by simpa using e)
  | [], _ :: _, _, _, h, _ => by cases h
  | none :: _, some _ :: _, _, _, h, _ => by cases h
  | a :: _, [], _, _, h, _ => by cases a <;> cases h
theorem Stt.weak {ρ' : En} (h : Stt K c ow ρ σ H s) (w : Wk ρ ρ') : Stt K c ow ρ' σ H s := ⟨h.ok, h.kp, h.bl, h.ows, h.inj, h.ln.trans w.len, fun i dv e => h.sl i dv (w.at_ e)⟩
/-- the slot i holds v -/
theorem Stt.setV {i : Nat} {v : V} {d : D} (h : Stt K c ow ρ σ H s) (r : Rep K (c.Nn ow) H v d) : Stt K c ow (ρ.set i (some (.v d))) (σ.set i (some v)) H s := by
  refine ⟨h.ok, h.kp, h.bl, h.ows, h.inj, by simp [h.ln], fun j dv e => ?_⟩
  by_cases hj : i = j
  · subst hj
    by_cases hl : i < ρ.length
    · rw [List.getElem?_set_self hl] at e
      cases e
      refine ⟨v, ?_, r⟩
      rw [List.getElem?_set_self (by rw [h.ln]; exact hl)]
      rfl
    · rw [List.getElem?_eq_none (by simpa using hl)] at e
      cases e
  · rw [List.getElem?_set_ne hj] at e
    rw [List.getElem?_set_ne hj]
    exact h.sl j dv e
theorem Stt.setO {i : Nat} {a : Addr} {n : Nat} (h : Stt K c ow ρ σ H s) (r : c.W.nm n = some a) : Stt K c ow (ρ.set i (some (.opq n))) (σ.set i (some (.ref a))) H s := by
  refine ⟨h.ok, h.kp, h.bl, h.ows, h.inj, by simp [h.ln], fun j dv e => ?_⟩
  by_cases hj : i = j
  · subst hj
    by_cases hl : i < ρ.length
    · rw [List.getElem?_set_self hl] at e
      cases e
      refine ⟨a, ?_, r⟩
      rw [List.getElem?_set_self (by rw [h.ln]; exact hl)]
      rfl
    · rw [List.getElem?_eq_none (by simpa using hl)] at e
      cases e
  · rw [List.getElem?_set_ne hj] at e
    rw [List.getElem?_set_ne hj]
    exact h.sl j dv e
/-- own lists: a slot's address set -/
def owSet (ow : Ows) (i : Nat) (o : Option Addr) : Ows := fun j => if j = i then o else ow j
theorem owSet_same {ow : Ows} {i : Nat} {o : Option Addr} : owSet ow i o i = o := if_pos rfl
theorem owSet_ne {ow : Ows} {i j : Nat} {o : Option Addr} (h : j ≠ i) : owSet ow i o j = ow j := if_neg h
theorem Reps.apart {N : Addr → Prop} {p : Addr} (n : H p = none) : (∀ (d : D) (v : V), Rep K N H v d → Rep K (fun a => N a ∨ a = p) H v d) := by
  have key : ∀ a o, H a = some o → a ≠ p := fun a o e => ne_of_none e n
  have R : (∀ (d : D) (v : V), Rep K N H v d → Rep K (fun a => N a ∨ a = p) H v d) ∧ True := by
    refine ⟨fun d v h => ?_, trivial⟩
    refine Rep.rec (motive_1 := fun v d _ => Rep K (fun a => N a ∨ a = p) H v d) (motive_2 := fun v d _ => Reps K (fun a => N a ∨ a = p) H v d) (motive_3 := fun v d _ => Repk K (fun a => N a ∨ a = p) H v d) ?_ ?_ ?_ ?_ ?_ ?_ ?_ ?_ ?_ ?_ ?_ h
    · exact .non
    · exact fun b => .bl b
    · exact fun i => .int i
    · exact fun x => .str x
    · exact fun n h r ih => .lst (fun z => z.elim n (key _ _ h)) h ih
    · exact fun h r ih => .tup h ih
    · exact fun n h r ih => .dic (fun z => z.elim n (key _ _ h)) h ih
    · exact .nil
    · exact fun _ _ a b => .cons a b
    · exact .nil
    · exact fun _ _ a b => .cons a b
  exact R.1
theorem Reps.apartA {N : Addr → Prop} {p : Addr} (n : H p = none) : ∀ {vs : List V} {ds : List D}, Reps K N H vs ds → Reps K (fun a => N a ∨ a = p) H vs ds
  | _, _, .nil => .nil
  | _, _, .cons h r => .cons (Reps.apart n _ _ h) (Reps.apartA n r)
/-- a slot gets a new list of its own, at p -/
theorem Stt.setOwn {i : Nat} {p : Addr} {xs : List V} {ds : List D} {H' : Hp} {s' : S} (h : Stt K c ow ρ σ H s) (n : H p = none) (k : Keep c.W.M H H') (o : c.W.ok s' H') (hp : H' p = some (.lst xs)) (r : Reps K (fun a => c.Nn ow a ∨ a = p) H' xs ds) :
    Stt K c (owSet ow i (some p)) (ρ.set i (some (.own ds))) (σ.set i (some (.ref p))) H' s' ∧ Stp c ow H (owSet ow i (some p)) H' := by
  have hf := h.fresh n
  have sub : ∀ a, c.Nn (owSet ow i (some p)) a → c.Nn ow a ∨ a = p := fun a z => by
    rcases z with z | z | ⟨j, z⟩
    · exact .inl (.inl z)
    · exact .inl (.inr (.inl z))
    · by_cases hj : j = i
      · subst hj
        rw [owSet_same] at z
        cases z
        exact .inr rfl
      · rw [owSet_ne hj] at z
        exact .inl (.inr (.inr ⟨j, z⟩))
  have other : ∀ j q, j ≠ i → ow j = some q → q ≠ p := fun j q hj e z => hf (by rw [← z]; exact .inr (.inr ⟨j, e⟩))
  refine ⟨⟨o, h.kp.trans k, fun a b => k.al a (h.bl a b), fun j q e => ?_, fun j l q e1 e2 => ?_, by simp [h.ln], fun j dv e => ?_⟩, ⟨k.mono fun _ z => .inl z, fun j q e => ?_⟩⟩
  · by_cases hj : j = i
    · subst hj
      rw [owSet_same] at e
      cases e
      exact ⟨fun z => hf (.inl z), fun z => hf (.inr (.inl z)), by rw [hp]; exact Option.some_ne_none _, h.fresh0 n⟩
    · rw [owSet_ne hj] at e
      obtain ⟨a1, a2, a3, a4⟩ := h.ows j q e
      exact ⟨a1, a2, k.al q a3, a4⟩
  · by_cases hj : j = i
    · by_cases hl : l = i
      · rw [hj, hl]
      · rw [hj, owSet_same] at e1
        rw [owSet_ne hl] at e2
        cases e1
        exact absurd rfl (other l p hl e2)
    · rw [owSet_ne hj] at e1
      by_cases hl : l = i
      · rw [hl, owSet_same] at e2
        cases e2
        exact absurd rfl (other j p hj e1)
      · rw [owSet_ne hl] at e2
        exact h.inj j l q e1 e2
  · by_cases hj : i = j
    · subst hj
      by_cases hl : i < ρ.length
      · rw [List.getElem?_set_self hl] at e
        cases e
        refine ⟨p, xs, ?_, owSet_same, hp, r.sub sub⟩
        rw [List.getElem?_set_self (by rw [h.ln]; exact hl)]
        rfl
      · rw [List.getElem?_eq_none (by simpa using hl)] at e
        cases e
    · rw [List.getElem?_set_ne hj] at e
      rw [List.getElem?_set_ne hj]
      have z := h.sl j dv e
      cases dv with
      | v d =>
        obtain ⟨v, e1, r1⟩ := z
        have q2 := Reps.apart (K := K) n d v r1
        exact ⟨v, e1, (Rep.keep (M := c.W.M) (N' := fun a => c.Nn ow a ∨ a = p) (fun _ z => .inl (.inl z)) (fun _ z => z) k d v q2).sub sub⟩
      | own ds' =>
        obtain ⟨p', xs', e1, e2, e3, r1⟩ := z
        refine ⟨p', xs', e1, by rw [owSet_ne (Ne.symm hj)]; exact e2, k.st p' _ e3 (.inl (h.ows j p' e2).1) rfl, ?_⟩
        have q2 := Reps.apartA (K := K) n r1
        exact (Reps.keep (M := c.W.M) (N' := fun a => c.Nn ow a ∨ a = p) (fun _ z => .inl (.inl z)) (fun _ z => z) k _ _ q2).sub sub
      | opq n' => exact z
  · by_cases hj : j = i
    · subst hj
      rw [owSet_same] at e
      cases e
      exact .inr n
    · rw [owSet_ne hj] at e
      exact .inl ⟨j, e⟩
/-- a list of one's own changes -/
theorem Stt.chg {i : Nat} {p : Addr} {ds ds' : List D} {xs xs' : List V} (h : Stt K c ow ρ σ H s) (hi : ρ[i]? = some (some (.own ds))) (ho : ow i = some p) (hp : H p = some (.lst xs)) (r : Reps K (c.Nn ow) H xs' ds') :
    Stt K c ow (ρ.set i (some (.own ds'))) σ (upd H p (.lst xs')) s ∧ Stp c ow H ow (upd H p (.lst xs')) := by
  have kk : Keep (c.Mw ow) H (upd H p (.lst xs')) := Keep.at_ (.inr ⟨i, ho⟩) hp rfl
  obtain ⟨a1, a2, a3, a4⟩ := h.ows i p ho
  refine ⟨⟨c.W.ext h.ok fun a o e m => ?_, ⟨fun a o e n t => ?_, fun a e => kk.al a (h.kp.al a e)⟩, fun a b => kk.al a (h.bl a b), fun j q e => ?_, h.inj, by simp [h.ln], fun j dv e => ?_⟩, ⟨kk, fun j q e => .inl ⟨j, e⟩⟩⟩
  · have ne : a ≠ p := fun z => by
      subst z
      rcases m with m | m
      · exact a1 m
      · rw [hp] at e
        cases e
        cases m
    rw [upd_ne ne]
    exact e
  · have ne : a ≠ p := fun z => by
      subst z
      rw [a4] at e
      cases e
    rw [upd_ne ne]
    exact h.kp.st a o e n t
  · obtain ⟨b1, b2, b3, b4⟩ := h.ows j q e
    exact ⟨b1, b2, kk.al q b3, b4⟩
  · by_cases hj : i = j
    · subst hj
      obtain ⟨p1, xs1, e1, e2, e3, r1⟩ := h.sl i _ hi
      rw [ho] at e2
      cases e2
      have hl : i < ρ.length := (List.getElem?_eq_some_iff.mp hi).1
      rw [List.getElem?_set_self hl] at e
      cases e
      exact ⟨p, xs', e1, ho, upd_same, Reps.keep (c.MwN ow) (fun _ z => z) kk _ _ r⟩
    · rw [List.getElem?_set_ne hj] at e
      have z := h.sl j dv e
      cases dv with
      | v d =>
        obtain ⟨v, e1, r1⟩ := z
        exact ⟨v, e1, r1.keepW kk⟩
      | own ds1 =>
        obtain ⟨p', xs1, e1, e2, e3, r1⟩ := z
        have ne : p' ≠ p := fun z => hj (h.inj i j p ho (by rw [← z]; exact e2))
        exact ⟨p', xs1, e1, e2, by rw [upd_ne ne]; exact e3, Reps.keep (c.MwN ow) (fun _ z => z) kk _ _ r1⟩
      | opq n' => exact z
/-- a list of one's own is given out: from now on it does not change -/
theorem Stt.rel {i : Nat} {ds : List D} (h : Stt K c ow ρ σ H s) (hi : ρ[i]? = some (some (.own ds))) : Stt K c (owSet ow i none) (ρ.set i (some (.v (.list ds)))) σ H s ∧ Stp c ow H (owSet ow i none) H := by
  obtain ⟨p, xs, e1, e2, e3, r1⟩ := h.sl i _ hi
  have sub : ∀ a, c.Nn (owSet ow i none) a → c.Nn ow a := fun a z => by
    rcases z with z | z | ⟨j, z⟩
    · exact .inl z
    · exact .inr (.inl z)
    · by_cases hj : j = i
      · subst hj
        rw [owSet_same] at z
        cases z
      · rw [owSet_ne hj] at z
        exact .inr (.inr ⟨j, z⟩)
  have old : ∀ {j q}, owSet ow i none j = some q → ow j = some q ∧ j ≠ i := fun {j q} z => by
    by_cases hj : j = i
    · subst hj
      rw [owSet_same] at z
      cases z
    · rw [owSet_ne hj] at z
      exact ⟨z, hj⟩
  have np : ¬ c.Nn (owSet ow i none) p := fun z => by
    rcases z with z | z | ⟨j, z⟩
    · exact (h.ows i p e2).1 z
    · exact (h.ows i p e2).2.1 z
    · obtain ⟨z, hj⟩ := old z
      exact hj (h.inj j i p z e2)
  refine ⟨⟨h.ok, h.kp, h.bl, fun j q e => h.ows j q (old e).1, fun j l q a b => h.inj j l q (old a).1 (old b).1, by simp [h.ln], fun j dv e => ?_⟩, ⟨.refl, fun j q e => .inl ⟨j, (old e).1⟩⟩⟩
  by_cases hj : i = j
  · subst hj
    have hl : i < ρ.length := (List.getElem?_eq_some_iff.mp hi).1
    rw [List.getElem?_set_self hl] at e
    cases e
    exact ⟨_, e1, .lst np e3 (r1.sub sub)⟩
  · rw [List.getElem?_set_ne hj] at e
    have z := h.sl j dv e
    cases dv with
    | v d =>
      obtain ⟨v, e1, r1⟩ := z
      exact ⟨v, e1, r1.sub sub⟩
    | own ds' =>
      obtain ⟨p', xs', f1, f2, f3, f4⟩ := z
      exact ⟨p', xs', f1, by rw [owSet_ne (Ne.symm hj)]; exact f2, f3, f4.sub sub⟩
    | opq n' => exact z

/-! ### blocks -/
theorem bs_nil (a : α) (w : Wk ρ (ρf a)) : JSs X c E ρf ρ [] (mRet (.nx a)) := JSs.of pss_nil fun Dn σ H ⟨ow, s, T, q⟩ => q ow σ H .refl (T.weak w)
/-- a def falls off its end -/
theorem JSs.rel {m : Mo S (Fl α)} (i : Nat) {ds : List D} (hi : ρ[i]? = some (some (.own ds))) (h : JSs X c E ρf (ρ.set i (some (.v (.list ds)))) sts m) : JSs X c E ρf ρ sts m :=
  ⟨fun pins s σ H Dn I ⟨ow, s', T, q⟩ => h.run pins s σ H Dn I ⟨_, s', (T.rel hi).1, ContS.move q (T.rel hi).2⟩⟩
theorem JSs.weak {m : Mo S (Fl α)} (w : Wk ρ ρ1) (h : JSs X c E ρf ρ1 sts m) : JSs X c E ρf ρ sts m := ⟨fun pins s σ H Dn I ⟨ow, s', T, q⟩ => h.run pins s σ H Dn I ⟨ow, s', T.weak w, q⟩⟩
/-- x = e -/
theorem bs_set (i : Nat) {x : Str} {pos pos' : Pos} {k : D → Mo S (Fl α)} (nd : X.N.Nodup) (he : JE false X c E ρ e m) (hr : ∀ d, JSs X c E ρf (ρ.set i (some (.v d))) rest (k d))
    (hi : X.N[i]? = some x := by rfl) (hx : Loc X.env.scope x := by first | exact .inl rfl | exact .inr rfl) (hs : swapsWith e (some (.Name x pos')) pos.line X.env = pure false := by rfl)
    (hf : X.fn x = true ∨ X.env.scope.names.lookup x = some .local := by first | exact .inl rfl | exact .inr rfl | assumption) : JSs X c E ρf ρ (.Assign [.Name x pos'] e pos :: rest) (mBnd m k) :=
  JSs.of (pss_cons (ps_set nd hi hx he hs hf) (pss_ex hr)) fun Dn σ H ⟨ow, s, T, q⟩ => bndS_at T q fun d s1 v H1 k1 T1 r q1 => ⟨d, ow, s1, T1.setV r.val, q1⟩
/-- return e -/
theorem bs_ret {pos : Pos} (he : JE false X c E ρ e m) : JSs X c E ρf ρ [.Return (some e) pos] (mBnd m fun d => mRet (.rt d)) :=
  JSs.of (pss_one (ps_ret he)) fun Dn σ H ⟨ow, s, T, q⟩ => bndS_at (b := false) T q fun d s1 v H1 k1 T1 r q1 => q1 v H1 T1.kp T1.ok (r.val.sub (c.N0N ow))
/-- an expression alone -/
theorem bs_expr {pos : Pos} {k : Mo S (Fl α)} (he : JE b X c E ρ e m) (hr : JSs X c E ρf ρ rest k) (hs : swapsWith e none pos.line X.env = pure false := by rfl) : JSs X c E ρf ρ (.Expr e pos :: rest) (mBnd m fun _ => k) :=
  JSs.of (pss_cons (ps_expr he hs) hr) fun Dn σ H ⟨ow, s, T, q⟩ => bndS_at T q fun d s1 v H1 k1 T1 r q1 => ⟨ow, s1, T1, q1⟩
/-- code that the proof never comes to: m has no word -/
theorem bs_never : JSs X c E ρf ρ sts mBad := JSs.of pss_never fun Dn σ H ⟨ow, s, T, q⟩ => q
def mBndF (m : Mo S (Fl β)) (k : β → Mo S (Fl α)) : Mo S (Fl α) := mBnd m fun fl => match fl with
  | .nx a => k a
  | .rt d => mRet (.rt d)
theorem bndF_at {ρ1 : β → En} {mm : Mo S (Fl β)} {k : β → Mo S (Fl α)} {u : TS} (q : ContS K c E ρf ow H (mBndF mm k s) Dn)
    (go : ∀ a s1 ow1 σ1 H1, Stp c ow H ow1 H1 → Stt K c ow1 (ρ1 a) σ1 H1 s1 → ContS K c E ρf ow1 H1 (k a s1) Dn → u Dn σ1 H1) : ContS K c E ρ1 ow H (mm s) { Dn with nx := u Dn } := by
  unfold mBndF mBnd at q
  cases e : mm s with
  | ok fl s1 =>
    rw [e] at q
    cases fl with
    | nx a => exact fun ow1 σ1 H1 k1 T1 => go a s1 ow1 σ1 H1 k1 T1 (ContS.move q k1)
    | rt d => exact q
  | ex C pl s1 =>
    rw [e] at q
    exact q
  | bad =>
    rw [e] at q
    exact q
/-- if c: a else: b, and what follows -/
theorem bs_if {et : Expr} {sa sb : List Stmt} {mt : Mo S Bool} {ma mb : Mo S (Fl β)} {k : β → Mo S (Fl α)} {pos : Pos} (ρ1 : β → En) (ht : JT X c E ρ et mt) (ha : JSs X c E ρ1 ρ sa ma) (hb : JSs X c E ρ1 ρ sb mb)
    (hr : ∀ a, JSs X c E ρf (ρ1 a) rest (k a)) : JSs X c E ρf ρ (.If et sa sb pos :: rest) (mBnd mt fun z => mBndF (if z = true then ma else mb) k) :=
  JSs.of (pss_cons (ps_if ht ha hb) (pss_ex hr)) fun Dn σ H ⟨ow, s, T, q⟩ => bndTS_at T q fun z s1 H1 k1 T1 q1 => by
    cases z with
    | true => exact ⟨ow, s1, T1, bndF_at (ρ1 := ρ1) (mm := ma) (u := fun Dn σ H => ∃ i, tS X.K c E ρf (ρ1 i) (k i) Dn σ H) q1 fun a s2 ow2 σ2 H2 k2 T2 q2 => ⟨a, ow2, s2, T2, q2⟩⟩
    | false => exact ⟨ow, s1, T1, bndF_at (ρ1 := ρ1) (mm := mb) (u := fun Dn σ H => ∃ i, tS X.K c E ρf (ρ1 i) (k i) Dn σ H) q1 fun a s2 ow2 σ2 H2 k2 T2 q2 => ⟨a, ow2, s2, T2, q2⟩⟩
/-- .. nothing follows -/
theorem bs_if1 {et : Expr} {sa sb : List Stmt} {mt : Mo S Bool} {ma mb : Mo S (Fl α)} {pos : Pos} (ht : JT X c E ρ et mt) (ha : JSs X c E ρf ρ sa ma) (hb : JSs X c E ρf ρ sb mb) :
    JSs X c E ρf ρ [.If et sa sb pos] (mBnd mt fun z => if z = true then ma else mb) :=
  JSs.of (pss_one (ps_if ht ha hb)) fun Dn σ H ⟨ow, s, T, q⟩ => bndTS_at T q fun z s1 H1 k1 T1 q1 => by
    cases z with
    | true => exact ⟨ow, s1, T1, q1⟩
    | false => exact ⟨ow, s1, T1, q1⟩
/-- it never goes on: it returns, raises, or has no word -/
def NoNx {α : Type} (m : Mo S (Fl α)) : Prop := ∀ s a s', m s ≠ .ok (.nx a) s'
theorem nonx_rt {d : D} : NoNx (mRet (.rt d) : Mo S (Fl α)) := fun s a s' z => by cases z
theorem nonx_bad : NoNx (mBad : Mo S (Fl α)) := fun s a s' z => by cases z
theorem nonx_thr {C : Str} {pl : Option (Str × D)} : NoNx (mThr C pl : Mo S (Fl α)) := fun s a s' z => by cases z
theorem nonx_bnd {m : Mo S γ} {f : γ → Mo S (Fl α)} (h : ∀ x, NoNx (f x)) : NoNx (mBnd m f) := fun s a s' z => by
  unfold mBnd at z
  cases e : m s with
  | ok x s1 => rw [e] at z; exact h x s1 a s' z
  | ex _ _ _ => rw [e] at z; cases z
  | bad => rw [e] at z; cases z
theorem nonx_ite {k : Bool} {m1 m2 : Mo S (Fl α)} (h1 : NoNx m1) (h2 : NoNx m2) : NoNx (if k = true then m1 else m2) := by
  cases k
  · exact h2
  · exact h1
theorem nonx_bndF {m : Mo S (Fl β)} {f : β → Mo S (Fl α)} (h : ∀ x, NoNx (f x)) : NoNx (mBndF m f) := nonx_bnd fun fl => by
  cases fl with
  | nx a => exact h a
  | rt d => exact nonx_rt
/-- if c: a (which never goes on), and what follows -/
theorem bs_ifr {et : Expr} {sa : List Stmt} {mt : Mo S Bool} {ma mr : Mo S (Fl α)} {pos : Pos} (ht : JT X c E ρ et mt) (ha : JSs X c E ρf ρ sa ma) (hn : NoNx ma) (hr : JSs X c E ρf ρ rest mr) :
    JSs X c E ρf ρ (.If et sa [] pos :: rest) (mBnd mt fun z => if z = true then ma else mr) :=
  JSs.of (pss_cons (ps_if ht ha pss_nil) hr) fun Dn σ H ⟨ow, s, T, q⟩ => bndTS_at T q fun z s1 H1 k1 T1 q1 => by
    cases z with
    | true =>
      refine ⟨ow, s1, T1, ?_⟩
      have q1 : ContS X.K c E ρf ow H1 (ma s1) Dn := q1
      show ContS X.K c E ρf ow H1 (ma s1) _
      cases e : ma s1 with
      | ok fl s2 =>
        rw [e] at q1
        cases fl with
        | nx a => exact absurd e (hn s1 a s2)
        | rt d => exact q1
      | ex C pl s2 => rw [e] at q1; exact q1
      | bad => rw [e] at q1; exact q1
    | false => exact ⟨ow, s1, T1, q1⟩
/-- while c: body, with so many turns at most -/
def mWhile (n : Nat) (t : α → Mo S Bool) (f : α → Mo S (Fl α)) (a : α) : Mo S (Fl α) := match n with
  | 0 => mBad
  | n + 1 => mBnd (t a) fun z => if z = true then mBndF (f a) fun a' => mWhile n t f a' else mRet (.nx a)
theorem bs_while {et : Expr} {body : List Stmt} {pos : Pos} {t : β → Mo S Bool} {f : β → Mo S (Fl β)} {k : β → Mo S (Fl α)} (n : Nat) (ρ1 : β → En) (a0 : β) (hp : PassesOwn (model X.prog X.w) X.A X.env X.xe) (w : Wk ρ (ρ1 a0)) (ht : ∀ a, JT X c E (ρ1 a) et (t a))
    (hb : ∀ a, JSs X c E ρ1 (ρ1 a) body (f a)) (hr : ∀ a, JSs X c E ρf (ρ1 a) rest (k a)) : JSs X c E ρf ρ (.While et body [] pos :: rest) (mBndF (mWhile n t f a0) k) := by
  have ptx : PT X et (fun σ H Q => ∃ a, tT X.K c E (ρ1 a) (t a) σ H Q) := ⟨fun pins s σ H Q I ⟨a, q⟩ => (ht a).run pins s σ H Q I q⟩
  refine JSs.of (pss_cons (ps_while hp ptx (pss_ex hb)) (pss_ex hr)) fun Dn σ H ⟨ow, s, T, q⟩ => ?_
  refine ⟨fun m σ H => ∃ a ow s, Stt X.K c ow (ρ1 a) σ H s ∧ ContS X.K c E ρf ow H (mBndF (mWhile m t f a) k s) Dn, ⟨n, a0, ow, s, T.weak w, q⟩, ?_⟩
  rintro m σ H ⟨a, ow, s, T, q⟩
  cases m with
  | zero => exact q.elim
  | succ m =>
    have e : mBndF (mWhile (m + 1) t f a) k = mBnd (t a) fun z => if z = true then mBndF (f a) (fun a' => mBndF (mWhile m t f a') k) else k a := by
      show mBnd (mBnd (t a) fun z => if z = true then mBndF (f a) fun a' => mWhile m t f a' else mRet (.nx a)) _ = _
      rw [mBnd_assoc]
      refine mBnd_fun fun z => ?_
      cases z with
      | true =>
        show mBnd (mBnd (f a) _) _ = mBnd (f a) _
        rw [mBnd_assoc]
        refine mBnd_fun fun fl => ?_
        cases fl <;> rfl
      | false => rfl
    rw [e] at q
    refine ⟨a, bndTS_at T q fun z s1 H1 k1 T1 q1 => ?_⟩
    cases z with
    | true =>
      refine ⟨fun σ' H' => ∃ a ow s, Stt X.K c ow (ρ1 a) σ' H' s ∧ ContS X.K c E ρf ow H' (mBndF (mWhile m t f a) k s) Dn, fun σ' H' z => ⟨m, Nat.lt_succ_self m, z⟩, a, ow, s1, T1, ?_⟩
      have q1 : ContS X.K c E ρf ow H1 (mBndF (f a) (fun a' => mBndF (mWhile m t f a') k) s1) Dn := q1
      have g := bndF_at (ρ1 := ρ1) (u := fun Dn σ' H' => ∃ a ow s, Stt X.K c ow (ρ1 a) σ' H' s ∧ ContS X.K c E ρf ow H' (mBndF (mWhile m t f a) k s) Dn) q1 fun a' s2 ow2 σ2 H2 k2 T2 q2 => ⟨a', ow2, s2, T2, q2⟩
      show ContS X.K c E ρ1 ow H1 (f a s1) _
      cases e1 : f a s1 with
      | ok fl s2 => rw [e1] at g; cases fl <;> exact g
      | ex C pl s2 => rw [e1] at g; exact g
      | bad => rw [e1] at g; exact g
    | false =>
      have q1 : ContS X.K c E ρf ow H1 (k a s1) Dn := q1
      exact ⟨a, ow, s1, T1, q1⟩
end
end Cz
set_option Elab.async false
set_option linter.all false
set_option maxRecDepth 100000
set_option maxHeartbeats 2000000
/-! New lists (JF), what is walked (JI), for, comprehensions, lists of one's own, a def's body. -/
namespace Cz
open PySem PySem.Spec PyProof.Rows L2
/-- what is not there may be excluded too -/
theorem Rep.wide {K : PySem.W.Frag} {N N' : Addr → Prop} {H : Hp} (w : ∀ a, N' a → N a ∨ H a = none) {v : V} {d : D} (h : Rep K N H v d) : Rep K N' H v d := by
  have key : ∀ {a o}, ¬ N a → H a = some o → ¬ N' a := fun n e z => (w _ z).elim n fun q => by rw [e] at q; cases q
  refine Rep.rec (motive_1 := fun v d _ => Rep K N' H v d) (motive_2 := fun v d _ => Reps K N' H v d) (motive_3 := fun v d _ => Repk K N' H v d) ?_ ?_ ?_ ?_ ?_ ?_ ?_ ?_ ?_ ?_ ?_ h
  · exact .non
  · exact fun b => .bl b
  · exact fun i => .int i
  · exact fun x => .str x
  · exact fun n h r ih => .lst (key n h) h ih
  · exact fun h r ih => .tup h ih
  · exact fun n h r ih => .dic (key n h) h ih
  · exact .nil
  · exact fun _ _ a b => .cons a b
  · exact .nil
  · exact fun _ _ a b => .cons a b
theorem Reps.wide {K : PySem.W.Frag} {N N' : Addr → Prop} {H : Hp} (w : ∀ a, N' a → N a ∨ H a = none) : ∀ {vs : List V} {ds : List D}, Reps K N H vs ds → Reps K N' H vs ds
  | _, _, .nil => .nil
  | _, _, .cons h r => .cons (h.wide w) (Reps.wide w r)
section
variable {S : Type} [WCl S] {α β γ : Type} {b b' : Bool} {X : Cx} {K : PySem.W.Frag} {c : Cf S} {E : XK} {ρ ρ1 : En} {ρf : α → En} {e e1 e2 : Expr} {m m1 m2 : Mo S D} {ml : Mo S (List D)} {ow ow1 : Ows} {σ σ1 : L2.St} {H H1 : Hp} {s s1 : S} {Q : VK} {Dn : Ends} {sts rest : List Stmt}
/-! ### a new list -/
def ContF (K : PySem.W.Frag) (c : Cf S) (E : XK) (ow : Ows) (H : Hp) (o : Out S (List D)) (Q : VK) : Prop :=
  o.post (fun ds s' => ∀ p xs H', H p = none → Keep c.W.M H H' → c.W.ok s' H' → H' p = some (.lst xs) → Reps K (fun a => c.Nn ow a ∨ a = p) H' xs ds → Q (.ref p) H')
    (fun C pl s' => ∀ dx H', Keep c.W.M H H' → c.W.ok s' H' → Exo K c.N0 H' pl dx → E (.ref (He.ga K C)) dx H')
def tF (K : PySem.W.Frag) (c : Cf S) (E : XK) (ρ : En) (m : Mo S (List D)) : TE := fun σ H Q => ∃ ow s, Stt K c ow ρ σ H s ∧ ContF K c E ow H (m s) Q
def JF (X : Cx) (c : Cf S) (E : XK) (ρ : En) (e : Expr) (m : Mo S (List D)) : Prop := PE X e (tF X.K c E ρ m)
theorem none_of_alive {M : Addr → Prop} {H H1 : Hp} {p : Addr} (k : Keep M H H1) (n : H1 p = none) : H p = none := by
  cases e : H p with
  | none => rfl
  | some o => exact absurd n (k.al p (by rw [e]; exact Option.some_ne_none _))
theorem ContF.move {o : Out S (List D)} (h : ContF K c E ow H o Q) (k : Keep c.W.M H H1) : ContF K c E ow H1 o Q := by
  cases o with
  | ok d s => exact fun p xs H' n k' => h p xs H' (none_of_alive k n) (k.trans k')
  | ex C pl s => exact fun dx H' k' => h dx H' (k.trans k')
  | bad => exact h
theorem JF.of {t : TE} (h : PE X e t) (w : ∀ σ H Q, tF X.K c E ρ ml σ H Q → t σ H Q) : JF X c E ρ e ml := ⟨fun pins s σ H Q I q => h.run pins s σ H Q I (w σ H Q q)⟩
theorem JF.je (h : JF X c E ρ e ml) : JE b X c E ρ e (mBnd ml fun ds => mRet (.list ds)) := JE.of h fun σ H Q ⟨ow, s, T, q⟩ => by
  refine ⟨ow, s, T, ?_⟩
  unfold mBnd at q
  cases z : ml s with
  | ok ds s1 =>
    rw [z] at q
    intro p xs H' n k o hp r
    exact q _ H' k o (.inl (.lst (T.fresh n) hp (r.sub fun _ z => .inl z)))
  | ex C pl s1 => rw [z] at q; exact q
  | bad => rw [z] at q; exact q
/-- parts first, then a new list -/
theorem bndF0_at {f : D → Mo S (List D)} {R : VK} (T : Stt K c ow ρ σ H s) (q : ContF K c E ow H (mBnd m f s) Q)
    (go : ∀ d s1 v H1, Keep c.W.M H H1 → Stt K c ow ρ σ H1 s1 → RepX b K c ow H1 v d → ContF K c E ow H1 (f d s1) Q → R v H1) : tE b K c E ρ m σ H R := by
  refine ⟨ow, s, T, ?_⟩
  unfold mBnd at q
  cases e : m s with
  | ok d s1 =>
    rw [e] at q
    exact fun v H1 k o r => go d s1 v H1 k (T.move k o) r (ContF.move q k)
  | ex C pl s1 => rw [e] at q; exact q
  | bad => rw [e] at q; exact q
theorem allF_at {R : List V → Hp → Prop} : ∀ {ms : List (Mo S D)} {f : List D → Mo S (List D)} {H : Hp} {s : S}, Stt K c ow ρ σ H s → ContF K c E ow H (mBnd (mAll ms) f s) Q →
    (∀ ds s2 vs H2, Keep c.W.M H H2 → Stt K c ow ρ σ H2 s2 → RepXs b K c ow H2 vs ds → ds.length = ms.length → ContF K c E ow H2 (f ds s2) Q → R vs H2) → tAs b K c E ρ ms σ H R
  | [], f, H, s, T, q, go => go [] s [] H .refl T .nil rfl q
  | m :: ms, f, H, s, T, q, go => by
    have e : mBnd (mAll (m :: ms)) f = mBnd m fun d => mBnd (mAll ms) fun ds => f (d :: ds) := by
      show mBnd (mBnd m fun d => mBnd (mAll ms) fun ds => mRet (d :: ds)) f = _
      rw [mBnd_assoc]
      refine mBnd_fun fun d => ?_
      rw [mBnd_assoc]
      exact mBnd_fun fun ds => mBnd_ret
    rw [e] at q
    refine bndF0_at (b := b) T q fun d s1 v H1 k1 T1 r1 q1 => ?_
    refine allF_at (f := fun ds => f (d :: ds)) (R := fun vs H2 => R (v :: vs) H2) T1 q1 fun ds s2 vs H2 k2 T2 r2 l2 q2 => ?_
    exact go (d :: ds) s2 (v :: vs) H2 (k1.trans k2) T2 (.cons (r1.keepM k2 T1) r2) (by simp [l2]) q2
theorem ofF_done {o : Option (List D)} (T : Stt K c ow ρ σ H s) (q : ContF K c E ow H (mOf o s) Q) {xs : List V} {p : Addr} (n : H p = none) (r : ∀ ds, o = some ds → Reps K (c.Nn ow) H xs ds) : Q (.ref p) (upd H p (.lst xs)) := by
  cases o with
  | none => exact q.elim
  | some ds =>
    refine q p xs _ n (T.new n).1 (T.new n).2 upd_same ?_
    have r1 := Reps.wide (N' := fun a => c.Nn ow a ∨ a = p) (fun a z => z.imp id fun z => by rw [z]; exact n) (r ds rfl)
    exact r1.keepS (same_new n)
def gSmall (ds : List D) : Option (List D) := if ds.length ≤ sizeLine then some ds else none
theorem gSmall_some {ds es : List D} (e : gSmall ds = some es) : es = ds ∧ ds.length ≤ sizeLine := by
  unfold gSmall at e
  split at e
  · rename_i h
    exact ⟨(Option.some.inj e).symm, h⟩
  · cases e
theorem gSmall_of {ds : List D} (h : ds.length ≤ sizeLine) : gSmall ds = some ds := if_pos h
theorem jf_lst {es : List Expr} {ms : List (Mo S D)} {pos} (h : JA false X c E ρ es ms) : JF X c E ρ (.List es pos) (mBnd (mAll ms) fun ds => mOf (gSmall ds)) :=
  JF.of (pe_lst h.pa) fun σ H Q ⟨ow, s, T, q⟩ => allF_at T q fun ds s2 vs H2 k T2 r _ q2 => by
    cases e : gSmall ds with
    | none => rw [e] at q2; exact q2.elim
    | some es =>
      obtain ⟨e1, hl⟩ := gSmall_some e
      rw [e] at q2
      exact ⟨by rw [r.len]; exact hl, fun p n => ofF_done T2 q2 n fun ds' z => by cases z; rw [e1]; exact r.vals⟩

/-! ### what is walked -/
structure ItD (K : PySem.W.Frag) (c : Cf S) (ow : Ows) (H1 : Hp) (J : It) (ds : List D) : Prop where
  go : ∀ i H, Keep (c.Mw ow) H1 H → i < ds.length → J.go i H
  st : ∀ i H, Keep (c.Mw ow) H1 H → ds.length ≤ i → J.stop i H
  yl : ∀ i H x H', Keep (c.Mw ow) H1 H → J.yld i H x H' → Same H H' ∧ ∀ d, ds[i]? = some d → ∀ N' : Addr → Prop, (∀ a, N' a → c.Nn ow a ∨ H1 a = none) → Rep K N' H' x d
def ContI (K : PySem.W.Frag) (c : Cf S) (E : XK) (ow : Ows) (H : Hp) (o : Out S (List D)) (R : It → Hp → Prop) : Prop :=
  o.post (fun ds s' => ∀ J H1, Keep c.W.M H H1 → c.W.ok s' H1 → ItD K c ow H1 J ds → R J H1)
    (fun C pl s' => ∀ dx H', Keep c.W.M H H' → c.W.ok s' H' → Exo K c.N0 H' pl dx → E (.ref (He.ga K C)) dx H')
def tI (K : PySem.W.Frag) (c : Cf S) (E : XK) (ρ : En) (m : Mo S (List D)) : TI := fun σ H R => ∃ ow s, Stt K c ow ρ σ H s ∧ ContI K c E ow H (m s) R
def JI (X : Cx) (c : Cf S) (E : XK) (ρ : En) (tg it : Expr) (m : Mo S (List D)) : Prop := PI X tg it (tI X.K c E ρ m)
variable {tg it : Expr}
theorem JI.of {t : TI} (h : PI X tg it t) (w : ∀ σ H Q, tI X.K c E ρ ml σ H Q → t σ H Q) : JI X c E ρ tg it ml := ⟨fun pins s σ H Q I q => h.run pins s σ H Q I (w σ H Q q)⟩
theorem pi_or {t u : TI} (h : PI X tg it t) (h' : PI X tg it u) : PI X tg it (fun σ H R => t σ H R ∨ u σ H R) := ⟨fun pins s σ H R I q => q.elim (h.run pins s σ H R I) (h'.run pins s σ H R I)⟩
/-- items of a list or tuple, at a later heap -/
theorem items_rep {N' : Addr → Prop} {H2 : Hp} {xs : List V} {ds : List D} (r : Reps K (c.Nn ow) H1 xs ds) (k : Keep (c.Mw ow) H1 H2) (w : ∀ a, N' a → c.Nn ow a ∨ H1 a = none) : Reps K N' H2 xs ds := by
  have r1 := Reps.wide (N' := fun a => c.Nn ow a ∨ N' a) (fun a z => z.elim .inl (w a)) r
  have r2 := Reps.keep (M := c.Mw ow) (N' := fun a => c.Nn ow a ∨ N' a) (fun a z => .inl (c.MwN ow a z)) (fun _ z => z) k _ _ r1
  exact r2.sub fun _ z => .inr z
/-- the items of a list that is not in N -/
def gSeq : D → Option (List D)
  | .list ds => some ds
  | .tuple ds => some ds
  | _ => none
theorem itd_list {p : Addr} {xs : List V} {ds : List D} (n : ¬ c.Mw ow p) (hp : H1 p = some (.lst xs)) (r : Reps K (c.Nn ow) H1 xs ds) : ItD K c ow H1 (Itl K p) ds := by
  have key : ∀ {H}, Keep (c.Mw ow) H1 H → SqL K H p xs := fun k => SqL.of (k.st p _ hp (.inl n) rfl)
  refine ⟨fun i H k hi => ?_, fun i H k hi => ⟨xs, key k, by rw [r.len]; exact hi⟩, fun i H x H' k y => ?_⟩
  · obtain ⟨v, e, _⟩ := r.get (List.getElem?_eq_getElem hi)
    exact ⟨xs, v, key k, e⟩
  · obtain ⟨e, y⟩ := y
    subst e
    refine ⟨fun _ _ h => h, fun d hd N' w => ?_⟩
    obtain ⟨v, e, r1⟩ := (items_rep r k w).get hd
    have := y xs (key k)
    rw [e] at this
    cases this
    exact r1
theorem itd_tup {p : Addr} {xs : List V} {ds : List D} (hp : SqT K H1 p xs) (r : Reps K (c.Nn ow) H1 xs ds) : ItD K c ow H1 (Itt K p) ds := by
  have key : ∀ {H}, Keep (c.Mw ow) H1 H → SqT K H p xs := fun k => SqT.keep k hp
  refine ⟨fun i H k hi => ?_, fun i H k hi => ⟨xs, key k, by rw [r.len]; exact hi⟩, fun i H x H' k y => ?_⟩
  · obtain ⟨v, e, _⟩ := r.get (List.getElem?_eq_getElem hi)
    exact ⟨xs, v, key k, e⟩
  · obtain ⟨e, y⟩ := y
    subst e
    refine ⟨fun _ _ h => h, fun d hd N' w => ?_⟩
    obtain ⟨v, e, r1⟩ := (items_rep r k w).get hd
    have := y xs (key k)
    rw [e] at this
    cases this
    exact r1
/-- for x in e: a list or a tuple (none of one's own) -/
theorem ji_seq (h : JE false X c E ρ it m) : JI X c E ρ tg it (mBnd m fun d => mOf (gSeq d)) :=
  JI.of (pi_or (pi_list h) (pi_tup h)) fun σ H R ⟨ow, s, T, q⟩ => by
    unfold mBnd at q
    cases e : m s with
    | ok d s1 =>
      rw [e] at q
      cases d with
      | list ds =>
        refine .inl ⟨ow, s, T, ?_⟩
        rw [e]
        intro v H1 k o r
        obtain ⟨p, xs, rfl, hp, r1⟩ := r.list
        refine ⟨p, rfl, ⟨xs, SqL.of hp⟩, q _ H1 k o (itd_list ?_ hp r1)⟩
        cases r.val with
        | lst n _ _ => exact fun z => n (c.MwN ow _ z)
      | tuple ds =>
        refine .inr ⟨ow, s, T, ?_⟩
        rw [e]
        intro v H1 k o r
        obtain ⟨p, xs, rfl, hp, r1⟩ := r.tuple
        exact ⟨p, rfl, ⟨xs, hp⟩, q _ H1 k o (itd_tup hp r1)⟩
      | none => exact q.elim
      | bool _ => exact q.elim
      | int _ => exact q.elim
      | str _ => exact q.elim
      | dict _ => exact q.elim
    | ex C pl s1 =>
      rw [e] at q
      refine .inl ⟨ow, s, T, ?_⟩
      rw [e]
      exact q
    | bad => rw [e] at q; exact q.elim
/-- lo, lo + 1, .. -/
def dRange (lo : Int) (n : Nat) : List D := (List.range n).map fun i => .int (lo + (i : Nat))
theorem itd_range {lo : Int} {n : Nat} : ItD K c ow H1 (Itr lo n) (dRange lo n) := by
  refine ⟨fun i H k hi => show i < n by simpa [dRange] using hi, fun i H k hi => show n ≤ i by simpa [dRange] using hi, fun i H x H' k y => ?_⟩
  obtain ⟨e1, e2⟩ := y
  subst e1
  refine ⟨fun _ _ h => h, fun d hd N' w => ?_⟩
  unfold dRange at hd
  rw [List.getElem?_map] at hd
  cases hi : (List.range n)[i]? with
  | none => rw [hi] at hd; cases hd
  | some j =>
    rw [hi] at hd
    have hj : i = j := by
      obtain ⟨h1, h2⟩ := List.getElem?_eq_some_iff.mp hi
      simpa using h2
    have hd := Option.some.inj hd
    subst hj
    rw [e2, ← hd]
    exact .int _
def gRange : List D → Option (List D)
  | [.int j] => if -(2 ^ 62) ≤ j ∧ j < 2 ^ 62 then some (dRange 0 j.toNat) else none
  | [.int i, .int j] => if -(2 ^ 62) ≤ i ∧ i < 2 ^ 62 ∧ -(2 ^ 62) ≤ j ∧ j < 2 ^ 62 then some (dRange i (j - i).toNat) else none
  | _ => none
theorem allI_at {R : List V → Hp → Prop} {RI : It → Hp → Prop} : ∀ {ms : List (Mo S D)} {f : List D → Mo S (List D)} {H : Hp} {s : S}, Stt K c ow ρ σ H s → ContI K c E ow H (mBnd (mAll ms) f s) RI →
    (∀ ds s2 vs H2, Keep c.W.M H H2 → Stt K c ow ρ σ H2 s2 → RepXs b K c ow H2 vs ds → ds.length = ms.length → ContI K c E ow H2 (f ds s2) RI → R vs H2) → tAs b K c E ρ ms σ H R
  | [], f, H, s, T, q, go => go [] s [] H .refl T .nil rfl q
  | m :: ms, f, H, s, T, q, go => by
    have e : mBnd (mAll (m :: ms)) f = mBnd m fun d => mBnd (mAll ms) fun ds => f (d :: ds) := by
      show mBnd (mBnd m fun d => mBnd (mAll ms) fun ds => mRet (d :: ds)) f = _
      rw [mBnd_assoc]
      refine mBnd_fun fun d => ?_
      rw [mBnd_assoc]
      exact mBnd_fun fun ds => mBnd_ret
    rw [e] at q
    refine ⟨ow, s, T, ?_⟩
    unfold mBnd at q
    cases e2 : m s with
    | ok d s1 =>
      rw [e2] at q
      intro v H1 k1 o1 r1
      have T1 := T.move k1 o1
      have q1 : ContI K c E ow H1 (mBnd (mAll ms) (fun ds => f (d :: ds)) s1) RI := by
        cases z : mBnd (mAll ms) (fun ds => f (d :: ds)) s1 with
        | ok ds s2 => unfold mBnd at z; rw [z] at q; exact fun J H' k' => q J H' (k1.trans k')
        | ex C pl s2 => unfold mBnd at z; rw [z] at q; exact fun dx H' k' => q dx H' (k1.trans k')
        | bad => unfold mBnd at z; rw [z] at q; exact q
      refine allI_at (f := fun ds => f (d :: ds)) (R := fun vs H2 => R (v :: vs) H2) T1 q1 fun ds s2 vs H2 k2 T2 r2 l2 q2 => ?_
      exact go (d :: ds) s2 (v :: vs) H2 (k1.trans k2) T2 (.cons (r1.keepM k2 T1) r2) (by simp [l2]) q2
    | ex C pl s1 => rw [e2] at q; exact q
    | bad => rw [e2] at q; exact q
theorem RepXs.one {vs : List V} {d : D} (r : RepXs b K c ow H vs [d]) : ∃ v, vs = [v] ∧ RepX b K c ow H v d := by
  cases r with
  | cons h r => cases r; exact ⟨_, rfl, h⟩
theorem RepXs.two {vs : List V} {d d' : D} (r : RepXs b K c ow H vs [d, d']) : ∃ v v', vs = [v, v'] ∧ RepX b K c ow H v d ∧ RepX b K c ow H v' d' := by
  cases r with
  | cons h r => cases r with
    | cons h' r => cases r; exact ⟨_, _, rfl, h, h'⟩
theorem ofI_done {o : Option (List D)} {R : It → Hp → Prop} (q : ContI K c E ow H (mOf o s) R) : ∃ ds, o = some ds ∧ ∀ J H1, Keep c.W.M H H1 → c.W.ok s H1 → ItD K c ow H1 J ds → R J H1 := by
  cases o with
  | none => exact q.elim
  | some ds => exact ⟨ds, rfl, q⟩
theorem gRange1 {d : D} {ds : List D} (e : gRange [d] = some ds) : ∃ j, d = .int j ∧ -(2 ^ 62) ≤ j ∧ j < 2 ^ 62 ∧ ds = dRange 0 j.toNat := by
  cases d with
  | int j =>
    have e : (if -(2 ^ 62) ≤ j ∧ j < 2 ^ 62 then some (dRange 0 j.toNat) else none) = some ds := e
    split at e
    · rename_i h
      exact ⟨j, rfl, h.1, h.2, (Option.some.inj e).symm⟩
    · cases e
  | _ => cases e
theorem gRange2 {d d' : D} {ds : List D} (e : gRange [d, d'] = some ds) : ∃ i j, d = .int i ∧ d' = .int j ∧ (-(2 ^ 62) ≤ i ∧ i < 2 ^ 62 ∧ -(2 ^ 62) ≤ j ∧ j < 2 ^ 62) ∧ ds = dRange i (j - i).toNat := by
  cases d with
  | int i =>
    cases d' with
    | int j =>
      have e : (if -(2 ^ 62) ≤ i ∧ i < 2 ^ 62 ∧ -(2 ^ 62) ≤ j ∧ j < 2 ^ 62 then some (dRange i (j - i).toNat) else none) = some ds := e
      split at e
      · rename_i h
        exact ⟨i, j, rfl, rfl, h, (Option.some.inj e).symm⟩
      · cases e
    | _ => cases e
  | _ => cases e
theorem ji_range1 {a : Expr} {p pos : Pos} (gl : Gl X "range") (hm : X.mg "range" = none) (h : JE false X c E ρ a m) (hs : starEach [a] X.env = [(false, eval a X.env)] := by rfl) :
    JI X c E ρ tg (.Call (.Name "range" p) [a] [] pos) (mBnd (mAll [m]) fun ds => mOf (gRange ds)) :=
  JI.of (pi_range1 gl hm (JA.pa (.cons h .nil hs)) hs) fun σ H R ⟨ow, s, T, q⟩ => allI_at T q fun ds s2 vs H2 k T2 r l q2 => by
    match ds, l with
    | [d], _ =>
      obtain ⟨v, rfl, h⟩ := r.one
      obtain ⟨es, e, q3⟩ := ofI_done q2
      obtain ⟨j, rfl, h1, h2, rfl⟩ := gRange1 e
      have ev := h.int
      subst ev
      exact ⟨j, rfl, h1, h2, q3 _ H2 .refl T2.ok itd_range⟩
theorem ji_range2 {a a' : Expr} {p pos : Pos} {m' : Mo S D} (gl : Gl X "range") (hm : X.mg "range" = none) (h : JE false X c E ρ a m) (h' : JE false X c E ρ a' m') (hs : starEach [a, a'] X.env = [(false, eval a X.env), (false, eval a' X.env)] := by rfl)
    (hs2 : starEach [a'] X.env = [(false, eval a' X.env)] := by rfl) :
    JI X c E ρ tg (.Call (.Name "range" p) [a, a'] [] pos) (mBnd (mAll [m, m']) fun ds => mOf (gRange ds)) :=
  JI.of (pi_range2 gl hm (JA.pa (.cons h (.cons h' .nil hs2) (by rw [hs, hs2]))) hs hs2) fun σ H R ⟨ow, s, T, q⟩ => allI_at T q fun ds s2 vs H2 k T2 r l q2 => by
    match ds, l with
    | [d, d'], _ =>
      obtain ⟨v, v', rfl, h, h'⟩ := r.two
      obtain ⟨es, e, q3⟩ := ofI_done q2
      obtain ⟨i, j, rfl, rfl, hb, rfl⟩ := gRange2 e
      have ev := h.int
      have ev' := h'.int
      subst ev ev'
      exact ⟨i, j, rfl, hb, q3 _ H2 .refl T2.ok itd_range⟩

/-! ### targets -/
/-- the target g, given the data d, makes of the names ρ the names tgt d ρ; the slots ts -/
def TgOk (K : PySem.W.Frag) (g : TG) (tgt : D → En → Option En) (ts : List Nat) : Prop := ∀ {S : Type} [WCl S] {c : Cf S} {ow ρ σ H s v d ρ' Q}, Stt (S := S) K c ow ρ σ H s → Rep K (c.Nn ow) H v d → tgt d ρ = some ρ' →
  (∀ σ', Stt K c ow ρ' σ' H s → σ'.length = σ.length → (∀ j, j ∉ ts → σ'[j]? = σ[j]?) → Q σ' H) → g v σ H Q
def tgN (i : Nat) : D → En → Option En := fun d ρ => some (ρ.set i (some (.v d)))
theorem tgok_nm {i : Nat} : TgOk K (gName i) (tgN i) [i] := fun {S} [_] {c ow ρ σ H s v d ρ' Q} T r e q => by
  cases e
  exact q _ (T.setV r) (by simp) fun j hj => List.getElem?_set_ne (by simpa using (Ne.symm (show j ≠ i by simpa using hj)))
def tgT (tgts : List D → En → Option En) (n : Nat) : D → En → Option En := fun d ρ => match d with
  | .tuple ds => if ds.length = n then tgts ds ρ else none
  | _ => none
def TgsOk (K : PySem.W.Frag) (g : TGs) (tgt : List D → En → Option En) (ts : List Nat) : Prop := ∀ {S : Type} [WCl S] {c : Cf S} {ow ρ σ H s vs ds ρ' Q}, Stt (S := S) K c ow ρ σ H s → Reps K (c.Nn ow) H vs ds → tgt ds ρ = some ρ' →
  (∀ σ', Stt K c ow ρ' σ' H s → σ'.length = σ.length → (∀ j, j ∉ ts → σ'[j]? = σ[j]?) → Q σ' H) → g vs σ H Q
def tgNil : List D → En → Option En := fun ds ρ => match ds with
  | [] => some ρ
  | _ :: _ => none
def tgCons (t : D → En → Option En) (u : List D → En → Option En) : List D → En → Option En := fun ds ρ => match ds with
  | [] => none
  | d :: r => (t d ρ).bind fun ρ1 => u r ρ1
theorem tgsok_nil : TgsOk K gNil tgNil [] := fun {S} [_] {c ow ρ σ H s vs ds ρ' Q} T r e q => by
  cases r with
  | nil =>
    cases e
    exact ⟨rfl, q σ T rfl fun _ _ => rfl⟩
  | cons _ _ => cases e
theorem tgsok_cons {g : TG} {gs : TGs} {t u ts us} (h : TgOk K g t ts) (h' : TgsOk K gs u us) : TgsOk K (gCons g gs) (tgCons t u) (ts ++ us) := fun {S} [_] {c ow ρ σ H s vs ds ρ' Q} T r e q => by
  cases r with
  | nil => cases e
  | cons h1 r1 =>
    rename_i v vs d ds
    have e : ((t d ρ).bind fun ρ1 => u ds ρ1) = some ρ' := e
    cases e1 : t d ρ with
    | none => rw [e1] at e; cases e
    | some ρ1 =>
      rw [e1] at e
      refine ⟨v, vs, rfl, h T h1 e1 fun σ1 T1 l1 s1 => h' T1 r1 e fun σ2 T2 l2 s2 => q σ2 T2 (l2.trans l1) fun j hj => ?_⟩
      rw [List.mem_append, not_or] at hj
      exact (s2 j hj.2).trans (s1 j hj.1)
theorem tgok_tup {gs : TGs} {u us} {n : Nat} (h : TgsOk K gs u us) : TgOk K (gTup K n gs) (tgT u n) us := fun {S} [_] {c ow ρ σ H s v d ρ' Q} T r e q => by
  cases d with
  | tuple ds =>
    have e : (if ds.length = n then u ds ρ else none) = some ρ' := e
    split at e
    · rename_i hl
      obtain ⟨p, xs, rfl, hp, r1⟩ := (RepX.of (b := false) (c := c) (ow := ow) r).tuple
      exact ⟨p, xs, rfl, hp, r1.len.trans hl, h T r1 e q⟩
    · cases e
  | _ => cases e
/-! ### for -/
def mFor (xs : List D) (a : β) (f : D → β → Mo S (Fl β)) : Mo S (Fl β) := match xs with
  | [] => mRet (.nx a)
  | x :: xs => mBndF (f x a) fun a' => mFor xs a' f
theorem mBndF_assoc {mm : Mo S (Fl γ)} {f : γ → Mo S (Fl β)} {g : β → Mo S (Fl α)} : mBndF (mBndF mm f) g = mBndF mm fun a => mBndF (f a) g := by
  show mBnd (mBnd mm _) _ = mBnd mm _
  rw [mBnd_assoc]
  refine mBnd_fun fun fl => ?_
  cases fl <;> rfl
theorem bs_for {g : TG} {tgt ts} {body : List Stmt} {pos : Pos} {mi : Mo S (List D)} {f : D → β → Mo S (Fl β)} {k : β → Mo S (Fl α)} (ρ1 : β → En) (a0 : β) (hp : PassesOwn (model X.prog X.w) X.A X.env X.xe) (hc : X.calm = true) (hi : JI X c E ρ tg it mi)
    (hg : PG X tg g) (ht : TgOk X.K g tgt ts) (w : Wk ρ (ρ1 a0)) (hno : ∀ x a, tgt x (ρ1 a) = none → f x a = mBad) (hb : ∀ x a ρ', tgt x (ρ1 a) = some ρ' → JSs X c E ρ1 ρ' body (f x a)) (hr : ∀ a, JSs X c E ρf (ρ1 a) rest (k a))
    (hs : ∀ x, foldedSetIterable it X.env x = pure x := by intro _; rfl) : JSs X c E ρf ρ (.For tg it body [] pos :: rest) (mBnd mi fun xs => mBndF (mFor xs a0 f) k) := by
  have hb' : PSs X body (fun Dn σ H => ∃ x a ρ', tgt x (ρ1 a) = some ρ' ∧ tS X.K c E ρ1 ρ' (f x a) Dn σ H) := ⟨fun pins s σ H Dn I ⟨x, a, ρ', e, q⟩ => (hb x a ρ' e).run pins s σ H Dn I q⟩
  refine JSs.of (pss_cons (ps_for hp hc hi hg hb' hs) (pss_ex hr)) fun Dn σ H ⟨ow, s, T, q⟩ => ?_
  refine ⟨ow, s, T, ?_⟩
  unfold mBnd at q
  cases e : mi s with
  | ex C pl s1 =>
    rw [e] at q
    exact fun dx H1 k1 o x => q dx H1 (T.kp.trans k1) o x
  | bad => rw [e] at q; exact q
  | ok ds s1 =>
    rw [e] at q
    intro J H1 k1 o1 D1
    have T1 := (T.move k1 o1).weak w
    have q1 : ContS X.K c E ρf ow H1 (mBndF (mFor ds a0 f) k s1) Dn := ContS.move q (.of k1)
    refine ⟨fun i mm σ H => mm = ds.length - i ∧ i ≤ ds.length ∧ ∃ a ow' s', Stt X.K c ow' (ρ1 a) σ H s' ∧ Stp c ow H1 ow' H ∧ ContS X.K c E ρf ow' H (mBndF (mFor (ds.drop i) a f) k s') Dn,
      ⟨ds.length, rfl, Nat.zero_le _, a0, ow, s1, T1, .refl, q1⟩, ?_⟩
    rintro i mm σ H ⟨rfl, hi, a, ow', s', T', k', q'⟩
    by_cases hlt : i < ds.length
    · have hd : ds[i]? = some ds[i] := List.getElem?_eq_getElem hlt
      rw [List.drop_eq_getElem_cons hlt] at q'
      have e3 : mBndF (mFor (ds[i] :: ds.drop (i + 1)) a f) k = mBndF (f ds[i] a) fun a' => mBndF (mFor (ds.drop (i + 1)) a' f) k := mBndF_assoc
      rw [e3] at q'
      refine .inr ⟨D1.go i H k'.kp hlt, fun σ' H' => ∃ a ow' s', Stt X.K c ow' (ρ1 a) σ' H' s' ∧ Stp c ow H1 ow' H' ∧ ContS X.K c E ρf ow' H' (mBndF (mFor (ds.drop (i + 1)) a f) k s') Dn,
        fun σ' H' z => ⟨ds.length - (i + 1), by omega, rfl, hlt, z⟩, fun x H' y => ?_⟩
      obtain ⟨sm, rp⟩ := D1.yl i H x H' k'.kp y
      have T2 := T'.move (.same sm) (c.W.same T'.ok sm)
      have rx : Rep X.K (c.Nn ow') H' x ds[i] := rp _ hd _ fun a z => by
        rcases z with z | z | ⟨j, z⟩
        · exact .inl (.inl z)
        · exact .inl (.inr (.inl z))
        · rcases k'.fr j a z with z | z
          · exact .inl (.inr (.inr z))
          · exact .inr z
      cases et : tgt ds[i] (ρ1 a) with
      | none =>
        rw [hno _ _ et] at q'
        exact q'.elim
      | some ρ' =>
        refine ht T2 rx et fun σ2 T3 _ _ => ⟨ds[i], a, ρ', et, ow', s', T3, ?_⟩
        have q2 := ContS.move q' (Stp.of (c := c) (ow := ow') (.same sm))
        have g2 := bndF_at (ρ1 := ρ1) (u := fun Dn σ' H' => ∃ a ow' s', Stt X.K c ow' (ρ1 a) σ' H' s' ∧ Stp c ow H1 ow' H' ∧ ContS X.K c E ρf ow' H' (mBndF (mFor (ds.drop (i + 1)) a f) k s') Dn) q2
          fun a' s2 ow2 σ2 H2 k2 T4 q3 => ⟨a', ow2, s2, T4, (k'.trans (.of (.same sm))).trans k2, q3⟩
        show ContS X.K c E ρ1 ow' H' (f ds[i] a s') _
        cases e1 : f ds[i] a s' with
        | ok fl s2 => rw [e1] at g2; cases fl <;> exact g2
        | ex C pl s2 => rw [e1] at g2; exact g2
        | bad => rw [e1] at g2; exact g2
    · have hi' : i = ds.length := by omega
      subst hi'
      rw [List.drop_length] at q'
      exact .inl ⟨D1.st _ H k'.kp (Nat.le_refl _), a, ow', s', T', q'⟩
end
end Cz
set_option Elab.async false
set_option linter.all false
set_option maxRecDepth 100000
set_option maxHeartbeats 2000000
/-! Comprehensions; lists of one's own grow and shrink; a def's body. -/
namespace Cz
open PySem PySem.Spec PyProof.Rows L2
section
variable {S : Type} [WCl S] {α β γ : Type} {b b' : Bool} {X : Cx} {K : PySem.W.Frag} {c : Cf S} {E : XK} {ρ ρ1 : En} {ρf : α → En} {e e1 e2 : Expr} {m m1 m2 : Mo S D} {ml : Mo S (List D)} {ow ow1 : Ows} {σ σ1 : L2.St} {H H1 : Hp} {s s1 : S} {Q : VK} {Dn : Ends} {sts rest : List Stmt}
/-! ### comprehensions -/
/-- an exception has no word here -/
def mNx (m : Mo S α) : Mo S α := fun s => match m s with
  | .ok a s' => .ok a s'
  | _ => .bad
def mComp (f : D → Mo S (Option D)) : List D → List D → Mo S (List D)
  | [], acc => mRet acc
  | x :: xs, acc => mBnd (mNx (f x)) fun o => match o with
    | none => mComp f xs acc
    | some y => if acc.length < sizeLine then mComp f xs (acc ++ [y]) else mBad
/-- the element alone; the element under a test -/
def elt1 (m : Mo S D) : Mo S (Option D) := mBnd m fun d => mRet (some d)
def eltIf (mt : Mo S Bool) (m : Mo S D) : Mo S (Option D) := mBnd mt fun z => if z = true then elt1 m else mRet none
def wipeE (ρ : En) : List Nat → En
  | [] => ρ
  | v :: vs => (wipeE ρ vs).set v none
theorem wipeE_length : ∀ vs : List Nat, (wipeE ρ vs).length = ρ.length
  | [] => rfl
  | v :: vs => by unfold wipeE; rw [List.length_set, wipeE_length vs]
theorem wipeE_some {i : Nat} {dv : DV} : ∀ {vs : List Nat}, (wipeE ρ vs)[i]? = some (some dv) → ρ[i]? = some (some dv) ∧ i ∉ vs
  | [], h => ⟨h, by simp⟩
  | v :: vs, h => by
    unfold wipeE at h
    by_cases hi : v = i
    · subst hi
      by_cases hl : v < (wipeE ρ vs).length
      · rw [List.getElem?_set_self hl] at h; cases h
      · rw [List.getElem?_eq_none (by simpa using hl)] at h; cases h
    · rw [List.getElem?_set_ne hi] at h
      obtain ⟨h1, h2⟩ := wipeE_some h
      exact ⟨h1, by simp [h2, Ne.symm hi]⟩
theorem wipe_out {i : Nat} : ∀ {vs : List Nat}, i ∉ vs → (wipe σ vs)[i]? = σ[i]?
  | [], _ => rfl
  | v :: vs, h => by
    unfold wipe
    simp only [List.mem_cons, not_or] at h
    rw [List.getElem?_set_ne (Ne.symm h.1)]
    exact wipe_out h.2
theorem wipe_in {i : Nat} : ∀ {vs : List Nat}, i ∈ vs → i < σ.length → (wipe σ vs)[i]? = some none
  | v :: vs, h, hl => by
    unfold wipe
    by_cases hi : v = i
    · subst hi
      rw [List.getElem?_set_self (by rw [wipe_length]; exact hl)]
    · rw [List.getElem?_set_ne hi]
      exact wipe_in ((List.mem_cons.mp h).resolve_left (Ne.symm hi)) hl
theorem wipe_same {σ2 : L2.St} {vs ts : List Nat} (hl : σ2.length = (wipe σ vs).length) (hs : ∀ j, j ∉ ts → σ2[j]? = (wipe σ vs)[j]?) (ht : ∀ j ∈ ts, j ∈ vs) : wipe σ2 vs = wipe σ vs := by
  refine List.ext_getElem? fun i => ?_
  by_cases hi : i ∈ vs
  · by_cases hlt : i < σ.length
    · rw [wipe_in hi (by rw [hl, wipe_length]; exact hlt), wipe_in hi hlt]
    · have h1 : (wipe σ2 vs).length ≤ i := by rw [wipe_length, hl, wipe_length]; omega
      have h2 : (wipe σ vs).length ≤ i := by rw [wipe_length]; omega
      rw [List.getElem?_eq_none h1, List.getElem?_eq_none h2]
  · rw [wipe_out hi]
    exact hs i fun z => hi (ht i z)
/-- the block's surroundings: the new list at p is kept out -/
def Cf.blk (c : Cf S) (p : Addr) : Cf S := ⟨c.W, c.hW, fun a => c.B a ∨ a = p, fun _ => none⟩
theorem Cf.blkN {p : Addr} {a : Addr} : (c.blk p).Nn ow a ↔ (c.Nn ow a ∨ a = p) := by
  constructor
  · rintro (z | (z | z) | z)
    · exact .inl (.inl z)
    · exact .inl (.inr (.inl z))
    · exact .inr z
    · exact .inl (.inr (.inr z))
  · rintro ((z | z | z) | z)
    · exact .inl z
    · exact .inr (.inl (.inl z))
    · exact .inr (.inr z)
    · exact .inr (.inl (.inr z))
theorem Stt.blk {p : Addr} {o : HO} (h : Stt K c ow ρ σ H s) (n : H p = none) (vs : List Nat) : Stt K (c.blk p) ow (wipeE ρ vs) (wipe σ vs) (upd H p o) s := by
  have hs := same_new (o := o) n
  refine ⟨c.W.same h.ok hs, ⟨fun _ _ e => (by cases e), fun _ e => absurd rfl e⟩, fun a z => ?_, fun i q e => ?_, h.inj, by rw [wipe_length, wipeE_length, h.ln], fun i dv e => ?_⟩
  · rcases z with z | z
    · exact (Keep.same (M := fun _ => False) hs).al a (h.bl a z)
    · rw [z, upd_same]; exact Option.some_ne_none _
  · obtain ⟨a1, a2, a3, a4⟩ := h.ows i q e
    refine ⟨a1, fun z => ?_, (Keep.same (M := fun _ => False) hs).al q a3, rfl⟩
    rcases z with z | z
    · exact a2 z
    · rw [z] at a3; exact a3 n
  · obtain ⟨e1, hi⟩ := wipeE_some e
    rw [wipe_out hi]
    have w : ∀ a, (c.blk p).Nn ow a → c.Nn ow a ∨ H a = none := fun a z => (Cf.blkN.mp z).imp id fun z => by rw [z]; exact n
    have z := h.sl i dv e1
    cases dv with
    | v d =>
      obtain ⟨v, e2, r⟩ := z
      exact ⟨v, e2, (r.wide w).keepS hs⟩
    | own ds =>
      obtain ⟨q, xs, e2, e3, e4, r⟩ := z
      exact ⟨q, xs, e2, e3, hs _ _ e4, (Reps.wide w r).keepS hs⟩
    | opq n' => exact z
/-- what was not there at first may be written -/
theorem Keep.over {M : Addr → Prop} {H H' : Hp} {p : Addr} {o : HO} (k : Keep M H H') (n : H p = none) : Keep M H (upd H' p o) := by
  refine ⟨fun a w e m t => ?_, fun a e => ?_⟩
  · rw [upd_ne (ne_of_none e n)]
    exact k.st a w e m t
  · by_cases ha : a = p
    · rw [ha, upd_same]
      exact Option.some_ne_none _
    · rw [upd_ne ha]
      exact k.al a e
/-- a block's list changes -/
theorem Stt.chgB {p : Addr} {o u : HO} (h : Stt K c ow ρ σ H s) (hb : c.B p) (hm : ¬ c.W.M p) (h0 : c.H0 p = none) (hp : H p = some u) (f : fixd u = false) (fm : mutb u = true) : Stt K c ow ρ σ (upd H p o) s := by
  have kk : Keep (fun a => a = p) H (upd H p o) := Keep.at_ rfl hp f
  have sub : ∀ a, a = p → c.Nn ow a := fun a z => by rw [z]; exact .inr (.inl hb)
  refine ⟨c.W.ext h.ok fun a w e m => ?_, ⟨fun a w e n t => ?_, fun a e => kk.al a (h.kp.al a e)⟩, fun a b => kk.al a (h.bl a b), fun j q e => ?_, h.inj, h.ln, fun j dv e => ?_⟩
  · have ne : a ≠ p := fun z => by
      rw [z] at e m
      rcases m with m | m
      · exact hm m
      · rw [hp] at e
        cases e
        rw [fm] at m
        cases m
    rw [upd_ne ne]
    exact e
  · have ne : a ≠ p := fun z => by
      rw [z, h0] at e
      cases e
    rw [upd_ne ne]
    exact h.kp.st a w e n t
  · obtain ⟨b1, b2, b3, b4⟩ := h.ows j q e
    exact ⟨b1, b2, kk.al q b3, b4⟩
  · have z := h.sl j dv e
    cases dv with
    | v d =>
      obtain ⟨v, e1, r1⟩ := z
      exact ⟨v, e1, Rep.keep sub (fun _ z => z) kk _ _ r1⟩
    | own ds =>
      obtain ⟨q, xs, e1, e2, e3, r1⟩ := z
      have ne : q ≠ p := fun z => (h.ows j q e2).2.1 (by rw [z]; exact hb)
      exact ⟨q, xs, e1, e2, by rw [upd_ne ne]; exact e3, Reps.keep sub (fun _ z => z) kk _ _ r1⟩
    | opq n => exact z
/-- a block's tests and element do what f does -/
def ElOk (K : PySem.W.Frag) (tt : TT) (te : TE) (tgt : D → En → Option En) (ρw : En) (f : D → Mo S (Option D)) : Prop := ∀ {c' : Cf S} {ow : Ows} {ρ' : En} {x : D} {σ : L2.St} {H : Hp} {s : S} {o : Option D} {s' : S} {R1 : V → Hp → Prop} {R0 : Hp → Prop},
  tgt x ρw = some ρ' → Stt K c' ow ρ' σ H s → f x s = .ok o s' → (∀ d v H1, o = some d → Keep c'.W.M H H1 → c'.W.ok s' H1 → Rep K (c'.Nn ow) H1 v d → R1 v H1) → (∀ H1, o = none → Keep c'.W.M H H1 → c'.W.ok s' H1 → R0 H1) →
  tt σ H fun b H3 => if b = true then te σ H3 R1 else R0 H3
abbrev teB (K : PySem.W.Frag) (tgt : D → En → Option En) (ρw : En) (me : D → Mo S D) : TE := fun σ H Q => ∃ (c' : Cf S) (x : D) (ρ' : En), tgt x ρw = some ρ' ∧ tE false K c' E0 ρ' (me x) σ H Q
abbrev ttB (K : PySem.W.Frag) (tgt : D → En → Option En) (ρw : En) (mt : D → Mo S Bool) : TT := fun σ H Q => ∃ (c' : Cf S) (x : D) (ρ' : En), tgt x ρw = some ρ' ∧ tT K c' E0 ρ' (mt x) σ H Q
theorem elok_1 {tgt : D → En → Option En} {ρw : En} {me : D → Mo S D} : ElOk K tYes (teB K tgt ρw me) tgt ρw (fun x => elt1 (me x)) := by
  intro c' ow ρ' x σ H s o s' R1 R0 ht T e r1 r0
  show if true = true then teB K tgt ρw me σ H R1 else R0 H
  rw [if_pos rfl]
  refine ⟨c', x, ρ', ht, ow, s, T, ?_⟩
  have e : mBnd (me x) (fun d => mRet (some d)) s = .ok o s' := e
  unfold mBnd at e
  cases z : me x s with
  | ok d s2 =>
    rw [z] at e
    cases e
    exact fun v H1 k ok r => r1 d v H1 rfl k ok r.val
  | ex _ _ _ => rw [z] at e; cases e
  | bad => rw [z] at e; cases e
theorem elok_if {tgt : D → En → Option En} {ρw : En} {me : D → Mo S D} {mt : D → Mo S Bool} : ElOk K (ttB K tgt ρw mt) (teB K tgt ρw me) tgt ρw (fun x => eltIf (mt x) (me x)) := by
  intro c' ow ρ' x σ H s o s' R1 R0 ht T e r1 r0
  refine ⟨c', x, ρ', ht, ow, s, T, ?_⟩
  have e : mBnd (mt x) (fun z => if z = true then elt1 (me x) else mRet none) s = .ok o s' := e
  unfold mBnd at e
  cases z : mt x s with
  | ok k s2 =>
    rw [z] at e
    intro H1 k1 o1
    cases k with
    | true =>
      show if true = true then teB K tgt ρw me σ H1 R1 else R0 H1
      rw [if_pos rfl]
      refine ⟨c', x, ρ', ht, ow, s2, T.move k1 o1, ?_⟩
      have e : mBnd (me x) (fun d => mRet (some d)) s2 = .ok o s' := e
      unfold mBnd at e
      cases z : me x s2 with
      | ok d s3 =>
        rw [z] at e
        cases e
        exact fun v H2 k ok r => r1 d v H2 rfl (k1.trans k) ok r.val
      | ex _ _ _ => rw [z] at e; cases e
      | bad => rw [z] at e; cases e
    | false =>
      cases e
      show if false = true then teB K tgt ρw me σ H1 R1 else R0 H1
      rw [if_neg Bool.false_ne_true]
      exact r0 H1 rfl k1 o1
  | ex _ _ _ => rw [z] at e; cases e
  | bad => rw [z] at e; cases e
/-- what a comprehension's reading asks, from what it is to do -/
theorem lc_run {g : TG} {tgt : D → En → Option En} {ts : List Nat} {vs : List Nat} {mi : Mo S (List D)} {f : D → Mo S (Option D)} {tt : TT} {te : TE} (ht : TgOk K g tgt ts) (hv : ∀ j ∈ ts, j ∈ vs) (hno : ∀ x, tgt x (wipeE ρ vs) = none → f x = mBad)
    (he : ElOk K tt te tgt (wipeE ρ vs) f) (T : Stt K c ow ρ σ H s) (q : ContF K c E ow H (mBnd mi (fun xs => mComp f xs []) s) Q) : tLc (tI K c E ρ mi) g tt te vs σ H Q := by
  refine ⟨ow, s, T, ?_⟩
  unfold mBnd at q
  cases e : mi s with
  | ex C pl s1 => rw [e] at q; exact q
  | bad => rw [e] at q; exact q
  | ok ds s1 =>
    rw [e] at q
    intro J H1 k1 o1 D1 p n
    have T1 := T.move k1 o1
    have q1 : ContF K c E ow H1 (mComp f ds [] s1) Q := ContF.move q k1
    have nM : ¬ c.W.M p := fun z => T1.fresh n (.inl z)
    have kN : Keep c.W.M H1 (upd H1 p (.lst [])) := Keep.same (same_new n)
    refine ⟨fun i mm H => mm = ds.length - i ∧ i ≤ ds.length ∧ ∃ acc vacc s', Stt K (c.blk p) ow (wipeE ρ vs) (wipe σ vs) H s' ∧ Keep c.W.M H1 H ∧ H p = some (.lst vacc) ∧ Reps K ((c.blk p).Nn ow) H vacc acc ∧ ContF K c E ow H1 (mComp f (ds.drop i) acc s') Q,
      ⟨ds.length, rfl, Nat.zero_le _, [], [], s1, T1.blk n vs, kN, upd_same, .nil, q1⟩, ?_⟩
    rintro i mm H ⟨rfl, hi, acc, vacc, s', T', k', hp, ra, q'⟩
    by_cases hlt : i < ds.length
    · have hd : ds[i]? = some ds[i] := List.getElem?_eq_getElem hlt
      rw [List.drop_eq_getElem_cons hlt] at q'
      refine .inr ⟨D1.go i H (k'.mono fun _ z => .inl z) hlt, fun H' => ∃ acc vacc s', Stt K (c.blk p) ow (wipeE ρ vs) (wipe σ vs) H' s' ∧ Keep c.W.M H1 H' ∧ H' p = some (.lst vacc) ∧ Reps K ((c.blk p).Nn ow) H' vacc acc ∧ ContF K c E ow H1 (mComp f (ds.drop (i + 1)) acc s') Q,
        fun H' z => ⟨ds.length - (i + 1), by omega, rfl, hlt, z⟩, fun x H' y => ?_⟩
      obtain ⟨sm, rp⟩ := D1.yl i H x H' (k'.mono fun _ z => .inl z) y
      have T2 := T'.move (.same sm) (c.W.same T'.ok sm)
      have rx : Rep K ((c.blk p).Nn ow) H' x ds[i] := rp _ hd _ fun a z => (Cf.blkN.mp z).imp id fun z => by rw [z]; exact n
      have q' : ContF K c E ow H1 (mBnd (mNx (f ds[i])) (fun o => match o with
        | none => mComp f (ds.drop (i + 1)) acc
        | some y => if acc.length < sizeLine then mComp f (ds.drop (i + 1)) (acc ++ [y]) else mBad) s') Q := q'
      cases et : tgt ds[i] (wipeE ρ vs) with
      | none =>
        rw [hno _ et] at q'
        exact q'.elim
      | some ρ' =>
        refine ht T2 rx et fun σ2 T3 hl hs => ⟨wipe_same hl hs hv, ?_⟩
        cases ef : f ds[i] s' with
        | ex C pl s2 =>
          unfold mBnd mNx at q'
          rw [ef] at q'
          exact q'.elim
        | bad =>
          unfold mBnd mNx at q'
          rw [ef] at q'
          exact q'.elim
        | ok o s2 =>
          unfold mBnd mNx at q'
          rw [ef] at q'
          refine he et T3 ef (fun d v H4 eo k4 o4 r4 => ?_) fun H4 eo k4 o4 => ?_
          · subst eo
            have q' : ContF K c E ow H1 ((if acc.length < sizeLine then mComp f (ds.drop (i + 1)) (acc ++ [d]) else mBad) s2) Q := q'
            by_cases hz : acc.length < sizeLine
            · rw [if_pos hz] at q'
              have hp4 : H4 p = some (.lst vacc) := k4.st p _ (sm _ _ hp) (.inl nM) rfl
              have T4 := T2.move k4 o4
              have r5 := (Reps.keepS ra sm)
              have r6 : Reps K ((c.blk p).Nn ow) H4 vacc acc := r5.keepM (c := c.blk p) k4
              have kk : Keep (fun a => a = p) H4 (upd H4 p (.lst (vacc ++ [v]))) := Keep.at_ rfl hp4 rfl
              have sub : ∀ a, a = p → (c.blk p).Nn ow a := fun a z => Cf.blkN.mpr (.inr z)
              refine ⟨vacc, hp4, by rw [ra.len]; exact hz, acc ++ [d], vacc ++ [v], s2, T4.chgB (.inr rfl) nM rfl hp4 rfl rfl, ?_, upd_same, ?_, q'⟩
              · exact Keep.over ((k'.trans (.same sm)).trans k4) n
              · exact Reps.keep sub (fun _ z => z) kk _ _ (r6.app (.cons r4 .nil))
            · rw [if_neg hz] at q'
              exact q'.elim
          · subst eo
            exact ⟨acc, vacc, s2, T2.move k4 o4, (k'.trans (.same sm)).trans k4, k4.st p _ (sm _ _ hp) (.inl nM) rfl, (ra.keepS sm).keepM (c := c.blk p) k4, q'⟩
    · have hi' : i = ds.length := by omega
      subst hi'
      rw [List.drop_length] at q'
      have q' : ∀ p xs H', H1 p = none → Keep c.W.M H1 H' → c.W.ok s' H' → H' p = some (.lst xs) → Reps K (fun a => c.Nn ow a ∨ a = p) H' xs acc → Q (.ref p) H' := q'
      exact .inl ⟨D1.st _ H (k'.mono fun _ z => .inl z) (Nat.le_refl _), q' p vacc H n k' T'.ok hp (ra.sub fun a z => Cf.blkN.mpr z)⟩
end
end Cz
set_option Elab.async false
set_option linter.all false
set_option maxRecDepth 100000
set_option maxHeartbeats 2000000
/-! Comprehensions as rules; statements on lists of one's own; a def's body to its promise. -/
namespace Cz
open PySem PySem.Spec PyProof.Rows L2
section
variable {S : Type} [WCl S] {α β γ : Type} {b b' : Bool} {X : Cx} {K : PySem.W.Frag} {c : Cf S} {E : XK} {ρ ρ1 : En} {ρf : α → En} {e e1 e2 : Expr} {m m1 m2 : Mo S D} {ml : Mo S (List D)} {ow ow1 : Ows} {σ σ1 : L2.St} {H H1 : Hp} {s s1 : S} {Q : VK} {Dn : Ends} {sts rest : List Stmt}
abbrev bk (X : Cx) (scope : Scope) (s : Shared) (H : Hp) (C : Addr) (cl : List (Str × Addr)) (fp : List Addr) : Cx := X.blk s H scope (compEnvC scope cl C X.env) fp
theorem Xok.bk {k : Nat} {scope : Scope} (O : Xok X E k) (s : Shared) (H : Hp) (C : Addr) (cl : List (Str × Addr)) (fp : List Addr) : Xok (bk X scope s H C cl fp) E0 k := ⟨O.room, O.grd, passL⟩
section
variable {elt tg it tst : Expr} {scope : Scope} {own : List (Str × Nat)} {pos : Pos} {g : TG} {tgt : D → En → Option En} {ts : List Nat} {mi : Mo S (List D)} {me : D → Mo S D} {mt : D → Mo S Bool}
theorem peB (h : ∀ (s : Shared) (H : Hp) (C : Addr) (cl : List (Str × Addr)) (fp : List Addr) (c' : Cf S) (x : D) (ρ' : En), tgt x ρ1 = some ρ' → JE false (bk X scope s H C cl fp) c' E0 ρ' elt (me x)) :
    ∀ (s : Shared) (H : Hp) (C : Addr) (cl : List (Str × Addr)) (fp : List Addr), PE (X.blk s H scope (compEnvC scope cl C X.env) fp) elt (teB X.K tgt ρ1 me) :=
  fun s H C cl fp => ⟨fun pins s' σ H' Q I ⟨c', x, ρ', e, q⟩ => (h s H C cl fp c' x ρ' e).run pins s' σ H' Q I q⟩
theorem ptB (h : ∀ (s : Shared) (H : Hp) (C : Addr) (cl : List (Str × Addr)) (fp : List Addr) (c' : Cf S) (x : D) (ρ' : En), tgt x ρ1 = some ρ' → JT (bk X scope s H C cl fp) c' E0 ρ' tst (mt x)) :
    ∀ (s : Shared) (H : Hp) (C : Addr) (cl : List (Str × Addr)) (fp : List Addr), PTs (X.blk s H scope (compEnvC scope cl C X.env) fp) [tst] (ttB X.K tgt ρ1 mt) :=
  fun s H C cl fp => pts_one ⟨fun pins s' σ H' Q I ⟨c', x, ρ', e, q⟩ => (h s H C cl fp c' x ρ' e).run pins s' σ H' Q I q⟩
theorem elt1_bad {m : Mo S D} (h : m = mBad) : elt1 m = mBad := by rw [h]; rfl
theorem eltIf_bad {mt : Mo S Bool} {m : Mo S D} (h : mt = mBad) : eltIf mt m = mBad := by rw [h]; rfl
/-- [elt for tg in it] -/
theorem jf_lc (hc : X.calm = true) (nd : X.N.Nodup) (hi : JI X c E ρ tg it mi) (ok : BlkOk X.N X.env.scope scope own) (hg : ∀ (s : Shared) (H : Hp) (C : Addr) (cl : List (Str × Addr)) (fp : List Addr), PG (bk X scope s H C cl fp) tg g) (ht : TgOk X.K g tgt ts)
    (hv : ∀ j ∈ ts, j ∈ own.map (·.2)) (hno : ∀ x, tgt x (wipeE ρ (own.map (·.2))) = none → me x = mBad)
    (he : ∀ (s : Shared) (H : Hp) (C : Addr) (cl : List (Str × Addr)) (fp : List Addr) (c' : Cf S) (x : D) (ρ' : En), tgt x (wipeE ρ (own.map (·.2))) = some ρ' → JE false (bk X scope s H C cl fp) c' E0 ρ' elt (me x))
    (hs : ∀ x, foldedSetIterable it X.env x = pure x := by intro _; rfl) : JF X c E ρ (.ListComp elt [⟨tg, it, [], 0⟩] scope pos) (mBnd mi fun xs => mComp (fun x => elt1 (me x)) xs []) :=
  JF.of (pe_lc hc nd hi ok hg (fun _ _ _ _ _ => pts_nil) (peB he) hs) fun σ H Q ⟨ow, s, T, q⟩ => lc_run ht hv (fun x z => elt1_bad (hno x z)) elok_1 T q
/-- .. if tst -/
theorem jf_lcif (hc : X.calm = true) (nd : X.N.Nodup) (hi : JI X c E ρ tg it mi) (ok : BlkOk X.N X.env.scope scope own) (hg : ∀ (s : Shared) (H : Hp) (C : Addr) (cl : List (Str × Addr)) (fp : List Addr), PG (bk X scope s H C cl fp) tg g) (ht : TgOk X.K g tgt ts)
    (hv : ∀ j ∈ ts, j ∈ own.map (·.2)) (hno : ∀ x, tgt x (wipeE ρ (own.map (·.2))) = none → mt x = mBad)
    (hq : ∀ (s : Shared) (H : Hp) (C : Addr) (cl : List (Str × Addr)) (fp : List Addr) (c' : Cf S) (x : D) (ρ' : En), tgt x (wipeE ρ (own.map (·.2))) = some ρ' → JT (bk X scope s H C cl fp) c' E0 ρ' tst (mt x))
    (he : ∀ (s : Shared) (H : Hp) (C : Addr) (cl : List (Str × Addr)) (fp : List Addr) (c' : Cf S) (x : D) (ρ' : En), tgt x (wipeE ρ (own.map (·.2))) = some ρ' → JE false (bk X scope s H C cl fp) c' E0 ρ' elt (me x))
    (hs : ∀ x, foldedSetIterable it X.env x = pure x := by intro _; rfl) : JF X c E ρ (.ListComp elt [⟨tg, it, [tst], 0⟩] scope pos) (mBnd mi fun xs => mComp (fun x => eltIf (mt x) (me x)) xs []) :=
  JF.of (pe_lc hc nd hi ok hg (ptB hq) (peB he) hs) fun σ H Q ⟨ow, s, T, q⟩ => lc_run ht hv (fun x z => eltIf_bad (hno x z)) elok_if T q
/-- a new list, then the rest -/
theorem contS_F {f : List D → Mo S (Fl α)} {R : VK} (T : Stt K c ow ρ σ H s) (q : ContS K c E ρf ow H (mBnd ml f s) Dn)
    (go : ∀ ds s1 p xs H1, H p = none → Keep c.W.M H H1 → c.W.ok s1 H1 → H1 p = some (.lst xs) → Reps K (fun a => c.Nn ow a ∨ a = p) H1 xs ds → ContS K c E ρf ow H (f ds s1) Dn → R (.ref p) H1) : ContF K c E ow H (ml s) R := by
  unfold mBnd at q
  cases e : ml s with
  | ok d s1 =>
    rw [e] at q
    exact fun p xs H' n k o hp r => go d s1 p xs H' n k o hp r q
  | ex C pl s1 =>
    rw [e] at q
    exact fun dx H1 k o x => q dx H1 (T.kp.trans k) o x
  | bad =>
    rw [e] at q
    exact q
theorem goV {i : Nat} {k : D → Mo S (Fl α)} (T : Stt K c ow ρ σ H s) {ds : List D} {s1 : S} {p : Addr} {xs : List V} {H1 : Hp} (n : H p = none) (kk : Keep c.W.M H H1) (o : c.W.ok s1 H1) (hp : H1 p = some (.lst xs)) (r : Reps K (fun a => c.Nn ow a ∨ a = p) H1 xs ds)
    (q : ContS K c E ρf ow H (k (.list ds) s1) Dn) : ∃ d, tS K c E ρf (ρ.set i (some (.v d))) (k d) Dn (σ.set i (some (.ref p))) H1 :=
  ⟨.list ds, ow, s1, (T.move kk o).setV (.lst (T.fresh n) hp (r.sub fun _ z => .inl z)), ContS.move q (.of kk)⟩
theorem goO {i : Nat} {k : List D → Mo S (Fl α)} (T : Stt K c ow ρ σ H s) {ds : List D} {s1 : S} {p : Addr} {xs : List V} {H1 : Hp} (n : H p = none) (kk : Keep c.W.M H H1) (o : c.W.ok s1 H1) (hp : H1 p = some (.lst xs)) (r : Reps K (fun a => c.Nn ow a ∨ a = p) H1 xs ds)
    (q : ContS K c E ρf ow H (k ds s1) Dn) : ∃ ds, tS K c E ρf (ρ.set i (some (.own ds))) (k ds) Dn (σ.set i (some (.ref p))) H1 :=
  ⟨ds, _, s1, (T.setOwn n kk o hp r).1, ContS.move q (T.setOwn n kk o hp r).2⟩
/-- x = e, e a new list, x's own from now on -/
theorem bs_own (i : Nat) {x : Str} {pos pos' : Pos} {k : List D → Mo S (Fl α)} (nd : X.N.Nodup) (he : JF X c E ρ e ml) (hr : ∀ ds, JSs X c E ρf (ρ.set i (some (.own ds))) rest (k ds))
    (hi : X.N[i]? = some x := by rfl) (hx : Loc X.env.scope x := by first | exact .inl rfl | exact .inr rfl) (hs : swapsWith e (some (.Name x pos')) pos.line X.env = pure false := by rfl)
    (hf : X.fn x = true ∨ X.env.scope.names.lookup x = some .local := by first | exact .inl rfl | exact .inr rfl | assumption) : JSs X c E ρf ρ (.Assign [.Name x pos'] e pos :: rest) (mBnd ml k) :=
  JSs.of (pss_cons (ps_set nd hi hx he hs hf) (pss_ex hr)) fun Dn σ H ⟨ow, s, T, q⟩ => ⟨ow, s, T, contS_F T q fun ds s1 p xs H1 n kk o hp r q1 => goO T n kk o hp r q1⟩
/-- y = [elt for tg in it], y a local name -/
theorem bs_setLc (i : Nat) {y : Str} {py spos : Pos} {k : D → Mo S (Fl α)} (hc : X.calm = true) (nd : X.N.Nodup) (hy : X.N[i]? = some y) (hyl : X.env.scope.names.lookup y = some .local)
    (hsw : swapsWith (.ListComp elt [⟨tg, it, [], 0⟩] scope pos) (some (.Name y py)) spos.line X.env = pure true) (hi : JI X c E ρ tg it mi) (ok : BlkOk X.N X.env.scope scope own)
    (hg : ∀ (s : Shared) (H : Hp) (C : Addr) (cl : List (Str × Addr)) (fp : List Addr), PG (bk X scope s H C cl fp) tg g) (ht : TgOk X.K g tgt ts)
    (hv : ∀ j ∈ ts, j ∈ own.map (·.2)) (hno : ∀ x, tgt x (wipeE ρ (own.map (·.2))) = none → me x = mBad)
    (he : ∀ (s : Shared) (H : Hp) (C : Addr) (cl : List (Str × Addr)) (fp : List Addr) (c' : Cf S) (x : D) (ρ' : En), tgt x (wipeE ρ (own.map (·.2))) = some ρ' → JE false (bk X scope s H C cl fp) c' E0 ρ' elt (me x))
    (hr : ∀ d, JSs X c E ρf (ρ.set i (some (.v d))) rest (k d)) (hs : ∀ x, foldedSetIterable it X.env x = pure x := by intro _; rfl) :
    JSs X c E ρf ρ (.Assign [.Name y py] (.ListComp elt [⟨tg, it, [], 0⟩] scope pos) spos :: rest) (mBnd (mBnd mi fun xs => mComp (fun x => elt1 (me x)) xs []) fun ds => k (.list ds)) :=
  JSs.of (pss_cons (ps_setLc hc nd hy hyl hsw hi ok hg (fun _ _ _ _ _ => pts_nil) (peB he) hs) (pss_ex hr)) fun Dn σ H ⟨ow, s, T, q⟩ => lc_run (Q := fun x H1 => (∃ d, tS X.K c E ρf (ρ.set i (some (.v d))) (k d) Dn (σ.set i (some x)) H1)) ht hv (fun x z => elt1_bad (hno x z)) elok_1 T (contS_F T q fun ds s1 p xs H1 n kk o hp r q1 => goV (i := i) T n kk o hp r q1)
theorem bs_setLcif (i : Nat) {y : Str} {py spos : Pos} {k : D → Mo S (Fl α)} (hc : X.calm = true) (nd : X.N.Nodup) (hy : X.N[i]? = some y) (hyl : X.env.scope.names.lookup y = some .local)
    (hsw : swapsWith (.ListComp elt [⟨tg, it, [tst], 0⟩] scope pos) (some (.Name y py)) spos.line X.env = pure true) (hi : JI X c E ρ tg it mi) (ok : BlkOk X.N X.env.scope scope own)
    (hg : ∀ (s : Shared) (H : Hp) (C : Addr) (cl : List (Str × Addr)) (fp : List Addr), PG (bk X scope s H C cl fp) tg g) (ht : TgOk X.K g tgt ts)
    (hv : ∀ j ∈ ts, j ∈ own.map (·.2)) (hno : ∀ x, tgt x (wipeE ρ (own.map (·.2))) = none → mt x = mBad)
    (hq : ∀ (s : Shared) (H : Hp) (C : Addr) (cl : List (Str × Addr)) (fp : List Addr) (c' : Cf S) (x : D) (ρ' : En), tgt x (wipeE ρ (own.map (·.2))) = some ρ' → JT (bk X scope s H C cl fp) c' E0 ρ' tst (mt x))
    (he : ∀ (s : Shared) (H : Hp) (C : Addr) (cl : List (Str × Addr)) (fp : List Addr) (c' : Cf S) (x : D) (ρ' : En), tgt x (wipeE ρ (own.map (·.2))) = some ρ' → JE false (bk X scope s H C cl fp) c' E0 ρ' elt (me x))
    (hr : ∀ d, JSs X c E ρf (ρ.set i (some (.v d))) rest (k d)) (hs : ∀ x, foldedSetIterable it X.env x = pure x := by intro _; rfl) :
    JSs X c E ρf ρ (.Assign [.Name y py] (.ListComp elt [⟨tg, it, [tst], 0⟩] scope pos) spos :: rest) (mBnd (mBnd mi fun xs => mComp (fun x => eltIf (mt x) (me x)) xs []) fun ds => k (.list ds)) :=
  JSs.of (pss_cons (ps_setLc hc nd hy hyl hsw hi ok hg (ptB hq) (peB he) hs) (pss_ex hr)) fun Dn σ H ⟨ow, s, T, q⟩ => lc_run (Q := fun x H1 => (∃ d, tS X.K c E ρf (ρ.set i (some (.v d))) (k d) Dn (σ.set i (some x)) H1)) ht hv (fun x z => eltIf_bad (hno x z)) elok_if T (contS_F T q fun ds s1 p xs H1 n kk o hp r q1 => goV (i := i) T n kk o hp r q1)
theorem bs_ownLc (i : Nat) {y : Str} {py spos : Pos} {k : List D → Mo S (Fl α)} (hc : X.calm = true) (nd : X.N.Nodup) (hy : X.N[i]? = some y) (hyl : X.env.scope.names.lookup y = some .local)
    (hsw : swapsWith (.ListComp elt [⟨tg, it, [], 0⟩] scope pos) (some (.Name y py)) spos.line X.env = pure true) (hi : JI X c E ρ tg it mi) (ok : BlkOk X.N X.env.scope scope own)
    (hg : ∀ (s : Shared) (H : Hp) (C : Addr) (cl : List (Str × Addr)) (fp : List Addr), PG (bk X scope s H C cl fp) tg g) (ht : TgOk X.K g tgt ts)
    (hv : ∀ j ∈ ts, j ∈ own.map (·.2)) (hno : ∀ x, tgt x (wipeE ρ (own.map (·.2))) = none → me x = mBad)
    (he : ∀ (s : Shared) (H : Hp) (C : Addr) (cl : List (Str × Addr)) (fp : List Addr) (c' : Cf S) (x : D) (ρ' : En), tgt x (wipeE ρ (own.map (·.2))) = some ρ' → JE false (bk X scope s H C cl fp) c' E0 ρ' elt (me x))
    (hr : ∀ ds, JSs X c E ρf (ρ.set i (some (.own ds))) rest (k ds)) (hs : ∀ x, foldedSetIterable it X.env x = pure x := by intro _; rfl) :
    JSs X c E ρf ρ (.Assign [.Name y py] (.ListComp elt [⟨tg, it, [], 0⟩] scope pos) spos :: rest) (mBnd (mBnd mi fun xs => mComp (fun x => elt1 (me x)) xs []) k) :=
  JSs.of (pss_cons (ps_setLc hc nd hy hyl hsw hi ok hg (fun _ _ _ _ _ => pts_nil) (peB he) hs) (pss_ex hr)) fun Dn σ H ⟨ow, s, T, q⟩ => lc_run (Q := fun x H1 => (∃ ds, tS X.K c E ρf (ρ.set i (some (.own ds))) (k ds) Dn (σ.set i (some x)) H1)) ht hv (fun x z => elt1_bad (hno x z)) elok_1 T (contS_F T q fun ds s1 p xs H1 n kk o hp r q1 => goO (i := i) T n kk o hp r q1)
end
/-! ### lists of one's own -/
/-- an expression that changes the list in slot i: its value, the list behind it -/
def ContM (K : PySem.W.Frag) (c : Cf S) (E : XK) (ρ : En) (i : Nat) (σ : L2.St) (ow : Ows) (H : Hp) (o : Out S (D × List D)) (Q : VK) : Prop :=
  o.post (fun dl s' => ∀ v H', Stp c ow H ow H' → Stt K c ow (ρ.set i (some (.own dl.2))) σ H' s' → Rep K (c.Nn ow) H' v dl.1 → Q v H')
    (fun C pl s' => ∀ dx H', Keep c.W.M c.H0 H' → c.W.ok s' H' → Exo K c.N0 H' pl dx → E (.ref (He.ga K C)) dx H')
def tM (K : PySem.W.Frag) (c : Cf S) (E : XK) (ρ : En) (i : Nat) (m : Mo S (D × List D)) : TE := fun σ H Q => ∃ ow s, Stt K c ow ρ σ H s ∧ ContM K c E ρ i σ ow H (m s) Q
def JM (X : Cx) (c : Cf S) (E : XK) (ρ : En) (i : Nat) (e : Expr) (m : Mo S (D × List D)) : Prop := PE X e (tM X.K c E ρ i m)
variable {mm : Mo S (D × List D)}
theorem ContM.move {i : Nat} {o : Out S (D × List D)} (h : ContM K c E ρ i σ ow H o Q) (k : Stp c ow H ow H1) : ContM K c E ρ i σ ow H1 o Q := by
  cases o with
  | ok d s => exact fun v H' k' => h v H' (k.trans k')
  | ex C pl s => exact h
  | bad => exact h
theorem bndM_at {i : Nat} {f : D → Mo S (D × List D)} {R : VK} (T : Stt K c ow ρ σ H s) (q : ContM K c E ρ i σ ow H (mBnd m f s) Q)
    (go : ∀ d s1 v H1, Keep c.W.M H H1 → Stt K c ow ρ σ H1 s1 → RepX b K c ow H1 v d → ContM K c E ρ i σ ow H1 (f d s1) Q → R v H1) : tE b K c E ρ m σ H R := by
  refine ⟨ow, s, T, ?_⟩
  unfold mBnd at q
  cases e : m s with
  | ok d s1 =>
    rw [e] at q
    exact fun v H1 k o r => go d s1 v H1 k (T.move k o) r (ContM.move q (.of k))
  | ex C pl s1 =>
    rw [e] at q
    exact fun dx H1 k o x => q dx H1 (T.kp.trans k) o x
  | bad =>
    rw [e] at q
    exact q
/-- xs.pop(e) -/
def gPop (ds : List D) : D → Option (D × List D)
  | .int i => if -(2 ^ 63) ≤ i ∧ i < 2 ^ 63 then (match seqIndex? i ds.length with
    | some k => (match ds[k]? with
      | some d => some (d, ds.eraseIdx k)
      | none => none)
    | none => none) else none
  | _ => none
theorem gPop_inv {ds : List D} {z : D} {r : D × List D} (e : gPop ds z = some r) : ∃ (i : Int) (k : Nat) (d : D), z = .int i ∧ -(2 ^ 63) ≤ i ∧ i < 2 ^ 63 ∧ seqIndex? i ds.length = some k ∧ ds[k]? = some d ∧ r = (d, ds.eraseIdx k) := by
  cases z with
  | int i =>
    have e : (if -(2 ^ 63) ≤ i ∧ i < 2 ^ 63 then (match seqIndex? i ds.length with
      | some k => (match ds[k]? with
        | some d => some (d, ds.eraseIdx k)
        | none => none)
      | none => none) else none) = some r := e
    by_cases h : -(2 ^ 63) ≤ i ∧ i < 2 ^ 63
    · rw [if_pos h] at e
      cases hk : seqIndex? i ds.length with
      | none => rw [hk] at e; cases e
      | some k =>
        rw [hk] at e
        dsimp only at e
        cases hd : ds[k]? with
        | none => rw [hd] at e; cases e
        | some d =>
          rw [hd] at e
          exact ⟨i, k, d, rfl, h.1, h.2, hk, hd, (Option.some.inj e).symm⟩
    · rw [if_neg h] at e; cases e
  | none => cases e
  | bool _ => cases e
  | str _ => cases e
  | list _ => cases e
  | tuple _ => cases e
  | dict _ => cases e
/-- the name in slot i, read at its place -/
theorem own_at {i : Nat} {ds : List D} (hρ : ρ[i]? = some (some (.own ds))) (T : Stt K c ow ρ σ H s) : ∃ p xs, σ[i]? = some (some (.ref p)) ∧ ow i = some p ∧ H p = some (.lst xs) ∧ Reps K (c.Nn ow) H xs ds := by
  obtain ⟨p, xs, e, ho, hp, r⟩ := T.sl i _ hρ
  exact ⟨p, xs, join_some e, ho, hp, r⟩
theorem jm_pop (i : Nat) {x : Str} {ds : List D} {xp apos pos : Pos} (hρ : ρ[i]? = some (some (.own ds))) (he : JE false X c E ρ e m) (hN : X.N[i]? = some x := by rfl)
    (hv : Vis X.env.scope x := by first | exact .inl rfl | exact .inr (.inl rfl) | exact .inr (.inr rfl)) (hd : (x == ("__debug__" : Str)) = false := by decide) (hcd : (x == ("__classdict__" : Str)) = false := by decide)
    (h : PE X (.Call (.Attribute (.Name x xp) "pop" apos) [e] [] pos) (tBM X.K "list" rPopAt (tVar i) (tCons (tE false X.K c E ρ m) tNil))) :
    JM X c E ρ i (.Call (.Attribute (.Name x xp) "pop" apos) [e] [] pos) (mBnd m fun d => mOf (gPop ds d)) := by
  refine ⟨fun pins s σ H Q I ⟨ow, s', T, q⟩ => h.run pins s σ H Q I ?_⟩
  obtain ⟨p, xs, e1, ho, hp, r⟩ := own_at hρ T
  refine ⟨_, e1, Or.inl ⟨rfl, _, Or.inl (Or.inl hp)⟩, ?_⟩
  refine bndM_at T q fun d s1 v H1 k1 T1 rv q1 => ?_
  cases eg : gPop ds d with
  | none => rw [eg] at q1; exact q1.elim
  | some dl =>
    rw [eg] at q1
    obtain ⟨j, kk, dd, rfl, h1, h2, h3, h4, rfl⟩ := gPop_inv eg
    obtain ⟨p', xs', e1', ho', hp', r'⟩ := own_at hρ T1
    rw [e1] at e1'
    cases e1'
    rw [rv.int]
    obtain ⟨y, hy, ry⟩ := r'.get h4
    have ch := T1.chg hρ ho' hp' (r'.erase kk)
    exact ⟨p, xs', j, kk, y, rfl, rfl, hp', h1, h2, by rw [r'.len]; exact h3, hy, q1 y _ ch.2 ch.1 (ry.keepW ch.2.kp)⟩
/-- .. then the rest -/
theorem contS_M {i : Nat} {f : D × List D → Mo S (Fl α)} {R : VK} (q : ContS K c E ρf ow H (mBnd mm f s) Dn)
    (go : ∀ dl s1 v H1, Stp c ow H ow H1 → Stt K c ow (ρ.set i (some (.own dl.2))) σ H1 s1 → Rep K (c.Nn ow) H1 v dl.1 → ContS K c E ρf ow H1 (f dl s1) Dn → R v H1) : ContM K c E ρ i σ ow H (mm s) R := by
  unfold mBnd at q
  cases e : mm s with
  | ok d s1 =>
    rw [e] at q
    exact fun v H' k T r => go d s1 v H' k T r (ContS.move q k)
  | ex C pl s1 => rw [e] at q; exact q
  | bad => rw [e] at q; exact q
/-- y = xs.pop(e) -/
theorem bs_setM (i j : Nat) {x : Str} {pos pos' : Pos} {k : D × List D → Mo S (Fl α)} (nd : X.N.Nodup) (he : JM X c E ρ i e mm) (hr : ∀ dl : D × List D, JSs X c E ρf ((ρ.set i (some (.own dl.2))).set j (some (.v dl.1))) rest (k dl))
    (hi : X.N[j]? = some x := by rfl) (hx : Loc X.env.scope x := by first | exact .inl rfl | exact .inr rfl) (hs : swapsWith e (some (.Name x pos')) pos.line X.env = pure false := by rfl)
    (hf : X.fn x = true ∨ X.env.scope.names.lookup x = some .local := by first | exact .inl rfl | exact .inr rfl | assumption) : JSs X c E ρf ρ (.Assign [.Name x pos'] e pos :: rest) (mBnd mm k) :=
  JSs.of (pss_cons (ps_set nd hi hx he hs hf) (pss_ex hr)) fun Dn σ H ⟨ow, s, T, q⟩ => ⟨ow, s, T, contS_M q fun dl s1 v H1 k1 T1 r q1 => ⟨dl, ow, s1, T1.setV r, q1⟩⟩
/-- xs.pop(e) alone -/
theorem bs_exprM (i : Nat) {pos : Pos} {k : List D → Mo S (Fl α)} (he : JM X c E ρ i e mm) (hr : ∀ ds, JSs X c E ρf (ρ.set i (some (.own ds))) rest (k ds)) (hs : swapsWith e none pos.line X.env = pure false := by rfl) :
    JSs X c E ρf ρ (.Expr e pos :: rest) (mBnd mm fun dl => k dl.2) :=
  JSs.of (pss_cons (ps_expr he hs) (pss_ex hr)) fun Dn σ H ⟨ow, s, T, q⟩ => ⟨ow, s, T, contS_M q fun dl s1 v H1 k1 T1 r q1 => ⟨dl.2, ow, s1, T1, q1⟩⟩
def gApp (ds : List D) (d : D) : Option (List D) := if ds.length < sizeLine then some (ds ++ [d]) else none
theorem gApp_inv {ds es : List D} {d : D} (e : gApp ds d = some es) : ds.length < sizeLine ∧ es = ds ++ [d] := by
  unfold gApp at e
  split at e
  · rename_i h
    exact ⟨h, (Option.some.inj e).symm⟩
  · cases e
/-- xs.append(e) -/
theorem bs_app (i : Nat) {x : Str} {ds : List D} {xp apos pos pos2 : Pos} {k : List D → Mo S (Fl α)} (hρ : ρ[i]? = some (some (.own ds)))
    (h : PE X (.Call (.Attribute (.Name x xp) "append" apos) [e] [] pos) (tBM X.K "list" rAppend (tVar i) (tCons (tE false X.K c E ρ m) tNil)))
    (hr : ∀ es, JSs X c E ρf (ρ.set i (some (.own es))) rest (k es)) (hs : swapsWith (.Call (.Attribute (.Name x xp) "append" apos) [e] [] pos) none pos2.line X.env = pure false := by rfl) :
    JSs X c E ρf ρ (.Expr (.Call (.Attribute (.Name x xp) "append" apos) [e] [] pos) pos2 :: rest) (mBnd m fun d => mBnd (mOf (gApp ds d)) k) :=
  JSs.of (pss_cons (ps_expr h hs) (pss_ex hr)) fun Dn σ H ⟨ow, s, T, q⟩ => by
    obtain ⟨p, xs, e1, ho, hp, r⟩ := own_at hρ T
    refine ⟨_, e1, Or.inl ⟨rfl, _, Or.inl (Or.inl hp)⟩, ?_⟩
    refine bndS_at (b := false) T q fun d s1 v H1 k1 T1 rv q1 => ?_
    cases eg : gApp ds d with
    | none => rw [eg] at q1; exact q1.elim
    | some es =>
      rw [eg] at q1
      obtain ⟨hz, rfl⟩ := gApp_inv eg
      obtain ⟨p', xs', e1', ho', hp', r'⟩ := own_at hρ T1
      rw [e1] at e1'
      cases e1'
      have ch := T1.chg hρ ho' hp' (r'.app (.cons rv.val .nil))
      exact ⟨p, xs', v, rfl, rfl, hp', by rw [r'.len]; exact hz, ds ++ [d], ow, s1, ch.1, ContS.move q1 ch.2⟩
/-- xs.append(ys.pop(e)) -/
theorem bs_appM (i j : Nat) {x : Str} {ds : List D} {xp apos pos pos2 : Pos} {k : List D × List D → Mo S (Fl α)} (hij : i ≠ j) (hρ : ρ[i]? = some (some (.own ds)))
    (h : PE X (.Call (.Attribute (.Name x xp) "append" apos) [e] [] pos) (tBM X.K "list" rAppend (tVar i) (tCons (tM X.K c E ρ j mm) tNil)))
    (hr : ∀ z : List D × List D, JSs X c E ρf ((ρ.set j (some (.own z.2))).set i (some (.own z.1))) rest (k z)) (hs : swapsWith (.Call (.Attribute (.Name x xp) "append" apos) [e] [] pos) none pos2.line X.env = pure false := by rfl) :
    JSs X c E ρf ρ (.Expr (.Call (.Attribute (.Name x xp) "append" apos) [e] [] pos) pos2 :: rest) (mBnd mm fun dl => mBnd (mOf (gApp ds dl.1)) fun es => k (es, dl.2)) :=
  JSs.of (pss_cons (ps_expr h hs) (pss_ex hr)) fun Dn σ H ⟨ow, s, T, q⟩ => by
    obtain ⟨p, xs, e1, ho, hp, r⟩ := own_at hρ T
    refine ⟨_, e1, Or.inl ⟨rfl, _, Or.inl (Or.inl hp)⟩, ⟨ow, s, T, contS_M q fun dl s1 v H1 k1 T1 rv q1 => ?_⟩⟩
    cases eg : gApp ds dl.1 with
    | none => rw [eg] at q1; exact q1.elim
    | some es =>
      rw [eg] at q1
      obtain ⟨hz, rfl⟩ := gApp_inv eg
      have hρ1 : (ρ.set j (some (.own dl.2)))[i]? = some (some (.own ds)) := by rw [List.getElem?_set_ne (Ne.symm hij)]; exact hρ
      obtain ⟨p', xs', e1', ho', hp', r'⟩ := own_at hρ1 T1
      rw [e1] at e1'
      cases e1'
      have ch := T1.chg hρ1 ho' hp' (r'.app (.cons rv .nil))
      exact ⟨p, xs', v, rfl, rfl, hp', by rw [r'.len]; exact hz, (ds ++ [dl.1], dl.2), ow, s1, ch.1, ContS.move q1 ch.2⟩
/-- xs[e1] = e -/
def gSetI (ds : List D) (z d : D) : Option (List D) := match z with
  | .int i => (match ixN ds.length i with
    | some j => some (ds.set j d)
    | none => none)
  | _ => none
theorem gSetI_inv {ds es : List D} {z d : D} (e : gSetI ds z d = some es) : ∃ i j, z = .int i ∧ ixN ds.length i = some j ∧ es = ds.set j d := by
  cases z with
  | int i =>
    unfold gSetI at e
    dsimp only at e
    split at e
    · rename_i j hj
      exact ⟨i, j, rfl, hj, (Option.some.inj e).symm⟩
    · cases e
  | _ => cases e
theorem bs_seti (i : Nat) {x : Str} {ds : List D} {xp tp pos : Pos} {k : List D → Mo S (Fl α)} (hρ : ρ[i]? = some (some (.own ds))) (he : JE false X c E ρ e m) (h1 : JE false X c E ρ e1 m1)
    (hr : ∀ es, JSs X c E ρf (ρ.set i (some (.own es))) rest (k es)) (hN : X.N[i]? = some x := by rfl)
    (hv : Vis X.env.scope x := by first | exact .inl rfl | exact .inr (.inl rfl) | exact .inr (.inr rfl)) (hd : (x == ("__debug__" : Str)) = false := by decide) (hcd : (x == ("__classdict__" : Str)) = false := by decide)
    (ha : ∀ v, assign (.Subscript (.Name x xp) e1 tp) X.env v = (do
      let ov ← holding [v] (eval (.Name x xp) X.env)
      let iv ← holding [v, ov] (eval e1 X.env)
      standAt tp
      holding [v, ov, iv] (setItem ov iv v)
      release [v, ov, iv] []) := by intro _; rfl)
    (hs : swapsWithSole [.Subscript (.Name x xp) e1 tp] e pos.line X.env = pure false := by rfl) (hw : swappedStores [.Subscript (.Name x xp) e1 tp] e X.env = pure none := by rfl)
    (hb : (assignEach [.Subscript (.Name x xp) e1 tp] X.env).map (·.2) = [assign (.Subscript (.Name x xp) e1 tp) X.env] := by rfl) :
    JSs X c E ρf ρ (.Assign [.Subscript (.Name x xp) e1 tp] e pos :: rest) (mBnd m fun d => mBnd m1 fun z => mBnd (mOf (gSetI ds z d)) k) :=
  JSs.of (pss_cons (ps_asg he (pg_sub (pe_var hN hv hd hcd) h1 set_list ha) hs hw hb) (pss_ex hr)) fun Dn σ H ⟨ow, s, T, q⟩ => bndS_at (b := false) T q fun d s1 v H1 k1 T1 rv q1 => by
    obtain ⟨p, xs, f1, ho, hp, r⟩ := own_at hρ T1
    refine ⟨_, f1, ?_⟩
    refine bndS_at (b := false) T1 q1 fun z s2 w H2 k2 T2 rw' q2 => ?_
    cases eg : gSetI ds z d with
    | none => rw [eg] at q2; exact q2.elim
    | some es =>
      rw [eg] at q2
      obtain ⟨j, l, rfl, hl, rfl⟩ := gSetI_inv eg
      obtain ⟨p', xs', f1', ho', hp', r'⟩ := own_at hρ T2
      rw [f1] at f1'
      cases f1'
      have ch := T2.chg hρ ho' hp' (r'.setAt l (rv.val.keepM k2))
      exact ⟨p, xs', j, l, rfl, rw'.int, hp', by rw [r'.len]; exact hl, _, ow, s2, ch.1, ContS.move q2 ch.2⟩

/-! ### a def's body -/
def env0 : List (Option Nat) → List D → En
  | [], _ => []
  | none :: pt, d :: ds => some (.v d) :: env0 pt ds
  | none :: pt, [] => none :: env0 pt []
  | some n :: pt, ds => some (.opq n) :: env0 pt ds
def nDat : List (Option Nat) → Nat
  | [] => 0
  | none :: pt => nDat pt + 1
  | some _ :: pt => nDat pt
theorem Agr.dat_len {W : Wd S} {N : Addr → Prop} : ∀ {pt : List (Option Nat)} {vs : List V} {ds : List D}, Agr W K N H pt vs ds → ds.length = nDat pt
  | _, _, _, .nil => rfl
  | _, _, _, .dat _ r => by simp [nDat, Agr.dat_len r]
  | _, _, _, .opq _ r => by simp [nDat, Agr.dat_len r]
theorem env0_len : ∀ {pt : List (Option Nat)} {ds : List D}, (env0 pt ds).length = pt.length
  | [], _ => rfl
  | none :: pt, d :: ds => by simp [env0, env0_len (pt := pt) (ds := ds)]
  | none :: pt, [] => by simp [env0, env0_len (pt := pt) (ds := [])]
  | some n :: pt, ds => by simp [env0, env0_len (pt := pt) (ds := ds)]
theorem env0_at {W : Wd S} {hW : WCl.cl W} {B : Addr → Prop} {H0 : Hp} {pt : List (Option Nat)} {vs : List V} {ds : List D} (a : Agr W K (fun a => W.M a ∨ B a) H pt vs ds) : ∀ {i : Nat} {dv : DV} (j : Nat), (env0 pt ds)[i]? = some (some dv) →
    SlotOk K (⟨W, hW, B, H0⟩ : Cf S) (fun _ => none) H j ((vs.map some)[i]?.join) dv := by
  induction a with
  | nil => intro i dv j e; simp [env0] at e
  | @dat pt v vs d ds h r ih =>
    intro i dv j e
    cases i with
    | zero =>
      have e : some (some (DV.v d)) = some (some dv) := e
      cases e
      refine ⟨v, rfl, h.sub fun a z => ?_⟩
      rcases z with z | z | ⟨_, z⟩
      · exact .inl z
      · exact .inr z
      · cases z
    | succ i => exact ih (i := i) j e
  | @opq pt n a vs ds h r ih =>
    intro i dv j e
    cases i with
    | zero =>
      have e : some (some (DV.opq n)) = some (some dv) := e
      cases e
      exact ⟨a, rfl, h⟩
    | succ i => exact ih (i := i) j e
def mFin (m : Mo S (Fl Unit)) : Mo S D := mBnd m fun fl => match fl with
  | .nx _ => mRet .none
  | .rt d => mRet d
theorem guards_deeper {A : Around} (h : A.guards = some []) (env : Env) : (A.deeper env).guards = some [] := h
/-- THE RULE for a def -/
theorem mk_gn {P : Program} {w : World} {mg : Str → Option Value} {base : Heap} {k : Nat} {f : Addr} {name qual : Str} {params : Arguments} {body : List Stmt} {scope : Scope} {dV kV doc pm cdv ct oc : Value} {an od : Option Addr}
    {osl : Array (Option Value)} {N ps : List Str} {pt : List (Option Nat)} {mb : List D → Mo S (Fl Unit)} {mf : List D → Mo S D} (lk : K.lookup f = some ⟨oc, od, .func (PySem.W.fnOf name qual params body scope dV kV doc pm an cdv ct), osl⟩) (hcd : PySem.W.codeIn K cdv qual = true)
    (sc : FnScope N ps scope) (hpt : pt.length = ps.length) (hps : ps.length ≤ N.length) (hmf : ∀ ds, ds.length = nDat pt → mf ds = mFin (mb ds))
    (hb : ∀ (A : Around) (outer : List Env) (s : Shared) (H : Hp) (E : XK) (c : Cf S) (ds : List D), Xok (cxOf (L2.CX P w) P w K mg base N qual scope f cdv A outer s H E) E k → ds.length = nDat pt →
      JSs (cxOf (L2.CX P w) P w K mg base N qual scope f cdv A outer s H E) c E (fun _ : Unit => List.replicate N.length none) (env0 pt ds ++ List.replicate (N.length - ps.length) none) body (mb ds)) :
    Gn P w K mg base (k + 1) f (PySem.W.fnOf name qual params body scope dV kV doc pm an cdv ct) ps (spD K pt mf) := by
  have len : ∀ vs H Q E, spD (S := S) K pt mf vs H Q E → vs.length = ps.length := fun vs H Q E ⟨W, B, ds, s, _, _, _, a, _⟩ => a.len.trans hpt
  refine ⟨len, fun A outer s H args us vs Q E hr hgd e0 hbt r hsp => ?_⟩
  refine LamX.run_ofS lk hcd sc hr e0 hbt r (len _ _ _ _ hsp) fun hr' => ?_
  obtain ⟨W, B, ds, st, hW, hok, hB, ha, hq⟩ := hsp
  have hl := ha.dat_len
  have O : Xok (cxOf (L2.CX P w) P w K mg base N qual scope f cdv A outer s H E) E k := ⟨hr', guards_deeper hgd _, fun pins σ H s e s' I x => passes_call (W := fun cls d _ H => E cls d H) (takes_of rfl rfl rfl rfl) (fun _ _ _ _ z => z) pins σ H s e s' I x⟩
  refine ⟨_, hb A outer s H E ⟨W, hW, B, H⟩ ds O hl, fun _ => none, st, ⟨hok, .refl, hB, fun i p z => (by cases z), fun i j p z => (by cases z), ?_, fun i dv e => ?_⟩, ?_⟩
  · show (vs.map some ++ List.replicate (N.length - vs.length) none).length = _
    have h1 := ha.len
    simp only [List.length_append, List.length_map, List.length_replicate, env0_len]
    omega
  · by_cases hi : i < (env0 pt ds).length
    · rw [List.getElem?_append_left hi] at e
      have z := env0_at (hW := hW) (H0 := H) ha i e
      have hv : i < (vs.map some).length := by rw [List.length_map, ha.len]; rw [env0_len] at hi; exact hi
      show SlotOk K _ _ H i ((vs.map some ++ List.replicate (N.length - vs.length) none)[i]?.join) dv
      rw [List.getElem?_append_left hv]
      exact z
    · rw [List.getElem?_append_right (by omega)] at e
      rw [List.getElem?_replicate] at e
      split at e <;> simp at e
  · rw [hmf ds hl] at hq
    unfold mFin mBnd at hq
    cases z : mb ds st with
    | ok fl s' =>
      rw [z] at hq
      cases fl with
      | nx a => exact fun ow' σ' H' k' T' => hq .non H' T'.kp T'.ok .non
      | rt d => exact fun v H' k' o' r' => hq v H' k' o' r'
    | ex C pl s' =>
      rw [z] at hq
      exact fun dx H' k' o' x' => hq dx H' k' o' x'
    | bad => rw [z] at hq; exact hq
end
end Cz
set_option Elab.async false
set_option linter.all false
set_option maxRecDepth 100000
set_option maxHeartbeats 2000000
/-! Operators, on data. -/
namespace Cz
open PySem PySem.Spec PyProof.Rows L2
theorem if_some {α : Type} {p : Prop} [Decidable p] {a b : α} (e : (if p then some a else none) = some b) : p ∧ a = b := by
  by_cases h : p
  · rw [if_pos h] at e; exact ⟨h, Option.some.inj e⟩
  · rw [if_neg h] at e; cases e
section
variable {S : Type} [WCl S] {b : Bool} {X : Cx} {K : PySem.W.Frag} {c : Cf S} {E : XK} {ρ : En} {e e1 e2 : Expr} {m m1 m2 : Mo S D} {ow : Ows} {σ : L2.St} {H H1 : Hp} {s : S} {Q : VK}
theorem OkR2.or1 {r r' : R2} {g : D → D → Option D} (h : OkR2 K r g) : OkR2 K (fun x y H Q => r x y H Q ∨ r' x y H Q) g := fun T rx ry e q => .inl (h T rx ry e q)
theorem OkR2.or2 {r r' : R2} {g : D → D → Option D} (h : OkR2 K r' g) : OkR2 K (fun x y H Q => r x y H Q ∨ r' x y H Q) g := fun T rx ry e q => .inr (h T rx ry e q)
/-! ### tuples, their objects known -/
def rCatF (K : PySem.W.Frag) : R2 := fun x y H Q => ∃ a b xs ys, x = .ref a ∧ y = .ref b ∧ SqT K H a xs ∧ SqT K H b ys ∧ xs.length + ys.length ≤ sizeLine ∧
  (xs = [] → Q (.ref b) H) ∧ (xs ≠ [] → ys = [] → Q (.ref a) H) ∧ (xs ≠ [] → ys ≠ [] → ∀ p o, H p = none → o.dict = none → Q (.ref p) (upd H p (.frz o (.tup (xs ++ ys)))))
theorem op_catF : OpR X (binaryOp .Add) (rCatF X.K) := by
  intro pins s σ H x y v u Q I rx ry ⟨a, b, xs, ys, ex, ey, ha, hb, hz, q0, q1, q2⟩
  subst ex ey
  cases rx
  cases ry
  obtain ⟨us, r1, p1, _⟩ := I.tuple ha
  obtain ⟨ws, r2, p2, _⟩ := I.tuple hb
  cases r1 with
  | nil =>
    cases r2 with
    | nil => exact cat_tup0 p1 p2 ⟨.ref b, H, I, rfl, q0 rfl⟩
    | cons _ _ => exact cat_tup0 p1 p2 ⟨.ref b, H, I, rfl, q0 rfl⟩
  | cons h1 t1 =>
    have r1 := Paired.cons h1 t1
    refine HT.cat_tup p1 p2 (fun z => nomatch z) (fun z => ⟨.ref a, H, I, rfl, q1 (fun w => nomatch w) (r2.nil_iff.mp z)⟩) (fun z => ?_) (by rw [← Vals.length r1, ← r2.length]; exact hz)
    exact ⟨.ref s.heap.objs.size, _, laidT (t' := s.toks) I (fun b ob q => Heap.get?_push_of_some _ q) (Nat.le_refl _) (Heap.get?_push_size _ rfl) (Vals.append r1 r2) (by rw [List.length_append]; exact hz), rfl,
      q2 (fun w => nomatch w) (fun w => z (r2.nil_iff.mpr w)) _ _ (I.hok.fresh (Nat.le_refl _)) rfl⟩
/-! ### + - * // % ** -/
def gAdd : D → D → Option D
  | .int i, .int j => some (.int (i + j))
  | .str x, .str y => if x.length + y.length ≤ sizeLine then some (.str (x ++ y)) else none
  | .list xs, .list ys => if xs.length + ys.length ≤ sizeLine then some (.list (xs ++ ys)) else none
  | .tuple xs, .tuple ys => if xs.length + ys.length ≤ sizeLine then some (.tuple (xs ++ ys)) else none
  | _, _ => none
theorem add_str_if {x y : Str} {d : D} (e : gAdd (.str x) (.str y) = some d) : x.length + y.length ≤ sizeLine ∧ PyData.str (x ++ y) = d := if_some e
theorem add_list_if {x y : List D} {d : D} (e : gAdd (.list x) (.list y) = some d) : x.length + y.length ≤ sizeLine ∧ PyData.list (x ++ y) = d := if_some e
theorem add_tuple_if {x y : List D} {d : D} (e : gAdd (.tuple x) (.tuple y) = some d) : x.length + y.length ≤ sizeLine ∧ PyData.tuple (x ++ y) = d := if_some e
def rAdd (K : PySem.W.Frag) : R2 := fun x y H Q => (rI0 fun i j => .int (i + j)) x y H Q ∨ (fun x y H Q => (fun x y H Q => ∃ i j, x = .str i ∧ y = .str j ∧ i.length + j.length ≤ sizeLine ∧ Q (.str (i ++ j)) H) x y H Q ∨ (fun x y H Q => rCat x y H Q ∨ rCatF K x y H Q) x y H Q) x y H Q
theorem op_addD : OpR X (binaryOp .Add) (rAdd X.K) := op_add.or (op_add_str.or (op_cat.or op_catF))
theorem ok_add : OkR2 K (rAdd K) gAdd := by
  intro S _ c ow ρ σ H s x y dx dy d Q T rx ry e q
  cases dx with
  | int i => cases dy with
    | int j =>
      cases e
      exact .inl ⟨i, j, rx.int, ry.int, q _ _ (Same.refl _) (.int _)⟩
    | _ => cases e
  | str i => cases dy with
    | str j =>
      obtain ⟨hl, rfl⟩ := add_str_if e
      exact .inr (.inl ⟨i, j, rx.str, ry.str, hl, q _ _ (Same.refl _) (.str _)⟩)
    | _ => cases e
  | list i => cases dy with
    | list j =>
      obtain ⟨hl, rfl⟩ := add_list_if e
      obtain ⟨p, xs, rfl, hp, r1⟩ := rx.list
      obtain ⟨p2, ys, rfl, hp2, r2⟩ := ry.list
      exact .inr (.inr (.inl ⟨p, p2, xs, ys, rfl, rfl, hp, hp2, by rw [r1.len, r2.len]; exact hl, fun p3 n => q _ _ (same_new n) (rep_lst T n (r1.app r2))⟩))
    | _ => cases e
  | tuple i => cases dy with
    | tuple j =>
      obtain ⟨hl, rfl⟩ := add_tuple_if e
      obtain ⟨p, xs, rfl, hp, r1⟩ := rx.tupD
      obtain ⟨p2, ys, rfl, hp2, r2⟩ := ry.tupD
      refine .inr (.inr (.inr ⟨p, p2, xs, ys, rfl, rfl, hp.sq, hp2.sq, by rw [r1.len, r2.len]; exact hl, fun z => ?_, fun _ z => ?_, fun _ _ p3 o n dn => q _ _ (same_new n) (rep_tup dn n (r1.app r2))⟩))
      · subst z
        cases r1
        exact q _ _ (Same.refl _) (.tup hp2 r2)
      · subst z
        cases r2
        rw [List.append_nil] at q
        exact q _ _ (Same.refl _) (.tup hp r1)
    | _ => cases e
  | _ => cases e
def gSub : D → D → Option D
  | .int i, .int j => some (.int (i - j))
  | _, _ => none
theorem ok_sub : OkR2 K (rI0 fun i j => .int (i - j)) gSub := by
  intro S _ c ow ρ σ H s x y dx dy d Q T rx ry e q
  cases dx with
  | int i => cases dy with
    | int j =>
      cases e
      exact ⟨i, j, rx.int, ry.int, q _ _ (Same.refl _) (.int _)⟩
    | _ => cases e
  | _ => cases e
/-- * : ints; a list or a tuple, so often; a text, so often -/
def gMul : D → D → Option D
  | .int i, .int j => if (Builtin.Int.intBits i : Int) + (Builtin.Int.intBits j : Int) ≤ 134217728 then some (.int (i * j)) else none
  | .list xs, .int k => if -(2 ^ 63) ≤ k ∧ k < 2 ^ 63 ∧ xs.length * k.toNat ≤ sizeLine then some (.list (List.replicate k.toNat xs).flatten) else none
  | _, _ => none
def rMul : R2 := fun x y H Q => (rI CMulX fun i j => .int (i * j)) x y H Q ∨ rRep x y H Q
theorem op_mulD : OpR X (binaryOp .Mult) rMul := op_mulX.or op_rep
theorem mul_int_if {i j : Int} {d : D} (e : gMul (.int i) (.int j) = some d) : (Builtin.Int.intBits i : Int) + (Builtin.Int.intBits j : Int) ≤ 134217728 ∧ PyData.int (i * j) = d := if_some e
theorem mul_list_if {xs : List D} {k : Int} {d : D} (e : gMul (.list xs) (.int k) = some d) : (-(2 ^ 63) ≤ k ∧ k < 2 ^ 63 ∧ xs.length * k.toNat ≤ sizeLine) ∧ PyData.list (List.replicate k.toNat xs).flatten = d := if_some e
theorem ok_mul : OkR2 K rMul gMul := by
  intro S _ c ow ρ σ H s x y dx dy d Q T rx ry e q
  cases dx with
  | int i => cases dy with
    | int j =>
      obtain ⟨hl, rfl⟩ := mul_int_if e
      exact .inl ⟨i, j, rx.int, ry.int, hl, q _ _ (Same.refl _) (.int _)⟩
    | _ => cases e
  | list xs => cases dy with
    | int k =>
      obtain ⟨⟨h1, h2, h3⟩, rfl⟩ := mul_list_if e
      obtain ⟨p, vs, rfl, hp, r1⟩ := rx.list
      exact .inr ⟨p, k, vs, rfl, ry.int, hp, h1, h2, by rw [r1.len]; exact h3, fun p3 n => q _ _ (same_new n) (rep_lst T n (r1.rep _))⟩
    | _ => cases e
  | _ => cases e
def gMod : D → D → Option D
  | .int i, .int j => if 0 < j then some (.int (i % j)) else none
  | _, _ => none
theorem mod_if {i j : Int} {d : D} (e : gMod (.int i) (.int j) = some d) : 0 < j ∧ PyData.int (i % j) = d := if_some e
theorem ok_mod : OkR2 K (rI (fun _ j => 0 < j) fun i j => .int (i % j)) gMod := by
  intro S _ c ow ρ σ H s x y dx dy d Q T rx ry e q
  cases dx with
  | int i => cases dy with
    | int j =>
      obtain ⟨hl, rfl⟩ := mod_if e
      exact ⟨i, j, rx.int, ry.int, hl, q _ _ (Same.refl _) (.int _)⟩
    | _ => cases e
  | _ => cases e
def gFdv : D → D → Option D
  | .int i, .int j => if 0 < j ∧ j < 1073741824 then some (.int (i / j)) else none
  | _, _ => none
theorem fdv_if {i j : Int} {d : D} (e : gFdv (.int i) (.int j) = some d) : (0 < j ∧ j < 1073741824) ∧ PyData.int (i / j) = d := if_some e
theorem ok_fdv : OkR2 K (rI CDiv fun i j => .int (i / j)) gFdv := by
  intro S _ c ow ρ σ H s x y dx dy d Q T rx ry e q
  cases dx with
  | int i => cases dy with
    | int j =>
      obtain ⟨hl, rfl⟩ := fdv_if e
      exact ⟨i, j, rx.int, ry.int, hl, q _ _ (Same.refl _) (.int _)⟩
    | _ => cases e
  | _ => cases e
def gPow : D → D → Option D
  | .int i, .int j => if 0 ≤ j ∧ j ≤ 1000000 ∧ i.natAbs < 2 ^ 64 then some (.int (i ^ j.toNat)) else none
  | _, _ => none
theorem pow_if {i j : Int} {d : D} (e : gPow (.int i) (.int j) = some d) : (0 ≤ j ∧ j ≤ 1000000 ∧ i.natAbs < 2 ^ 64) ∧ PyData.int (i ^ j.toNat) = d := if_some e
theorem ok_pow : OkR2 K (rI CPow fun i j => .int (i ^ j.toNat)) gPow := by
  intro S _ c ow ρ σ H s x y dx dy d Q T rx ry e q
  cases dx with
  | int i => cases dy with
    | int j =>
      obtain ⟨hl, rfl⟩ := pow_if e
      exact ⟨i, j, rx.int, ry.int, hl, q _ _ (Same.refl _) (.int _)⟩
    | _ => cases e
  | _ => cases e
def gNeg : D → Option D
  | .int i => some (.int (-i))
  | _ => none
theorem ok_neg : OkR1 K (rU fun i => .int (-i)) gNeg := by
  intro S _ c ow ρ σ H s x dx d Q T rx e q
  cases dx with
  | int i =>
    cases e
    exact ⟨i, rx.int, q _ _ (Same.refl _) (.int _)⟩
  | _ => cases e
/-! ### < <= > >= of ints -/
def gCmp (f : Int → Int → Bool) : D → D → Option D
  | .int i, .int j => some (.bool (f i j))
  | _, _ => none
theorem ok_cmp (f : Int → Int → Bool) : OkR2 K (rI0 fun i j => .bl (f i j)) (gCmp f) := by
  intro S _ c ow ρ σ H s x y dx dy d Q T rx ry e q
  cases dx with
  | int i => cases dy with
    | int j =>
      cases e
      exact ⟨i, j, rx.int, ry.int, q _ _ (Same.refl _) (.bl _)⟩
    | _ => cases e
  | _ => cases e
def gLt := gCmp fun i j => decide (i < j)
def gLe := gCmp fun i j => decide (i ≤ j)
def gGt := gCmp fun i j => decide (j < i)
def gGe := gCmp fun i j => decide (j ≤ i)
theorem ok_lt : OkR2 K (rI0 fun i j => .bl (decide (i < j))) gLt := ok_cmp _
theorem ok_le : OkR2 K (rI0 fun i j => .bl (decide (i ≤ j))) gLe := ok_cmp _
theorem ok_gt : OkR2 K (rI0 fun i j => .bl (decide (j < i))) gGt := ok_cmp _
theorem ok_ge : OkR2 K (rI0 fun i j => .bl (decide (j ≤ i))) gGe := ok_cmp _
/-! ### == and != -/
mutual
theorem Rep.dp {N : Addr → Prop} : ∀ (d : D) (v : V), Rep K N H v d → d.canLay0 = true → Dp K H v d
  | .none, _, h, _ => by cases h; exact .non
  | .bool b, _, h, _ => by cases h; exact .bl b
  | .int i, _, h, _ => by cases h; exact .int i
  | .str x, _, h, _ => by cases h; exact .str x
  | .list ds, _, h, z => by
    cases h with
    | lst n h r => exact .lst (SqL.of h) (Reps.dp ds _ r (by simpa [PyData.canLay0] using z))
  | .tuple ds, _, h, z => by
    cases h with
    | tup h r => exact .tup h.sq (Reps.dp ds _ r (by simpa [PyData.canLay0] using z))
  | .dict es, _, h, z => by simp [PyData.canLay0] at z
theorem Reps.dp {N : Addr → Prop} : ∀ (ds : List D) (vs : List V), Reps K N H vs ds → PyData.canLayAll0 ds = true → DpAll K H vs ds
  | [], _, h, _ => by cases h; exact .nil
  | d :: ds, _, h, z => by
    have z : d.canLay0 = true ∧ PyData.canLayAll0 ds = true := by simpa [PyData.canLayAll0] using z
    cases h with
    | cons h r => exact .cons (Rep.dp d _ h z.1) (Reps.dp ds _ r z.2)
end
theorem RepX.dp {v : V} {d : D} (h : RepX true K c ow H v d) (z : d.canLay0 = true) : Dp K H v d := by
  rcases h with h | ⟨_, i, p, xs, ds, h1, rfl, rfl, h4, h5⟩
  · exact h.dp d v z
  · exact .lst (SqL.of h4) (Reps.dp ds _ h5 (by simpa [PyData.canLay0] using z))
def gEq (x y : D) : Option D := if SeqAt.shaped x = true ∧ SeqAt.shaped y = true then some (.bool (PyData.eqv x y)) else none
def gNe (x y : D) : Option D := if SeqAt.shaped x = true ∧ SeqAt.shaped y = true then some (.bool (!PyData.eqv x y)) else none
theorem ok_eq : OkR2 K (rEqD K) gEq := by
  intro S _ c ow ρ σ H s x y dx dy d Q T rx ry e q
  obtain ⟨⟨h1, h2⟩, rfl⟩ := if_some e
  exact ⟨dx, dy, rx.dp (SeqAt.canLay_of_shaped h1), ry.dp (SeqAt.canLay_of_shaped h2), h1, h2, q _ _ (Same.refl _) (.bl _)⟩
theorem ok_ne : OkR2 K (rNeD K) gNe := by
  intro S _ c ow ρ σ H s x y dx dy d Q T rx ry e q
  obtain ⟨⟨h1, h2⟩, rfl⟩ := if_some e
  exact ⟨dx, dy, rx.dp (SeqAt.canLay_of_shaped h1), ry.dp (SeqAt.canLay_of_shaped h2), h1, h2, q _ _ (Same.refl _) (.bl _)⟩
/-! ### is None -/
def isNoD : D → Bool
  | .none => true
  | _ => false
def gIsN : D → D → Option D
  | d, .none => some (.bool (isNoD d))
  | _, _ => none
def gNotN : D → D → Option D
  | d, .none => some (.bool (!isNoD d))
  | _, _ => none
theorem isN_v {v : V} {d : D} (h : RepX true K c ow H v d) : decide (v = .non) = isNoD d := by
  cases d with
  | none => rw [h.non]; rfl
  | bool _ => rw [h.bl]; rfl
  | int _ => rw [h.int]; rfl
  | str _ => rw [h.str]; rfl
  | list _ => obtain ⟨p, xs, rfl, _⟩ := h.list; rfl
  | tuple _ => obtain ⟨p, xs, rfl, _⟩ := h.tuple; rfl
  | dict _ => obtain ⟨p, xs, rfl, _⟩ := h.dict; rfl
theorem isN_inv {x y d : D} (e : gIsN x y = some d) : y = .none ∧ d = .bool (isNoD x) := by
  cases y <;> first | (cases x <;> cases e; done) | exact ⟨rfl, (Option.some.inj (show some (PyData.bool (isNoD x)) = some d from by cases x <;> exact e)).symm⟩
theorem notN_inv {x y d : D} (e : gNotN x y = some d) : y = .none ∧ d = .bool (!isNoD x) := by
  cases y <;> first | (cases x <;> cases e; done) | exact ⟨rfl, (Option.some.inj (show some (PyData.bool (!isNoD x)) = some d from by cases x <;> exact e)).symm⟩
theorem ok_isN : OkR2 K (fun x y H Q => y = .non ∧ Q (.bl (decide (x = .non))) H) gIsN := by
  intro S _ c ow ρ σ H s x y dx dy d Q T rx ry e q
  obtain ⟨rfl, rfl⟩ := isN_inv e
  refine ⟨ry.non, ?_⟩
  rw [isN_v rx]
  exact q _ _ (Same.refl _) (.bl _)
theorem ok_notN : OkR2 K (fun x y H Q => y = .non ∧ Q (.bl (!decide (x = .non))) H) gNotN := by
  intro S _ c ow ρ σ H s x y dx dy d Q T rx ry e q
  obtain ⟨rfl, rfl⟩ := notN_inv e
  refine ⟨ry.non, ?_⟩
  rw [isN_v rx]
  exact q _ _ (Same.refl _) (.bl _)
/-! ### x in xs, xs ints (or what is flat) -/
def flatD : D → Bool
  | .none => true
  | .bool _ => true
  | .int _ => true
  | .str _ => true
  | _ => false
def inD (x : D) (ds : List D) : Bool := ds.any fun y => PyData.eqv y x
def gIn (x y : D) : Option D := match gSeq y with
  | some ds => if flatD x = true ∧ ds.all flatD = true then some (.bool (inD x ds)) else none
  | none => none
def gNotIn (x y : D) : Option D := match gSeq y with
  | some ds => if flatD x = true ∧ ds.all flatD = true then some (.bool (!inD x ds)) else none
  | none => none
theorem Rep.flat {N : Addr → Prop} {v : V} {d : D} (h : Rep K N H v d) (f : flatD d = true) : flatV v = true := by
  cases h <;> first | rfl | cases f
theorem Rep.eqv {N : Addr → Prop} {v w : V} {d d' : D} (h : Rep K N H v d) (h' : Rep K N H w d') (f : flatD d = true) (f' : flatD d' = true) : eqV v w = PyData.eqv d d' := by
  have no : ∀ {z : D} {A : Prop}, flatD z = true → (flatD z = false) → A := fun a b => by rw [a] at b; cases b
  cases h with
  | non =>
    cases h' with
    | non => rfl
    | bl => rfl
    | int => rfl
    | str => rfl
    | lst => exact no f' rfl
    | tup => exact no f' rfl
    | dic => exact no f' rfl
  | bl =>
    cases h' with
    | non => rfl
    | bl => rfl
    | int => rfl
    | str => rfl
    | lst => exact no f' rfl
    | tup => exact no f' rfl
    | dic => exact no f' rfl
  | int =>
    cases h' with
    | non => rfl
    | bl => rfl
    | int => rfl
    | str => rfl
    | lst => exact no f' rfl
    | tup => exact no f' rfl
    | dic => exact no f' rfl
  | str =>
    cases h' with
    | non => rfl
    | bl => rfl
    | int => rfl
    | str => rfl
    | lst => exact no f' rfl
    | tup => exact no f' rfl
    | dic => exact no f' rfl
  | lst => exact no f rfl
  | tup => exact no f rfl
  | dic => exact no f rfl
theorem Reps.flat {N : Addr → Prop} : ∀ {vs : List V} {ds : List D}, Reps K N H vs ds → ds.all flatD = true → vs.all flatV = true
  | _, _, .nil, _ => rfl
  | _, _, .cons h r, f => by
    rw [List.all_cons, Bool.and_eq_true] at f
    rw [List.all_cons, h.flat f.1, Reps.flat r f.2]; rfl
theorem Reps.inV {N : Addr → Prop} {v : V} {d : D} (hv : Rep K N H v d) (fv : flatD d = true) : ∀ {vs : List V} {ds : List D}, Reps K N H vs ds → ds.all flatD = true → L2.inV v vs = inD d ds
  | _, _, .nil, _ => rfl
  | _, _, .cons h r, f => by
    rw [List.all_cons, Bool.and_eq_true] at f
    have ih := Reps.inV hv fv r f.2
    unfold L2.inV inD at *
    rw [List.any_cons, List.any_cons, h.eqv hv f.1 fv, ih]
theorem RepX.seq {v : V} {d : D} {ds : List D} (h : RepX true K c ow H v d) (e : gSeq d = some ds) : ∃ p xs, v = .ref p ∧ (SqL K H p xs ∨ SqT K H p xs) ∧ Reps K (c.Nn ow) H xs ds := by
  cases d with
  | list z =>
    cases e
    obtain ⟨p, xs, e1, hp, r⟩ := h.list
    exact ⟨p, xs, e1, .inl (SqL.of hp), r⟩
  | tuple z =>
    cases e
    obtain ⟨p, xs, e1, hp, r⟩ := h.tuple
    exact ⟨p, xs, e1, .inr hp, r⟩
  | _ => cases e
theorem RepX.flatR {v : V} {d : D} (h : RepX true K c ow H v d) (f : flatD d = true) : Rep K (c.Nn ow) H v d := by
  rcases h with h | ⟨_, i, p, xs, ds, h1, rfl, rfl, h4, h5⟩
  · exact h
  · cases f
theorem ok_in : OkR2 K (rIn K false) gIn := by
  intro S _ c ow ρ σ H s x y dx dy d Q T rx ry e q
  unfold gIn at e
  cases eg : gSeq dy with
  | none => rw [eg] at e; cases e
  | some ds =>
    rw [eg] at e
    obtain ⟨⟨h1, h2⟩, rfl⟩ := if_some e
    obtain ⟨p, xs, rfl, hq, r⟩ := ry.seq eg
    refine ⟨p, xs, rfl, hq, (rx.flatR h1).flat h1, r.flat h2, ?_⟩
    rw [if_neg (by decide), Reps.inV (rx.flatR h1) h1 r h2]
    exact q _ _ (Same.refl _) (.bl _)
theorem ok_notIn : OkR2 K (rIn K true) gNotIn := by
  intro S _ c ow ρ σ H s x y dx dy d Q T rx ry e q
  unfold gNotIn at e
  cases eg : gSeq dy with
  | none => rw [eg] at e; cases e
  | some ds =>
    rw [eg] at e
    obtain ⟨⟨h1, h2⟩, rfl⟩ := if_some e
    obtain ⟨p, xs, rfl, hq, r⟩ := ry.seq eg
    refine ⟨p, xs, rfl, hq, (rx.flatR h1).flat h1, r.flat h2, ?_⟩
    rw [if_pos rfl, Reps.inV (rx.flatR h1) h1 r h2]
    exact q _ _ (Same.refl _) (.bl _)
/-! ### x[i] -/
def gIx : D → D → Option D
  | .list ds, .int i => atI ds i
  | .tuple ds, .int i => atI ds i
  | .str z, .int i => if z.length ≤ sizeLine then (atI z.cps.toList i).map fun c => .str ⟨#[c]⟩ else none
  | _, _ => none
theorem Reps.atI {N : Addr → Prop} {vs : List V} {ds : List D} {i : Int} {d : D} (r : Reps K N H vs ds) (e : L2.atI ds i = some d) : ∃ v, L2.atI vs i = some v ∧ Rep K N H v d := by
  unfold L2.atI at *
  rw [r.len]
  cases h : ixN ds.length i with
  | none => rw [h] at e; cases e
  | some j =>
    rw [h] at e
    exact r.get e
theorem ok_ix : OkR2 K (rIx K) gIx := by
  intro S _ c ow ρ σ H s x y dx dy d Q T rx ry e q
  cases dy with
  | int i =>
    cases dx with
    | list ds =>
      obtain ⟨p, xs, rfl, hp, r⟩ := rx.list
      obtain ⟨v, ev, rv⟩ := r.atI e
      exact .inl ⟨p, xs, i, v, rfl, ry.int, SqL.of hp, ev, q _ _ (Same.refl _) rv⟩
    | tuple ds =>
      obtain ⟨p, xs, rfl, hp, r⟩ := rx.tuple
      obtain ⟨v, ev, rv⟩ := r.atI e
      exact .inr (.inl ⟨p, xs, i, v, rfl, ry.int, hp, ev, q _ _ (Same.refl _) rv⟩)
    | str z =>
      have e : (if z.length ≤ sizeLine then (L2.atI z.cps.toList i).map fun c => PyData.str ⟨#[c]⟩ else none) = some d := e
      by_cases hz : z.length ≤ sizeLine
      · rw [if_pos hz] at e
        cases ec : L2.atI z.cps.toList i with
        | none => rw [ec] at e; cases e
        | some w =>
          rw [ec] at e
          cases e
          exact .inr (.inr ⟨z, i, w, rx.str, ry.int, hz, ec, q _ _ (Same.refl _) (.str _)⟩)
      · rw [if_neg hz] at e; cases e
    | _ => cases e
  | _ => cases dx <;> cases e
end
end Cz
set_option Elab.async false
set_option linter.all false
set_option maxRecDepth 100000
set_option maxHeartbeats 2000000
/-! itertools.product of ranges: the call, the walk. -/
namespace CzP
open PySem PySem.Spec
open Sem (wp)

theorem mro_prd : mroOf (.type "itertools.product") = pure [.type "itertools.product", .type "object"] := by rw [mroOf_type]; kernel_rfl
theorem new_prd : typeLookup (.type "itertools.product") "__new__" = pure (some (.builtin "itertools.product.__new__")) := by rw [typeLookup_type, builtinLookup_eq_fast]; kernel_rfl
theorem sub_prd : isSubtype (.type "itertools.product") (.type "itertools.product") = pure true := by rw [isSubtype_type]; kernel_rfl
theorem init_prd : Slot "itertools.product" "__init__" "object.__init__" :=
  .of (owner := "object") (n := "__init__") (by rw [typeLookup_type, builtinLookup_eq_fast]; kernel_rfl) (by decide +kernel) (by decide +kernel) (by decide +kernel)
    (by first | exact .inl (by decide +kernel) | exact .inr (by decide +kernel)) (by rw [isSubtype_type]; kernel_rfl)
theorem called_prd : TypeCalled "itertools.product" "itertools.product.__new__" "object.__init__" :=
  ⟨by decide +kernel, by decide +kernel, ⟨_, _, mro_prd⟩, madeBy_type mro_prd new_prd (by decide +kernel), by decide +kernel, sub_prd, init_prd⟩
theorem tcall2 (a b : Value) : checkTypeCall "itertools.product" ⟨[a, b], []⟩ = pure () := by kernel_rfl
theorem tcall3 (a b c : Value) : checkTypeCall "itertools.product" ⟨[a, b, c], []⟩ = pure () := by kernel_rfl
theorem ncall2 (a b : Value) : checkBuiltinCall "itertools.product.__new__" ⟨[.type "itertools.product", a, b], []⟩ = pure () := by kernel_rfl
theorem ncall3 (a b c : Value) : checkBuiltinCall "itertools.product.__new__" ⟨[.type "itertools.product", a, b, c], []⟩ = pure () := by kernel_rfl
theorem entry_new : entryFor table "itertools.product.__new__" = some Builtin.«itertools.product.__new__» := entryFor_of_tree (by kernel_rfl)
theorem slot_iter : Slot "itertools.product" "__iter__" "itertools.product.__iter__" :=
  .of (owner := "itertools.product") (n := "__iter__") (by rw [typeLookup_type, builtinLookup_eq_fast]; kernel_rfl) (by decide +kernel) (by decide +kernel) (by decide +kernel)
    (by first | exact .inl (by decide +kernel) | exact .inr (by decide +kernel)) sub_prd
theorem slot_next : Slot "itertools.product" "__next__" "itertools.product.__next__" :=
  .of (owner := "itertools.product") (n := "__next__") (by rw [typeLookup_type, builtinLookup_eq_fast]; kernel_rfl) (by decide +kernel) (by decide +kernel) (by decide +kernel)
    (by first | exact .inl (by decide +kernel) | exact .inr (by decide +kernel)) sub_prd
theorem entry_iter : entryFor table "itertools.product.__iter__" = some Builtin.«dict_keyiterator.__iter__» :=
  entryFor_alias (id' := "dict_keyiterator.__iter__") (by kernel_rfl) (by first | rfl | decide +kernel | (unfold String.splitOn; simp +decide [String.splitOnAux])) (by decide +kernel) (by kernel_rfl)
theorem entry_next : entryFor table "itertools.product.__next__" = some Builtin.«itertools.product.__next__» := entryFor_of_tree (by kernel_rfl)
theorem owner_prd : Manifest.owners.lookup (String.ofList ['t', 'c', 'u', 'd', 'o', 'r', 'p', '.', 's', 'l', 'o', 'o', 't', 'r', 'e', 't', 'i'].reverse) = some Manifest.sig_itertools_product := by kernel_rfl
theorem args_iter (a : Value) : argsOk "itertools.product.__iter__" ⟨[a], []⟩ := by
  unfold argsOk; rw [signature?_of (id := "itertools.product.__iter__") (n := ['_', '_', 'r', 'e', 't', 'i', '_', '_']) (o := ['t', 'c', 'u', 'd', 'o', 'r', 'p', '.', 's', 'l', 'o', 'o', 't', 'r', 'e', 't', 'i']) (by kernel_rfl) owner_prd]; kernel_rfl
theorem args_next (a : Value) : argsOk "itertools.product.__next__" ⟨[a], []⟩ := by
  unfold argsOk; rw [signature?_of (id := "itertools.product.__next__") (n := ['_', '_', 't', 'x', 'e', 'n', '_', '_']) (o := ['t', 'c', 'u', 'd', 'o', 'r', 'p', '.', 's', 'l', 'o', 'o', 't', 'r', 'e', 't', 'i']) (by kernel_rfl) owner_prd]; kernel_rfl
theorem args_init4 (a b c d : Value) : argsOk "object.__init__" ⟨[a, b, c, d], []⟩ := by
  unfold argsOk; rw [signature?_of (id := "object.__init__") (n := ['_', '_', 't', 'i', 'n', 'i', '_', '_']) (o := ['t', 'c', 'e', 'j', 'b', 'o']) (by kernel_rfl) F.owner_object]; kernel_rfl
theorem noDict_prd : typeHasDict (.type "itertools.product") = false := by decide +kernel

/-- the product object at z: the pools' tuple at T, the state, the tuple told last, the indices -/
def prdO (T : Addr) (st : Int) (last : Value) (idx : List Nat) : Obj := { cls := .type "itertools.product", dict := none, data := .fields (.ref T :: rawInt st :: last :: idx.map fun i => rawInt (i : Nat)).toArray, slots := #[] }
abbrev IsPrd (h : Heap) (z T : Addr) (st : Int) (last : Value) (idx : List Nat) : Prop := h.get? z = some (prdO T st last idx)
abbrev TupO (us : List Value) : Obj := { cls := .type "tuple", data := .seq us.toArray }
/-- the pools -/
def Pools (h : Heap) (T : Addr) (ps : List Addr) (us : List (List Value)) : Prop := h.get? T = some (TupO (ps.map Value.ref)) ∧ ps.length = us.length ∧ ∀ (j : Nat) (p : Addr) (x : List Value), ps[j]? = some p → us[j]? = some x → h.get? p = some (TupO x)

section
variable {prog : Program} {w : World} {A : Around} {E : Value → Shared → Prop} {s : Shared}
theorem iter_prd {z T : Addr} {st : Int} {last : Value} {idx : List Nat} {Q : Value → Shared → Prop} (hz : IsPrd s.heap z T st last idx) (h : Q (.ref z) s) : wpAny (model prog w) A (pyIter (.ref z)) Q E s := by
  have hT : s.TypeIs (.ref z) "itertools.product" := ⟨_, hz, rfl⟩
  refine wpAny_pyIter_slot hT slot_iter (wpAny_call_entry slot_iter hT entry_iter ?_ (args_iter _))
  show wpAny _ _ (ret (.ref z)) _ _ s
  exact wpAny_pure ⟨_, rfl, "itertools.product", _, hT, slot_next.lookup, h⟩
theorem map_back (g : Value → Nat) (h : ∀ i : Nat, g (rawInt (i : Nat)) = i) : ∀ l : List Nat, (l.map fun i => rawInt (i : Nat)).map g = l
  | [] => rfl
  | x :: l => by rw [List.map_cons, List.map_cons, map_back g h l, h]
open Builtin.Itertools in
theorem pool_run {a : Addr} {us : List Value} {Q : Array Value → Shared → Prop} (h : s.heap.get? a = some (TupO us)) (q : Q us.toArray s) : wpAny (model prog w) A (itPoolItems (.ref a)) Q E s := by
  unfold itPoolItems
  exact wpAny_bind (wpAny_seqItems h rfl (wpAny_pure q))
open Builtin.Itertools in
theorem pools_loop : ∀ (ps : List Addr) (us : List (List Value)) (acc : List (Array Value)) {Q : List (Array Value) → Shared → Prop}, ps.length = us.length → (∀ (j : Nat) (p : Addr) (x : List Value), ps[j]? = some p → us[j]? = some x → s.heap.get? p = some (TupO x)) →
    Q (acc.reverse ++ us.map List.toArray) s → wpAny (model prog w) A (List.mapM.loop itPoolItems (ps.map Value.ref) acc) Q E s
  | [], [], acc, Q, _, _, q => by
    rw [List.map_nil, List.append_nil] at q
    exact wpAny_pure q
  | p :: ps, u :: us, acc, Q, hl, h, q => by
    show wpAny _ _ (itPoolItems (.ref p) >>= fun r => List.mapM.loop itPoolItems (ps.map Value.ref) (r :: acc)) _ _ _
    refine wpAny_bind (pool_run (h 0 p u rfl rfl) ?_)
    refine pools_loop ps us (u.toArray :: acc) (by simpa using hl) (fun j p x e1 e2 => h (j + 1) p x (by simpa using e1) (by simpa using e2)) ?_
    simpa using q
open Builtin.Itertools in
theorem numbers_run {z T : Addr} {st : Int} {last : Value} {idx : List Nat} {Q : List Nat → Shared → Prop} (hz : IsPrd s.heap z T st last idx) (q : Q idx s) : wpAny (model prog w) A (itNumbersFrom (.ref z) 3) Q E s := by
  unfold itNumbersFrom
  show wpAny _ _ (load z >>= _) _ _ _
  refine wpAny_bind (wpAny_load hz ?_)
  refine wpAny_pure ?_
  exact Eq.mpr (congrArg (fun x => Q x s) (map_back _ (fun _ => rfl) idx)) q
theorem set_fld {z T : Addr} {st : Int} {last : Value} {idx : List Nat} {k : Nat} {v : Value} {st' : Int} {last' : Value} {Q : Unit → Shared → Prop} (hz : IsPrd s.heap z T st last idx) (hk : k < 3)
    (e : ((.ref T :: rawInt st :: last :: idx.map fun i => rawInt (i : Nat)) : List Value).set k v = .ref T :: rawInt st' :: last' :: idx.map fun i => rawInt (i : Nat))
    (h : ∀ h', IsPrd h' z T st' last' idx → Heap.SameBut z s.heap h' → Q () { s with heap := h' }) : wpAny (model prog w) A (setField (.ref z) k v) Q E s := by
  refine wpAny_setField_rec hz (by simp; omega) fun h' hz' hs => h h' ?_ hs
  unfold IsPrd
  rw [hz']
  unfold prdO
  rw [List.setIfInBounds_toArray, e]
open Builtin.Itertools in
theorem set_nums {z T : Addr} {st : Int} {last : Value} {idx idx' : List Nat} {Q : Unit → Shared → Prop} (hz : IsPrd s.heap z T st last idx) (hl : idx'.length ≤ 1000)
    (h : ∀ h', IsPrd h' z T st last idx' → Heap.SameBut z s.heap h' → Q () { s with heap := h' }) : wpAny (model prog w) A (itSetNumbersFrom (.ref z) 3 idx') Q E s := by
  unfold itSetNumbersFrom
  refine wpAny_updateFields hz rfl (h _ ?_ (Heap.SameBut.update ..)) ?_
  · unfold IsPrd
    rw [Heap.get?_update_self _ hz rfl]
    simp [Obj.mapFields, prdO]
  · simp [sizeLine]
    omega
/-- the tuple that the indices tell -/
def pick (us : List (List Value)) (idx : List Nat) : List Value := ((us.map List.toArray).zip idx).map fun (pool, i) => pool.getD i .none
end
/-! ### the odometer -/
/-- the digits of i, the least one first -/
def dg : List Nat → Nat → List Nat
  | [], _ => []
  | s :: ss, i => (i % s) :: dg ss (i / s)
def pd : List Nat → Nat
  | [] => 1
  | s :: ss => s * pd ss
theorem dg_len : ∀ (ss : List Nat) (i : Nat), (dg ss i).length = ss.length
  | [], _ => rfl
  | s :: ss, i => by simp [dg, dg_len ss]
theorem dg_zero : ∀ ss : List Nat, dg ss 0 = ss.map fun _ => 0
  | [] => rfl
  | s :: ss => by simp [dg, dg_zero ss]
theorem pd_pos : ∀ {ss : List Nat}, (∀ s ∈ ss, 0 < s) → 0 < pd ss
  | [], _ => Nat.one_pos
  | s :: ss, h => Nat.mul_pos (h s List.mem_cons_self) (pd_pos fun x hx => h x (List.mem_cons_of_mem _ hx))
theorem odo {F : List Nat → List Nat → Option (List Nat)} (h1 : ∀ s ss i is, F (s :: ss) (i :: is) = if (i + 1 == s) = true then (0 :: ·) <$> F ss is else some ((i + 1) :: is)) (h0 : F [] [] = none) :
    ∀ (ss : List Nat) (i : Nat), (∀ s ∈ ss, 0 < s) → i < pd ss → F ss (dg ss i) = if i + 1 < pd ss then some (dg ss (i + 1)) else none
  | [], i, _, hi => by
    have hi : i < 1 := hi
    show F [] [] = if i + 1 < 1 then _ else none
    rw [h0, if_neg (by omega)]
  | s :: ss, i, hs, hi => by
    have s0 : 0 < s := hs s List.mem_cons_self
    have hi : i < s * pd ss := hi
    show F (s :: ss) (i % s :: dg ss (i / s)) = if i + 1 < s * pd ss then some ((i + 1) % s :: dg ss ((i + 1) / s)) else none
    rw [h1]
    have hq : i / s < pd ss := Nat.div_lt_of_lt_mul hi
    have hm := Nat.div_add_mod i s
    have hlt := Nat.mod_lt i s0
    by_cases h : i % s + 1 = s
    · have e1 : i + 1 = s * (i / s + 1) := by rw [Nat.mul_add, Nat.mul_one]; omega
      rw [if_pos (by simp [h]), odo h1 h0 ss (i / s) (fun x hx => hs x (List.mem_cons_of_mem _ hx)) hq]
      have e2 : (i + 1) % s = 0 := by rw [e1]; exact Nat.mul_mod_right _ _
      have e3 : (i + 1) / s = i / s + 1 := by rw [e1]; exact Nat.mul_div_cancel_left _ s0
      rw [e2, e3]
      by_cases g : i / s + 1 < pd ss
      · rw [if_pos g, if_pos (by rw [e1]; exact Nat.mul_lt_mul_of_pos_left g s0)]
        rfl
      · rw [if_neg g, if_neg (by rw [e1]; exact Nat.not_lt.mpr (Nat.mul_le_mul_left s (Nat.not_lt.mp g)))]
        rfl
    · have e2 : (i + 1) % s = i % s + 1 := by
        have : i + 1 = (i % s + 1) + s * (i / s) := by omega
        rw [this, Nat.add_mul_mod_self_left]
        exact Nat.mod_eq_of_lt (by omega)
      have e3 : (i + 1) / s = i / s := by
        have : i + 1 = (i % s + 1) + s * (i / s) := by omega
        rw [this, Nat.add_mul_div_left _ _ s0, Nat.div_eq_of_lt (by omega), Nat.zero_add]
      have : i + 1 < s * pd ss := by
        have a : s * (i / s + 1) ≤ s * pd ss := Nat.mul_le_mul_left s hq
        rw [Nat.mul_add, Nat.mul_one] at a
        omega
      rw [if_neg (by simp [h]), if_pos this, e2, e3]
section
variable {prog : Program} {w : World} {A : Around} {E : Value → Shared → Prop} {s : Shared}
open Builtin.Itertools
/-- ahead of the state's question -/
theorem next_pre {z T : Addr} {st : Int} {last : Value} {idx : List Nat} {ps : List Addr} {us : List (List Value)} {Q : Fin → Shared → Prop} (hz : IsPrd s.heap z T st last idx) (hp : Pools s.heap T ps us)
    {k : List (Array Value) → List Nat → Int → Sem Fin}
    (e : Builtin.«itertools.product.__next__» ⟨[.ref z], []⟩ = (field (.ref z) 0 >>= fun v => itPoolItems v >>= fun xs => List.mapM itPoolItems xs.toList >>= fun pools => itNumbersFrom (.ref z) 3 >>= fun indices => itIntField (.ref z) 1 >>= fun n => k pools indices n))
    (q : wpAny (model prog w) A (k (us.map List.toArray) idx st) Q E s) : wpAny (model prog w) A (Builtin.«itertools.product.__next__» ⟨[.ref z], []⟩) Q E s := by
  rw [e]
  refine wpAny_bind (wpAny_field hz rfl (x := .ref T) rfl ?_)
  refine wpAny_bind (pool_run hp.1 ?_)
  refine wpAny_bind ?_
  show wpAny _ _ (List.mapM.loop itPoolItems (ps.map Value.ref) []) _ _ _
  refine pools_loop ps us [] hp.2.1 hp.2.2 ?_
  rw [List.reverse_nil, List.nil_append]
  refine wpAny_bind (numbers_run hz ?_)
  refine wpAny_bind ?_
  unfold itIntField
  refine wpAny_bind (wpAny_field hz rfl (x := rawInt st) rfl (wpAny_pure q))
theorem any_no {us : List (List Value)} (h : ∀ x ∈ us, x ≠ []) : (us.map List.toArray).any (·.isEmpty) = false := by
  rw [List.any_eq_false]
  intro a ha
  obtain ⟨x, hx, rfl⟩ := List.mem_map.mp ha
  have := h x hx
  cases x with
  | nil => exact absurd rfl this
  | cons _ _ => simp
theorem next_first {z T : Addr} {last : Value} {idx : List Nat} {ps : List Addr} {us : List (List Value)} {Q : Value → Shared → Prop} (hz : IsPrd s.heap z T 0 last idx) (hp : Pools s.heap T ps us) (hne : ∀ x ∈ us, x ≠ []) (hl : us.length ≤ 1000)
    (hQ : ∀ h', IsPrd h' z T 1 (.ref s.heap.objs.size) idx → h'.get? s.heap.objs.size = some (TupO (pick us idx)) → (∀ c o, c ≠ z → s.heap.get? c = some o → h'.get? c = some o) → Q (.ref s.heap.objs.size) { s with heap := h' }) :
    wpAny (model prog w) A (Builtin.«itertools.product.__next__» ⟨[.ref z], []⟩) (fun fin s' => ∃ v, fin = .done (.ret v) ∧ Q v s') E s := by
  refine next_pre hz hp rfl ?_
  refine wpAny_ite_false (decide_eq_false (by rw [any_no hne]; exact Bool.false_ne_true)) ?_
  refine wpAny_bind (set_fld hz (by omega) rfl fun h1 hz1 hs1 => ?_)
  refine wpAny_bind ?_
  refine wpAny_bind (wpAny_newObj_type ?_ ?_)
  · have hz2 : IsPrd (h1.push (TupO (pick us idx))) z T 1 last idx := Heap.get?_push_of_some _ hz1
    show wpAny _ _ (field (.ref z) 2 >>= _) _ _ _
    refine wpAny_bind (wpAny_field hz2 rfl (x := last) rfl ?_)
    refine wpAny_bind (set_fld hz2 (by omega) rfl fun h3 hz3 hs3 => ?_)
    refine wpAny_bind (wpAny_letGo (wpAny_pure ?_))
    have hzl : z < s.heap.objs.size := Heap.lt_size hz
    have e1 : h1.objs.size = s.heap.objs.size := hs1.1
    refine wpAny_pure ⟨_, rfl, ?_⟩
    show Q (.ref h1.objs.size) _
    rw [e1]
    rw [e1] at hz3
    refine hQ h3 hz3 ?_ fun c o hc q => (hs3.2 c hc).trans (Heap.get?_push_of_some _ ((hs1.2 c hc).trans q))
    rw [← e1]
    exact (hs3.2 _ (by rw [e1]; exact Nat.ne_of_gt hzl)).trans (Heap.get?_push_size _ rfl)
  · show (List.toArray _).size ≤ sizeLine
    rw [List.size_toArray, List.length_map, List.length_zip, List.length_map]
    have : (1000 : Nat) ≤ sizeLine := by decide
    omega
theorem sizes_of {us : List (List Value)} {rs : List Nat} (h : us.map List.length = rs.reverse) : (List.map (fun (x : Array Value) => x.size) (us.map List.toArray)).reverse = rs := by
  rw [List.map_map]
  have e : (fun (x : Array Value) => x.size) ∘ List.toArray = List.length := by funext x; simp
  rw [e, h, List.reverse_reverse]
theorem next_more {z T : Addr} {last : Value} {rs : List Nat} {i : Nat} {ps : List Addr} {us : List (List Value)} {Q : Value → Shared → Prop} (hz : IsPrd s.heap z T 1 last (dg rs i).reverse) (hp : Pools s.heap T ps us) (hu : us.map List.length = rs.reverse)
    (h0 : ∀ x ∈ rs, 0 < x) (hi : i + 1 < pd rs) (hl : us.length ≤ 1000)
    (hQ : ∀ h', IsPrd h' z T 1 (.ref s.heap.objs.size) (dg rs (i + 1)).reverse → h'.get? s.heap.objs.size = some (TupO (pick us (dg rs (i + 1)).reverse)) → (∀ c o, c ≠ z → s.heap.get? c = some o → h'.get? c = some o) → Q (.ref s.heap.objs.size) { s with heap := h' }) :
    wpAny (model prog w) A (Builtin.«itertools.product.__next__» ⟨[.ref z], []⟩) (fun fin s' => ∃ v, fin = .done (.ret v) ∧ Q v s') E s := by
  refine next_pre hz hp rfl ?_
  dsimp only
  rw [sizes_of hu, List.reverse_reverse]
  have hlen : rs.length = us.length := by
    have := congrArg List.length hu
    simpa using this.symm
  have fin : ∀ (next : List Nat), next = dg rs (i + 1) → wpAny (model prog w) A (itSetNumbersFrom (.ref z) 3 next.reverse >>= fun _ => (newTuple (((us.map List.toArray).zip next.reverse).map fun (pool, i) => pool.getD i .none) >>= fun t => field (.ref z) 2 >>= fun before => setField (.ref z) 2 t >>= fun _ => letGo [before] [t] >>= fun _ => pure t) >>= fun v => ret v) (fun fin s' => ∃ v, fin = .done (.ret v) ∧ Q v s') E s := by
    intro next e
    subst e
    refine wpAny_bind (set_nums hz (by rw [List.length_reverse, dg_len]; omega) fun h1 hz1 hs1 => ?_)
    refine wpAny_bind ?_
    refine wpAny_bind (wpAny_newObj_type ?_ ?_)
    · have hz2 : IsPrd (h1.push (TupO (pick us (dg rs (i + 1)).reverse))) z T 1 last (dg rs (i + 1)).reverse := Heap.get?_push_of_some _ hz1
      refine wpAny_bind (wpAny_field hz2 rfl (x := last) rfl ?_)
      refine wpAny_bind (set_fld hz2 (by omega) rfl fun h3 hz3 hs3 => ?_)
      refine wpAny_bind (wpAny_letGo (wpAny_pure ?_))
      have hzl : z < s.heap.objs.size := Heap.lt_size hz
      have e1 : h1.objs.size = s.heap.objs.size := hs1.1
      refine wpAny_pure ⟨_, rfl, ?_⟩
      show Q (.ref h1.objs.size) _
      rw [e1]
      rw [e1] at hz3
      refine hQ h3 hz3 ?_ fun c o hc q => (hs3.2 c hc).trans (Heap.get?_push_of_some _ ((hs1.2 c hc).trans q))
      rw [← e1]
      exact (hs3.2 _ (by rw [e1]; exact Nat.ne_of_gt hzl)).trans (Heap.get?_push_size _ rfl)
    · show (List.toArray _).size ≤ sizeLine
      rw [List.size_toArray, List.length_map, List.length_zip, List.length_map]
      have : (1000 : Nat) ≤ sizeLine := by decide
      omega
  show wpAny _ _ (match (_ : Option (List Nat)) with | some next => _ | none => _) _ _ _
  split
  · rename_i next heq
    have e := heq.symm.trans (odo (fun _ _ _ _ => rfl) rfl rs i h0 (by omega))
    rw [if_pos hi] at e
    exact fin next (Option.some.inj e)
  · rename_i heq
    have e := heq.symm.trans (odo (fun _ _ _ _ => rfl) rfl rs i h0 (by omega))
    rw [if_pos hi] at e
    cases e
theorem next_end {z T : Addr} {last : Value} {rs : List Nat} {i : Nat} {ps : List Addr} {us : List (List Value)} {Q : Fin → Shared → Prop} (hh : A.handled = none) (hz : IsPrd s.heap z T 1 last (dg rs i).reverse) (hp : Pools s.heap T ps us) (hu : us.map List.length = rs.reverse)
    (h0 : ∀ x ∈ rs, 0 < x) (hi : i + 1 = pd rs) (hl : us.length ≤ 1000)
    (hE : ∀ h' e, (∀ c o, c ≠ z → s.heap.get? c = some o → h'.get? c = some o) → (∃ o, h'.get? e = some o ∧ o.cls = .type "StopIteration") → E (.ref e) { s with heap := h' }) :
    wpAny (model prog w) A (Builtin.«itertools.product.__next__» ⟨[.ref z], []⟩) Q E s := by
  refine next_pre hz hp rfl ?_
  dsimp only
  rw [sizes_of hu, List.reverse_reverse]
  have hlen : rs.length = us.length := by
    have := congrArg List.length hu
    simpa using this.symm
  show wpAny _ _ (match (_ : Option (List Nat)) with | some next => _ | none => _) _ _ _
  split
  · rename_i next heq
    have e := heq.symm.trans (odo (fun _ _ _ _ => rfl) rfl rs i h0 (by omega))
    rw [if_neg (by omega)] at e
    cases e
  · refine wpAny_bind (set_fld hz (by omega) rfl fun h1 hz1 hs1 => ?_)
    refine wpAny_bind ?_
    refine wpAny_bind (wpAny_newObj_type ?_ ?_)
    · have hz2 : IsPrd (h1.push (TupO (pick us ((dg rs i).reverse.map fun _ => 0)))) z T 2 last (dg rs i).reverse := Heap.get?_push_of_some _ hz1
      refine wpAny_bind (wpAny_field hz2 rfl (x := last) rfl ?_)
      refine wpAny_bind (set_fld hz2 (by omega) rfl fun h3 hz3 hs3 => ?_)
      refine wpAny_bind (wpAny_letGo (wpAny_pure ?_))
      show wpAny _ _ (newExc (.type "StopIteration") [] >>= _) _ _ _
      refine wpAny_bind ?_
      simp only [newExc, newTuple]
      refine wpAny_bind (wpAny_newObj_type ?_ (by size_fits))
      refine wpAny_bind (m := firstArgMember _ _) (wpAny_of_eq (a := Value.none) (by first | rfl | (simp only [firstArgMember]; rfl)) ?_)
      refine wpAny_newObj_type ?_ (by size_fits)
      simp only [raiseNew]
      refine wpAny_bind (wpAny_handled ?_)
      first | rw [show A.in1.handled = none from hh] | rw [hh]
      refine wpAny_bind (wpAny_pure (wpAny_throw ?_))
      exact hE _ _ (fun c o hc q => Heap.get?_push_of_some _ (Heap.get?_push_of_some _ ((hs3.2 c hc).trans (Heap.get?_push_of_some _ ((hs1.2 c hc).trans q))))) ⟨_, Heap.get?_push_size _ rfl, rfl⟩
    · show (List.toArray _).size ≤ sizeLine
      rw [List.size_toArray, List.length_map, List.length_zip, List.length_map]
      have : (1000 : Nat) ≤ sizeLine := by decide
      omega
end
/-! ### the call -/
section
variable {prog : Program} {w : World} {A : Around} {E : Value → Shared → Prop} {s : Shared}
open Builtin.Itertools L2
/-- a range from 0, small -/
structure Rg0 (h : Heap) (r : Addr) (n : Nat) : Prop where
  is : ∃ b t u v, IsRange h r 0 b 1 t u v ∧ b.toNat = n ∧ -(2 ^ 62) ≤ b ∧ b < 2 ^ 62
  le : n ≤ 1000
theorem Rg0.up {h h' : Heap} {r : Addr} {n : Nat} (a : Rg0 h r n) (k : ∀ b o, h.get? b = some o → h'.get? b = some o) : Rg0 h' r n := by
  obtain ⟨⟨b, t, u, v, h1, h2, h3⟩, l⟩ := a
  exact ⟨⟨b, t, u, v, k _ _ h1, h2, h3⟩, l⟩
/-- ints 0 .. n - 1 -/
def IntsTo (n : Nat) (us : List Value) : Prop := us.length = n ∧ ∀ (j : Nat) (u : Value), us[j]? = some u → ∃ t, u = .int (j : Nat) t
theorem collect0 {r : Addr} {n : Nat} {Q : List Value → Shared → Prop} (hh : A.handled = none) (hr : Rg0 s.heap r n)
    (hQ : ∀ (h' : Heap) (tk : Nat) (us : List Value), (∀ b o, s.heap.get? b = some o → h'.get? b = some o) → IntsTo n us → Q us { s with heap := h', toks := tk }) : wpAny (model prog w) A (collect (.ref r)) Q E s := by
  obtain ⟨⟨b, t, u, v, h1, h2, h3, h4⟩, l⟩ := hr
  refine collect_range (n := n) hh h1 (PySem.small_one (by decide) (by decide) h3 h4) ?_ (by omega) fun h' tk acc hk hi => hQ h' tk acc.toList hk ⟨?_, fun j u hj => ?_⟩
  · have := PyProof.Rows.rangeSize_nat 0 b
    rw [this]
    congr 1
    omega
  · rw [Array.length_toList]; exact hi.1
  · obtain ⟨t, rfl⟩ := hi.2 j u (by rw [← hj, Array.getElem?_toList])
    exact ⟨t, by simp⟩
def HasPools (h : Heap) (z T : Addr) (ps : List Addr) (us : List (List Value)) : Prop := IsPrd h z T 0 .none (us.map fun _ => 0) ∧ Pools h T ps us
theorem str_prd : (toString "itertools." ++ toString "product" : String) = "itertools.product" := by decide
theorem class_run {rest : List Value} {Q : Value × List Value → Shared → Prop} (q : Q (.type "itertools.product", rest) s) : wpAny (model prog w) A (itClassAndRest "product" ⟨.type "itertools.product" :: rest, []⟩) Q E s := by
  have hsub := sub_prd
  unfold itClassAndRest
  repeat wp_step
  rw [show ("itertools." ++ "product" : String) = "itertools.product" from by decide, hsub]
  repeat wp_step
  exact q
theorem named_eq : itBindNamed "product" ["repeat"] 0 0 [] [] = pure [none] := by with_unfolding_all rfl
/-- new, as seen from h -/
def Fr (h : Heap) (b : Addr) : Prop := ∃ h1 : Heap, (∀ c o, h.get? c = some o → h1.get? c = some o) ∧ h1.objs.size ≤ b
theorem Fr.down {h h' : Heap} {b : Addr} (f : Fr h' b) (k : ∀ c o, h.get? c = some o → h'.get? c = some o) : Fr h b := let ⟨h1, a, l⟩ := f; ⟨h1, fun c o e => a c o (k c o e), l⟩
/-- one pool -/
theorem pool_new {α : Type} {r : Addr} {n : Nat} {held : List Value} {k : Value → Sem α} {Q : α → Shared → Prop} (hh : A.handled = none) (hr : Rg0 s.heap r n)
    (hQ : ∀ (h' : Heap) (tk : Nat) (p : Addr) (us : List Value), (∀ b o, s.heap.get? b = some o → h'.get? b = some o) → IntsTo n us → h'.get? p = some (TupO us) → Fr s.heap p → wpAny (model prog w) A (k (.ref p)) Q E { s with heap := h', toks := tk }) :
    wpAny (model prog w) A (holding held (collect (.ref r)) >>= fun l => newTuple l >>= k) Q E s := by
  refine wpAny_bind (wpAny_holding (collect0 hh hr fun h' tk us hk hi => ?_))
  refine wpAny_bind (wpAny_newObj_type ?_ ?_)
  · exact hQ _ tk h'.objs.size us (fun b o q => Heap.get?_push_of_some _ (hk b o q)) hi (Heap.get?_push_size _ rfl) ⟨h', hk, Nat.le_refl _⟩
  · show (List.toArray us).size ≤ sizeLine
    rw [List.size_toArray, hi.1]
    have : (1000 : Nat) ≤ sizeLine := by decide
    have := hr.le
    omega
/-- the end: the pools' tuple, the object -/
theorem prd_make {ps : List Addr} {us : List (List Value)} {Q : Fin → Shared → Prop} (hl : ps.length = us.length) (hs : ps.length ≤ 1000) (hp : ∀ (j : Nat) (p : Addr) (x : List Value), ps[j]? = some p → us[j]? = some x → s.heap.get? p = some (TupO x))
    (hQ : ∀ (h' : Heap) (z T : Addr), (∀ b o, s.heap.get? b = some o → h'.get? b = some o) → HasPools h' z T ps us → Fr s.heap z → Fr s.heap T → Q (.done (.ret (.ref z))) { s with heap := h' }) :
    wpAny (model prog w) A (newTuple (ps.map Value.ref) >>= fun t => itNewRecord (.type "itertools.product") ([t, rawInt 0, .none] ++ (ps.map Value.ref).map fun _ => rawInt 0) >>= fun v => ret v) Q E s := by
  have h24 : (1000 : Nat) + 3 ≤ sizeLine := by decide
  refine wpAny_bind (wpAny_newObj_type ?_ ?_)
  · refine wpAny_bind ?_
    unfold itNewRecord
    rw [noDict_prd]
    refine wpAny_ite_true rfl ?_
    refine wpAny_newObj_type ?_ ?_
    · refine wpAny_pure ?_
      have e : ([.ref s.heap.objs.size, rawInt 0, .none] ++ (ps.map Value.ref).map fun _ => rawInt 0 : List Value) = .ref s.heap.objs.size :: rawInt (0 : Int) :: .none :: (us.map fun _ => 0).map fun i => rawInt (i : Nat) := by
        rw [List.map_map, List.map_map]
        have : ∀ (l : List Addr) (m : List (List Value)), l.length = m.length → l.map ((fun _ => rawInt 0) ∘ Value.ref) = m.map ((fun (i : Nat) => rawInt (i : Int)) ∘ fun _ => 0) := by
          intro l
          induction l with
          | nil => intro m h; cases m with
            | nil => rfl
            | cons _ _ => cases h
          | cons a l ih => intro m h; cases m with
            | nil => cases h
            | cons b m => rw [List.map_cons, List.map_cons, ih m (by simpa using h)]; rfl
        rw [this ps us hl]
        rfl
      rw [e]
      refine hQ _ _ s.heap.objs.size (fun b o q => Heap.get?_push_of_some _ (Heap.get?_push_of_some _ q)) ⟨Heap.get?_push_size _ rfl, Heap.get?_push_of_some _ (Heap.get?_push_size _ rfl), hl, fun j p x e1 e2 => Heap.get?_push_of_some _ (Heap.get?_push_of_some _ (hp j p x e1 e2))⟩ ⟨_, fun c o q => Heap.get?_push_of_some _ q, Nat.le_refl _⟩ ⟨_, fun c o q => q, Nat.le_refl _⟩
    · unfold sizeOk
      first | trivial | (dsimp only; first | trivial | (simp; omega))
  · show (List.toArray _).size ≤ sizeLine
    rw [List.size_toArray, List.length_map]
    omega
theorem meets_new2 (r1 r2 : Addr) (n1 n2 : Nat) : Meets (Builtin.«itertools.product.__new__» ⟨[.type "itertools.product", .ref r1, .ref r2], []⟩)
    (fun A R s => A.handled = none ∧ Rg0 s.heap r1 n1 ∧ Rg0 s.heap r2 n2 ∧ ∀ h' tk z T p1 p2 u1 u2, HasPools h' z T [p1, p2] [u1, u2] → IntsTo n1 u1 → IntsTo n2 u2 → Fr s.heap z ∧ Fr s.heap T ∧ Fr s.heap p1 ∧ Fr s.heap p2 →
      (∀ b o, s.heap.get? b = some o → h'.get? b = some o) → R (.ok (.ret (.ref z))) { s with heap := h', toks := tk }) :=
  .of_wp fun prog w A R s h => by
    obtain ⟨hh, g1, g2, h⟩ := h
    show wpAny _ _ (itClassAndRest "product" _ >>= _) _ _ _
    refine wpAny_bind (class_run ?_)
    dsimp only
    rw [named_eq]
    refine wpAny_bind (wpAny_pure ?_)
    show wpAny _ _ (pure 1 >>= _) _ _ _
    refine wpAny_bind (wpAny_pure ?_)
    refine wpAny_ite_false (by decide) ?_
    refine wpAny_ite_false (by rfl) ?_
    refine wpAny_ite_false (by rfl) ?_
    show wpAny _ _ (forIn [Value.ref r1, Value.ref r2] #[] _ >>= _) _ _ _
    simp only [List.forIn_cons, List.forIn_nil]
    refine wpAny_bind (wpAny_bind (pool_new hh g1 fun h1 t1 p1 u1 k1 i1 q1 f1 => wpAny_pure ?_))
    dsimp only
    refine wpAny_bind (pool_new hh (g2.up k1) fun h2 t2 p2 u2 k2 i2 q2 f2 => wpAny_pure ?_)
    dsimp only
    refine wpAny_pure ?_
    refine prd_make (ps := [p1, p2]) (us := [u1, u2]) rfl (by simp) ?_ fun h3 z T k3 hP fz fT => ⟨_, rfl, ?_⟩
    · intro j p x e1 e2
      match j with
      | 0 => cases e1; cases e2; exact k2 _ _ q1
      | 1 => cases e1; cases e2; exact q2
      | j + 2 => cases e1
    · exact h h3 t2 z T p1 p2 u1 u2 hP i1 i2 ⟨(fz.down k2).down k1, (fT.down k2).down k1, f1, f2.down k1⟩ fun b o q => k3 _ _ (k2 _ _ (k1 _ _ q))
theorem meets_new3 (r1 r2 r3 : Addr) (n1 n2 n3 : Nat) : Meets (Builtin.«itertools.product.__new__» ⟨[.type "itertools.product", .ref r1, .ref r2, .ref r3], []⟩)
    (fun A R s => A.handled = none ∧ Rg0 s.heap r1 n1 ∧ Rg0 s.heap r2 n2 ∧ Rg0 s.heap r3 n3 ∧ ∀ h' tk z T p1 p2 p3 u1 u2 u3, HasPools h' z T [p1, p2, p3] [u1, u2, u3] → IntsTo n1 u1 → IntsTo n2 u2 → IntsTo n3 u3 → Fr s.heap z ∧ Fr s.heap T ∧ Fr s.heap p1 ∧ Fr s.heap p2 ∧ Fr s.heap p3 →
      (∀ b o, s.heap.get? b = some o → h'.get? b = some o) → R (.ok (.ret (.ref z))) { s with heap := h', toks := tk }) :=
  .of_wp fun prog w A R s h => by
    obtain ⟨hh, g1, g2, g3, h⟩ := h
    show wpAny _ _ (itClassAndRest "product" _ >>= _) _ _ _
    refine wpAny_bind (class_run ?_)
    dsimp only
    rw [named_eq]
    refine wpAny_bind (wpAny_pure ?_)
    show wpAny _ _ (pure 1 >>= _) _ _ _
    refine wpAny_bind (wpAny_pure ?_)
    refine wpAny_ite_false (by decide) ?_
    refine wpAny_ite_false (by rfl) ?_
    refine wpAny_ite_false (by rfl) ?_
    show wpAny _ _ (forIn [Value.ref r1, Value.ref r2, Value.ref r3] #[] _ >>= _) _ _ _
    simp only [List.forIn_cons, List.forIn_nil]
    refine wpAny_bind (wpAny_bind (pool_new hh g1 fun h1 t1 p1 u1 k1 i1 q1 f1 => wpAny_pure ?_))
    dsimp only
    refine wpAny_bind (pool_new hh (g2.up k1) fun h2 t2 p2 u2 k2 i2 q2 f2 => wpAny_pure ?_)
    dsimp only
    refine wpAny_bind (pool_new hh ((g3.up k1).up k2) fun h4 t4 p3 u3 k4 i4 q4 f4 => wpAny_pure ?_)
    dsimp only
    refine wpAny_pure ?_
    refine prd_make (ps := [p1, p2, p3]) (us := [u1, u2, u3]) rfl (by simp) ?_ fun h3 z T k3 hP fz fT => ⟨_, rfl, ?_⟩
    · intro j p x e1 e2
      match j with
      | 0 => cases e1; cases e2; exact k4 _ _ (k2 _ _ q1)
      | 1 => cases e1; cases e2; exact k4 _ _ q2
      | 2 => cases e1; cases e2; exact q4
      | j + 3 => cases e1
    · exact h h3 t4 z T p1 p2 p3 u1 u2 u3 hP i1 i2 i4 ⟨((fz.down k4).down k2).down k1, ((fT.down k4).down k2).down k1, f1, f2.down k1, (f4.down k2).down k1⟩ fun b o q => k3 _ _ (k4 _ _ (k2 _ _ (k1 _ _ q)))
/-- product(range(n1), range(n2)) -/
theorem call_prd2 {r1 r2 : Addr} {n1 n2 : Nat} {Q : Value → Shared → Prop} (hh : A.handled = none) (g1 : Rg0 s.heap r1 n1) (g2 : Rg0 s.heap r2 n2)
    (h : ∀ h' tk z T p1 p2 u1 u2, HasPools h' z T [p1, p2] [u1, u2] → IntsTo n1 u1 → IntsTo n2 u2 → Fr s.heap z ∧ Fr s.heap T ∧ Fr s.heap p1 ∧ Fr s.heap p2 → (∀ b o, s.heap.get? b = some o → h'.get? b = some o) → Q (.ref z) { s with heap := h', toks := tk }) :
    wpAny (model prog w) A (call (.type "itertools.product") [.ref r1, .ref r2]) Q E s :=
  callType_new called_prd (by decide +kernel) (tcall2 _ _) (ncall2 _ _) (fun obj => F.args_object_init_3 obj _ _) entry_new (meets_new2 r1 r2 n1 n2) ⟨hh, g1, g2, fun h' tk z T p1 p2 u1 u2 hP i1 i2 f k => ⟨⟨_, hP.1, rfl⟩, h h' tk z T p1 p2 u1 u2 hP i1 i2 f k⟩⟩
theorem call_prd3 {r1 r2 r3 : Addr} {n1 n2 n3 : Nat} {Q : Value → Shared → Prop} (hh : A.handled = none) (g1 : Rg0 s.heap r1 n1) (g2 : Rg0 s.heap r2 n2) (g3 : Rg0 s.heap r3 n3)
    (h : ∀ h' tk z T p1 p2 p3 u1 u2 u3, HasPools h' z T [p1, p2, p3] [u1, u2, u3] → IntsTo n1 u1 → IntsTo n2 u2 → IntsTo n3 u3 → Fr s.heap z ∧ Fr s.heap T ∧ Fr s.heap p1 ∧ Fr s.heap p2 ∧ Fr s.heap p3 → (∀ b o, s.heap.get? b = some o → h'.get? b = some o) → Q (.ref z) { s with heap := h', toks := tk }) :
    wpAny (model prog w) A (call (.type "itertools.product") [.ref r1, .ref r2, .ref r3]) Q E s :=
  callType_new called_prd (by decide +kernel) (tcall3 _ _ _) (ncall3 _ _ _) (fun obj => args_init4 obj _ _ _) entry_new (meets_new3 r1 r2 r3 n1 n2 n3) ⟨hh, g1, g2, g3, fun h' tk z T p1 p2 p3 u1 u2 u3 hP i1 i2 i3 f k => ⟨⟨_, hP.1, rfl⟩, h h' tk z T p1 p2 p3 u1 u2 u3 hP i1 i2 i3 f k⟩⟩
/-! ### the walk -/
theorem pyNext_item {z T : Addr} {last : Value} {rs : List Nat} {i : Nat} {ps : List Addr} {us : List (List Value)} {Q : Option Value → Shared → Prop} (hz : IsPrd s.heap z T 1 last (dg rs i).reverse) (hp : Pools s.heap T ps us) (hu : us.map List.length = rs.reverse)
    (h0 : ∀ x ∈ rs, 0 < x) (hi : i + 1 < pd rs) (hl : us.length ≤ 1000)
    (hQ : ∀ h', IsPrd h' z T 1 (.ref s.heap.objs.size) (dg rs (i + 1)).reverse → h'.get? s.heap.objs.size = some (TupO (pick us (dg rs (i + 1)).reverse)) → (∀ c o, c ≠ z → s.heap.get? c = some o → h'.get? c = some o) → Q (some (.ref s.heap.objs.size)) { s with heap := h' }) :
    wpAny (model prog w) A (pyNext (.ref z)) Q E s := by
  have hT : s.TypeIs (.ref z) "itertools.product" := ⟨_, hz, rfl⟩
  unfold pyNext
  exact wpAny_bind (wpAny_attempt (wpAny_callSpecial?_slot (name := Str.ofString "__next__") hT slot_next
    (wpAny_call_entry slot_next hT entry_next (next_more hz hp hu h0 hi hl fun h' a1 a2 a3 => wpAny_pure (hQ h' a1 a2 a3)) (args_next _))))
theorem pyNext_item0 {z T : Addr} {last : Value} {idx : List Nat} {ps : List Addr} {us : List (List Value)} {Q : Option Value → Shared → Prop} (hz : IsPrd s.heap z T 0 last idx) (hp : Pools s.heap T ps us) (hne : ∀ x ∈ us, x ≠ []) (hl : us.length ≤ 1000)
    (hQ : ∀ h', IsPrd h' z T 1 (.ref s.heap.objs.size) idx → h'.get? s.heap.objs.size = some (TupO (pick us idx)) → (∀ c o, c ≠ z → s.heap.get? c = some o → h'.get? c = some o) → Q (some (.ref s.heap.objs.size)) { s with heap := h' }) :
    wpAny (model prog w) A (pyNext (.ref z)) Q E s := by
  have hT : s.TypeIs (.ref z) "itertools.product" := ⟨_, hz, rfl⟩
  unfold pyNext
  exact wpAny_bind (wpAny_attempt (wpAny_callSpecial?_slot (name := Str.ofString "__next__") hT slot_next
    (wpAny_call_entry slot_next hT entry_next (next_first hz hp hne hl fun h' a1 a2 a3 => wpAny_pure (hQ h' a1 a2 a3)) (args_next _))))
theorem pyNext_stop {z T : Addr} {last : Value} {rs : List Nat} {i : Nat} {ps : List Addr} {us : List (List Value)} {Q : Option Value → Shared → Prop} (hh : A.handled = none) (hz : IsPrd s.heap z T 1 last (dg rs i).reverse) (hp : Pools s.heap T ps us) (hu : us.map List.length = rs.reverse)
    (h0 : ∀ x ∈ rs, 0 < x) (hi : i + 1 = pd rs) (hl : us.length ≤ 1000)
    (hQ : ∀ h', (∀ c o, c ≠ z → s.heap.get? c = some o → h'.get? c = some o) → Q none { s with heap := h' }) : wpAny (model prog w) A (pyNext (.ref z)) Q E s := by
  have hT : s.TypeIs (.ref z) "itertools.product" := ⟨_, hz, rfl⟩
  unfold pyNext
  refine wpAny_bind (wpAny_attempt (wpAny_callSpecial?_slot (name := Str.ofString "__next__") hT slot_next
    (wpAny_call_entry slot_next hT entry_next (next_end hh hz hp hu h0 hi hl fun h' e hk he => ?_) (args_next _))))
  obtain ⟨o, ho, hc⟩ := he
  refine wpAny_bind (wpAny_isInstance (T := "StopIteration") (b := true) ⟨o, ho, hc⟩ isSubtype_stop ?_)
  exact wpAny_pure (hQ _ hk)
end
section
open L2 PyProof.Rows
theorem dg_lt : ∀ (rs : List Nat) (i j : Nat) (d n : Nat), (dg rs i)[j]? = some d → rs[j]? = some n → 0 < n → d < n
  | [], _, _, _, _, e, _, _ => by simp [dg] at e
  | s :: rs, i, 0, d, n, e, f, h => by
    simp [dg] at e f
    subst e f
    exact Nat.mod_lt _ h
  | s :: rs, i, j + 1, d, n, e, f, h => dg_lt rs (i / s) j d n (by simpa [dg] using e) (by simpa using f) h
/-- the digits are within the pools -/
theorem vals_pick : ∀ (us : List (List Value)) (idx : List Nat), us.length = idx.length → (∀ (j : Nat) (u : List Value) (d : Nat), us[j]? = some u → idx[j]? = some d → ∃ n, IntsTo n u ∧ d < n) → Vals (idx.map fun d => V.int (d : Nat)) (pick us idx)
  | [], [], _, _ => .nil
  | u :: us, d :: idx, hl, h => by
    obtain ⟨n, hi, hd⟩ := h 0 u d rfl rfl
    refine .cons ?_ (vals_pick us idx (by simpa using hl) fun j u d e1 e2 => h (j + 1) u d (by simpa using e1) (by simpa using e2))
    have hlt : d < u.length := by rw [hi.1]; exact hd
    obtain ⟨t, ht⟩ := hi.2 d u[d] (List.getElem?_eq_getElem hlt)
    refine ⟨t, ?_⟩
    show u.toArray.getD d .none = _
    rw [← ht]
    simp [Array.getD, hlt]
/-- what is walked: the tuples of the digits -/
def tupV (rs : List Nat) (i : Nat) : List V := (dg rs i).reverse.map fun d => V.int (d : Nat)
def Itp (rs : List Nat) : It := ⟨fun i _ => i < pd rs, fun i H v H' => ∃ T o, v = .ref T ∧ H T = none ∧ o.dict = none ∧ H' = upd H T (.frz o (.tup (tupV rs i))), fun i _ => pd rs ≤ i⟩
structure PsOk (rs : List Nat) (us : List (List Value)) : Prop where
  len : us.map List.length = rs.reverse
  itn : ∀ u ∈ us, IntsTo u.length u
  pos : ∀ x ∈ rs, 0 < x
  le : us.length ≤ 1000
theorem PsOk.ne {rs : List Nat} {us : List (List Value)} (P : PsOk rs us) : ∀ x ∈ us, x ≠ [] := fun x hx e => by
  have h1 : x.length ∈ rs.reverse := by rw [← P.len]; exact List.mem_map_of_mem hx
  have h2 := P.pos _ (List.mem_reverse.mp h1)
  rw [e] at h2
  exact Nat.lt_irrefl _ h2
theorem PsOk.vals {rs : List Nat} {us : List (List Value)} (P : PsOk rs us) (i : Nat) : Vals (tupV rs i) (pick us (dg rs i).reverse) := by
  have hl : us.length = rs.length := by simpa using congrArg List.length P.len
  refine vals_pick us _ (by rw [List.length_reverse, dg_len]; exact hl) fun j u d e1 e2 => ⟨u.length, P.itn u (List.mem_of_getElem? e1), ?_⟩
  have hj : j < us.length := (List.getElem?_eq_some_iff.mp e1).1
  have e3 : (us.map List.length)[j]? = some u.length := by rw [List.getElem?_map, e1]; rfl
  rw [P.len, List.getElem?_reverse (by omega)] at e3
  rw [List.getElem?_reverse (by rw [dg_len]; omega), dg_len] at e2
  exact dg_lt rs i _ d u.length e2 e3 (P.pos _ (List.mem_of_getElem? e3))
theorem turn_prd {P : Program} {w : World} {K : PySem.W.Frag} {tg : Expr} {z T : Addr} {ps : List Addr} {rs : List Nat} {us : List (List Value)} (O : PsOk rs us) (hzT : T ≠ z) (hzp : ∀ p ∈ ps, p ≠ z) :
    Turn P w K tg (Itp rs) (z :: T :: ps) z (fun i h => Pools h T ps us ∧ ∃ st last idx, IsPrd h z T st last idx ∧ ((i = 0 ∧ st = 0 ∧ idx = (dg rs 0).reverse) ∨ ∃ j, i = j + 1 ∧ st = 1 ∧ idx = (dg rs j).reverse ∧ j < pd rs)) where
  mem := by simp
  obj := fun i h st c hc => by
    obtain ⟨⟨hT, hl, hp⟩, st, last, idx, hz, _⟩ := st
    rcases List.mem_cons.mp hc with q | hc
    · rw [q]; exact ⟨_, hz, fun v q => nomatch q⟩
    rcases List.mem_cons.mp hc with q | hc
    · rw [q]; exact ⟨_, hT, fun v q => nomatch q⟩
    · obtain ⟨j, hj, e⟩ := List.mem_iff_getElem.mp hc
      have e1 : ps[j]? = some c := by rw [List.getElem?_eq_getElem hj, e]
      have e2 : us[j]? = some us[j] := List.getElem?_eq_getElem (by omega)
      exact ⟨_, hp j c _ e1 e2, fun v q => nomatch q⟩
  keep := fun i h h' st k => by
    obtain ⟨⟨hT, hl, hp⟩, st, last, idx, hz, hi⟩ := st
    refine ⟨⟨k T (by simp) _ hT, hl, fun j p x e1 e2 => k p ?_ _ (hp j p x e1 e2)⟩, st, last, idx, k z (by simp) _ hz, hi⟩
    exact List.mem_cons_of_mem _ (List.mem_cons_of_mem _ (List.mem_of_getElem? e1))
  item := by
    intro X hP hw hK hc i pins s σ H E I hf st hg
    subst hP hw hK
    obtain ⟨hpl, st, last, idx, hz, hi⟩ := st
    have hg : i < pd rs := hg
    have hzl : z < s.heap.objs.size := Heap.lt_size hz
    have fin : ∀ (h' : Heap) (rest : Unit), IsPrd h' z T 1 (.ref s.heap.objs.size) (dg rs i).reverse → h'.get? s.heap.objs.size = some (TupO (pick us (dg rs i).reverse)) → (∀ c o, c ≠ z → s.heap.get? c = some o → h'.get? c = some o) →
        (∃ u, some (Value.ref s.heap.objs.size) = some u ∧ wpAny (model X.prog X.w) X.A (letOwnedTupleGo tg (.ref z) u) (fun _ s2 => ∃ x H', Inv X pins σ H' s2 ∧ RelV x u ∧ (Itp rs).yld i H x H' ∧ (Pools s2.heap T ps us ∧ ∃ st last idx, IsPrd s2.heap z T st last idx ∧ ((i + 1 = 0 ∧ st = 0 ∧ idx = (dg rs 0).reverse) ∨ ∃ j, i + 1 = j + 1 ∧ st = 1 ∧ idx = (dg rs j).reverse ∧ j < pd rs)) ∧ ∀ b ∈ (z :: T :: ps), H' b = none) E { s with heap := h' }) := by
      intro h' _ z' hT' hk
      refine ⟨_, rfl, go_of z' rfl rfl (by decide) ?_⟩
      have new : ObjOk X.prog X.w (upd H s.heap.objs.size (.frz (TupO (pick us (dg rs i).reverse)) (.tup (tupV rs i)))) h' s.heap.objs.size (.frz (TupO (pick us (dg rs i).reverse)) (.tup (tupV rs i))) := by
        have hv := O.vals i
        refine ⟨hT', ?_, pick us (dg rs i).reverse, hv, ⟨_, hT', rfl, _, rfl⟩⟩
        have hl : us.length = rs.length := by simpa using congrArg List.length O.len
        have : (1000 : Nat) ≤ sizeLine := by decide
        have := O.le
        unfold tupV
        rw [List.length_map, List.length_reverse, dg_len]
        omega
      have I1 : Inv X pins σ (upd H s.heap.objs.size (.frz (TupO (pick us (dg rs i).reverse)) (.tup (tupV rs i)))) { s with heap := h' } :=
        I.turnedNew (t' := s.toks) (ch := z :: T :: ps) (fun c o hb q => hk c o (fun q' => hb (by simp [q'])) q) hf (Nat.le_refl _) new
      refine ⟨.ref s.heap.objs.size, _, I1, rfl, ⟨_, _, rfl, I.hok.fresh (Nat.le_refl _), rfl, rfl⟩, ⟨⟨hk _ _ hzT hpl.1, hpl.2.1, fun j p x e1 e2 => hk _ _ (hzp p (List.mem_of_getElem? e1)) (hpl.2.2 j p x e1 e2)⟩, 1, _, _, z', .inr ⟨i, rfl, rfl, rfl, hg⟩⟩, fun c hcm => ?_⟩
      have hlt : c < s.heap.objs.size := by
        rcases List.mem_cons.mp hcm with q | q
        · rw [q]; exact hzl
        rcases List.mem_cons.mp q with q | q
        · rw [q]; exact Heap.lt_size hpl.1
        · obtain ⟨j, hj, e⟩ := List.mem_iff_getElem.mp q
          have e1 : ps[j]? = some c := by rw [List.getElem?_eq_getElem hj, e]
          have hju : j < us.length := hpl.2.1 ▸ hj
          have e2 : us[j]? = some us[j] := List.getElem?_eq_getElem hju
          exact Heap.lt_size (hpl.2.2 j c _ e1 e2)
      rw [upd_ne (Nat.ne_of_lt hlt)]
      exact (hf c hcm).1
    rcases hi with ⟨rfl, rfl, rfl⟩ | ⟨j, rfl, rfl, rfl, hj⟩
    · exact pyNext_item0 hz hpl O.ne O.le fun h' a1 a2 a3 => fin h' () a1 a2 a3
    · exact pyNext_item hz hpl O.len O.pos hg O.le fun h' a1 a2 a3 => fin h' () a1 a2 a3
  done := by
    intro X hP hw hK hc i pins s σ H E I hf st hg
    subst hP hw hK
    obtain ⟨hpl, st, last, idx, hz, hi⟩ := st
    have hg : pd rs ≤ i := hg
    rcases hi with ⟨rfl, rfl, rfl⟩ | ⟨j, rfl, rfl, rfl, hj⟩
    · exact absurd (pd_pos O.pos) (by omega)
    · exact pyNext_stop (I.ok.hd hc) hz hpl O.len O.pos (by omega) O.le fun h' hk => ⟨rfl, I.turnedL (t' := s.toks) (ch := z :: T :: ps) (fun c o hb q => hk c o (fun q' => hb (by simp [q'])) q) hf⟩
  self := fun A i s Q E st h => let ⟨_, _, _, _, hz, _⟩ := st; iter_prd hz h
end
end CzP
set_option Elab.async false
set_option linter.all false
set_option maxRecDepth 100000
set_option maxHeartbeats 2000000
/-! for x, y in product(range(a), range(b)), on data. -/
namespace Cz
open PySem PySem.Spec PyProof.Rows L2 CzP
abbrev rgO (b : Int) (t u v : Tok) : Obj := { cls := .type "range", dict := none, data := .fields #[.int 0 t, .int b u, .int 1 v], slots := #[] }
/-- range(e), an argument: the new object is pinned -/
structure PRp (X : Cx) (e : Expr) (t : L2.St → Hp → (Int → Hp → Prop) → Prop) : Prop where
  run : ∀ (pins : List (Addr × Obj)) (s : Shared) (σ : L2.St) (H : Hp) (Q : Int → Hp → Prop), L2.Inv X pins σ H s → t σ H Q →
    wpAny (model X.prog X.w) X.A (eval e X.env) (fun x s' => ∃ r b t u v H', x = .ref r ∧ L2.Inv X ((r, rgO b t u v) :: pins) σ H' s' ∧ Q b H') X.xe s
theorem prp_1 {X : Cx} {a : Expr} {ta : TE} {p pos : Pos} (hg : Gl X "range") (hm : X.mg "range" = none) (ha : PE X a ta) (na : starEach [a] X.env = (false, eval a X.env) :: starEach [] X.env := by rfl) :
    PRp X (.Call (.Name "range" p) [a] [] pos) (fun σ H Q => ta σ H fun x H1 => ∃ n, x = .int n ∧ Q n H1) := by
  refine ⟨fun pins s σ H Q I h => ?_⟩
  refine Call_ (ld_blt I hg hm boot_range (PyProof.Rows.callWith_type1 (one_arg ha I h (fun v s2 x H2 I2 r q => ?_) na) na))
  obtain ⟨n, rfl, q⟩ := q
  obtain ⟨t, rfl⟩ := r
  exact call_range_1 ⟨_, n, _, _, _, H2, rfl, ClX.pin_new I2 (fun b u e => Heap.get?_push_of_some _ e) (Nat.le_refl _) (Heap.get?_push_size _ rfl) (fun v z => nomatch z), q⟩
theorem fp_of_fr {X : Cx} {pins : List (Addr × Obj)} {σ : L2.St} {H : Hp} {s : Shared} {b : Addr} (I : L2.Inv X pins σ H s) (f : Fr s.heap b) : FpOk X pins H b := by
  obtain ⟨h1, k, l⟩ := f
  have I1 := I.kept (t' := s.toks) k
  exact I1.fpOk l (I1.hok.fresh l)
theorem rg0_of {h : Heap} {r : Addr} {b : Int} {t u v : Tok} (e : h.get? r = some (rgO b t u v)) (h1 : 1 ≤ b) (h2 : b ≤ 1000) : Rg0 h r b.toNat := ⟨⟨b, t, u, v, e, rfl, by omega, by omega⟩, by omega⟩
/-- the sizes -/
def RpOk (b : Int) : Prop := 1 ≤ b ∧ b ≤ 1000
theorem pi_prd2 {X : Cx} {tg e1 e2 : Expr} {t1 t2 : L2.St → Hp → (Int → Hp → Prop) → Prop} {p pos : Pos} (hc : X.calm = true) (hg : Gl X "product") (hm : X.mg "product" = some (.type "itertools.product")) (h1 : PRp X e1 t1) (h2 : PRp X e2 t2)
    (n1 : starEach [e1, e2] X.env = (false, eval e1 X.env) :: starEach [e2] X.env := by rfl) (n2 : starEach [e2] X.env = (false, eval e2 X.env) :: starEach [] X.env := by rfl) (hp : (backTo pos (starEach [e2] X.env)).any (·.1) = false := by rfl) :
    PI X tg (.Call (.Name "product" p) [e1, e2] [] pos) (fun σ H R => t1 σ H fun a H1 => t2 σ H1 fun b H2 => RpOk a ∧ RpOk b ∧ R (Itp [b.toNat, a.toNat]) H2) := by
  refine ⟨fun pins s σ H R I h => ?_⟩
  refine Call_ (ld_glob I hg hm (PyProof.Rows.callWith_type1 (args_cons (thn (h1.run pins s σ H _ I h) fun x s1 ⟨r1, b1, _, _, _, H1, e1', I1, q1⟩ => args_cons (thn (h2.run _ s1 σ H1 _ I1 q1) fun y s2 ⟨r2, b2, _, _, _, H2, e2', I2, ok1, ok2, q⟩ => args_nil ?_) n2) n1) n1 hp))
  subst e1' e2'
  have g2 := ClX.pin_at I2
  have g1 := ClX.pin_at (ClX.unpin (p := (r2, _)) I2)
  have I3 := ClX.unpin (ClX.unpin I2)
  refine call_prd2 (I3.ok.hd hc) (rg0_of g1 ok1.1 ok1.2) (rg0_of g2 ok2.1 ok2.2) fun h' tk z T p1 p2 u1 u2 hP i1 i2 f k => iter_prd hP.1 ?_
  have I4 : L2.Inv X pins σ H2 { s2 with heap := h', toks := tk } := I3.kept k
  have q1 := hP.2.2.2 0 p1 u1 rfl rfl
  have q2 := hP.2.2.2 1 p2 u2 rfl rfl
  have ne : ∀ {c : Addr} {us : List Value}, h'.get? c = some (TupO us) → c ≠ z := fun e z' => by
    rw [z', hP.1] at e
    have e2 := congrArg Obj.cls (Option.some.inj e)
    exact absurd (Value.type.inj e2) (by decide)
  refine ⟨z, z :: T :: [p1, p2], _, Itp [b2.toNat, b1.toNat], H2, rfl, I4, turn_prd (us := [u1, u2]) ⟨?_, ?_, ?_, by simp⟩ (ne hP.2.1) ?_, ⟨hP.2, 0, .none, _, hP.1, .inl ⟨rfl, rfl, ?_⟩⟩, ?_, q⟩
  · rw [List.map_cons, List.map_cons, i1.1, i2.1]; rfl
  · intro u hu
    rcases List.mem_cons.mp hu with rfl | hu
    · rw [i1.1]; exact i1
    rcases List.mem_cons.mp hu with rfl | hu
    · rw [i2.1]; exact i2
    · cases hu
  · intro x hx
    have a1 := ok1.1
    have a2 := ok2.1
    rcases List.mem_cons.mp hx with rfl | hx
    · omega
    rcases List.mem_cons.mp hx with rfl | hx
    · omega
    · cases hx
  · intro c hcm
    rcases List.mem_cons.mp hcm with rfl | hcm
    · exact ne q1
    rcases List.mem_cons.mp hcm with rfl | hcm
    · exact ne q2
    · cases hcm
  · simp [dg]
  · intro c hcm
    have fz := f.1
    have fT := f.2.1
    have f1 := f.2.2.1
    have f2 := f.2.2.2
    rcases List.mem_cons.mp hcm with rfl | hcm
    · exact fp_of_fr I3 fz
    rcases List.mem_cons.mp hcm with rfl | hcm
    · exact fp_of_fr I3 fT
    rcases List.mem_cons.mp hcm with rfl | hcm
    · exact fp_of_fr I3 f1
    rcases List.mem_cons.mp hcm with rfl | hcm
    · exact fp_of_fr I3 f2
    · cases hcm
theorem pi_prd3 {X : Cx} {tg e1 e2 e3 : Expr} {t1 t2 t3 : L2.St → Hp → (Int → Hp → Prop) → Prop} {p pos : Pos} (hc : X.calm = true) (hg : Gl X "product") (hm : X.mg "product" = some (.type "itertools.product")) (h1 : PRp X e1 t1) (h2 : PRp X e2 t2) (h3 : PRp X e3 t3)
    (n1 : starEach [e1, e2, e3] X.env = (false, eval e1 X.env) :: starEach [e2, e3] X.env := by rfl) (n2 : starEach [e2, e3] X.env = (false, eval e2 X.env) :: starEach [e3] X.env := by rfl) (n3 : starEach [e3] X.env = (false, eval e3 X.env) :: starEach [] X.env := by rfl) (hp : (backTo pos (starEach [e2, e3] X.env)).any (·.1) = false := by rfl) :
    PI X tg (.Call (.Name "product" p) [e1, e2, e3] [] pos) (fun σ H R => t1 σ H fun a H1 => t2 σ H1 fun b H2 => t3 σ H2 fun c H3 => RpOk a ∧ RpOk b ∧ RpOk c ∧ R (Itp [c.toNat, b.toNat, a.toNat]) H3) := by
  refine ⟨fun pins s σ H R I h => ?_⟩
  refine Call_ (ld_glob I hg hm (PyProof.Rows.callWith_type1 (args_cons (thn (h1.run pins s σ H _ I h) fun x s1 ⟨r1, b1, _, _, _, H1, e1', I1, q1⟩ => args_cons (thn (h2.run _ s1 σ H1 _ I1 q1) fun y s2 ⟨r2, b2, _, _, _, H2, e2', I2, q2⟩ => args_cons (thn (h3.run _ s2 σ H2 _ I2 q2) fun y s3 ⟨r3, b3, _, _, _, H3, e3', J3, ok1, ok2, ok3, q⟩ => args_nil ?_) n3) n2) n1) n1 hp))
  subst e1' e2' e3'
  have g3 := ClX.pin_at J3
  have J2 := ClX.unpin (p := (r3, _)) J3
  have g2 := ClX.pin_at J2
  have J1 := ClX.unpin (p := (r2, _)) J2
  have g1 := ClX.pin_at J1
  have I3 := ClX.unpin J1
  refine call_prd3 (I3.ok.hd hc) (rg0_of g1 ok1.1 ok1.2) (rg0_of g2 ok2.1 ok2.2) (rg0_of g3 ok3.1 ok3.2) fun h' tk z T p1 p2 p3 u1 u2 u3 hP i1 i2 i3 f k => iter_prd hP.1 ?_
  have I4 : L2.Inv X pins σ H3 { s3 with heap := h', toks := tk } := I3.kept k
  have q3' := hP.2.2.2 2 p3 u3 rfl rfl
  have q1 := hP.2.2.2 0 p1 u1 rfl rfl
  have q2 := hP.2.2.2 1 p2 u2 rfl rfl
  have ne : ∀ {c : Addr} {us : List Value}, h'.get? c = some (TupO us) → c ≠ z := fun e z' => by
    rw [z', hP.1] at e
    have e2 := congrArg Obj.cls (Option.some.inj e)
    exact absurd (Value.type.inj e2) (by decide)
  refine ⟨z, z :: T :: [p1, p2, p3], _, Itp [b3.toNat, b2.toNat, b1.toNat], H3, rfl, I4, turn_prd (us := [u1, u2, u3]) ⟨?_, ?_, ?_, by simp⟩ (ne hP.2.1) ?_, ⟨hP.2, 0, .none, _, hP.1, .inl ⟨rfl, rfl, ?_⟩⟩, ?_, q⟩
  · rw [List.map_cons, List.map_cons, List.map_cons, i1.1, i2.1, i3.1]; rfl
  · intro u hu
    rcases List.mem_cons.mp hu with rfl | hu
    · rw [i1.1]; exact i1
    rcases List.mem_cons.mp hu with rfl | hu
    · rw [i2.1]; exact i2
    rcases List.mem_cons.mp hu with rfl | hu
    · rw [i3.1]; exact i3
    · cases hu
  · intro x hx
    have a1 := ok1.1
    have a2 := ok2.1
    have a3 := ok3.1
    rcases List.mem_cons.mp hx with rfl | hx
    · omega
    rcases List.mem_cons.mp hx with rfl | hx
    · omega
    rcases List.mem_cons.mp hx with rfl | hx
    · omega
    · cases hx
  · intro c hcm
    rcases List.mem_cons.mp hcm with rfl | hcm
    · exact ne q1
    rcases List.mem_cons.mp hcm with rfl | hcm
    · exact ne q2
    rcases List.mem_cons.mp hcm with rfl | hcm
    · exact ne q3'
    · cases hcm
  · simp [dg]
  · intro c hcm
    have fz := f.1
    have fT := f.2.1
    have f1 := f.2.2.1
    have f2 := f.2.2.2.1
    have f3 := f.2.2.2.2
    rcases List.mem_cons.mp hcm with rfl | hcm
    · exact fp_of_fr I3 fz
    rcases List.mem_cons.mp hcm with rfl | hcm
    · exact fp_of_fr I3 fT
    rcases List.mem_cons.mp hcm with rfl | hcm
    · exact fp_of_fr I3 f1
    rcases List.mem_cons.mp hcm with rfl | hcm
    · exact fp_of_fr I3 f2
    rcases List.mem_cons.mp hcm with rfl | hcm
    · exact fp_of_fr I3 f3
    · cases hcm
def mInt {S : Type} : D → Mo S Int
  | .int i => mRet i
  | _ => mBad
/-- the tuples of the digits -/
def dPrd (rs : List Nat) : List D := (List.range (pd rs)).map fun i => .tuple ((dg rs i).reverse.map fun d => .int (d : Nat))
instance (a : Int) : Decidable (RpOk a) := inferInstanceAs (Decidable (_ ∧ _))
def gPrd (l : List Int) : Option (List D) := if ∀ a ∈ l, RpOk a then some (dPrd (l.map Int.toNat).reverse) else none
section
variable {S : Type} [WCl S] {α : Type} {b : Bool} {X : Cx} {K : PySem.W.Frag} {c : Cf S} {E : XK} {ρ : En} {e e1 e2 e3 tg it : Expr} {m m1 m2 m3 : Mo S D} {ow : Ows} {σ : L2.St} {H H1 : Hp} {s : S}
theorem ContI.move {o : Out S (List D)} {R : It → Hp → Prop} (h : ContI K c E ow H o R) (k : Keep c.W.M H H1) : ContI K c E ow H1 o R := by
  cases o with
  | ok d s => exact fun J H' k' => h J H' (k.trans k')
  | ex C pl s => exact fun dx H' k' => h dx H' (k.trans k')
  | bad => exact h
theorem bndI_at {f : D → Mo S (List D)} {R : VK} {RI : It → Hp → Prop} (T : Stt K c ow ρ σ H s) (q : ContI K c E ow H (mBnd m f s) RI)
    (go : ∀ d s1 v H1, Keep c.W.M H H1 → Stt K c ow ρ σ H1 s1 → RepX b K c ow H1 v d → ContI K c E ow H1 (f d s1) RI → R v H1) : tE b K c E ρ m σ H R := by
  refine ⟨ow, s, T, ?_⟩
  unfold mBnd at q
  cases e : m s with
  | ok d s1 =>
    rw [e] at q
    exact fun v H1 k o r => go d s1 v H1 k (T.move k o) r (ContI.move q k)
  | ex C pl s1 => rw [e] at q; exact q
  | bad => rw [e] at q; exact q
theorem mInt_at {d : D} {f : Int → Mo S (List D)} {RI : It → Hp → Prop} {v : V} (r : RepX b K c ow H v d) (q : ContI K c E ow H (mBnd (mInt d) f s) RI) : ∃ n, v = .int n ∧ d = .int n ∧ ContI K c E ow H (f n s) RI := by
  cases d with
  | int n => exact ⟨n, r.int, rfl, q⟩
  | _ => exact q.elim
theorem itd_prd {rs : List Nat} : ItD K c ow H1 (Itp rs) (dPrd rs) := by
  have hl : (dPrd rs).length = pd rs := by simp [dPrd]
  refine ⟨fun i H k hi => show i < pd rs by rw [← hl]; exact hi, fun i H k hi => show pd rs ≤ i by rw [← hl]; exact hi, fun i H x H' k y => ?_⟩
  obtain ⟨T, o, rfl, n, dn, rfl⟩ := y
  refine ⟨same_new n, fun d hd N' w => ?_⟩
  have hi : i < pd rs := by rw [← hl]; exact (List.getElem?_eq_some_iff.mp hd).1
  unfold dPrd at hd
  rw [List.getElem?_map, List.getElem?_range hi] at hd
  have hd := Option.some.inj hd
  subst hd
  refine .tup ⟨o, upd_same, dn⟩ ?_
  have e : tupV rs i = ((dg rs i).reverse.map fun (d : Nat) => (d : Int)).map V.int := by unfold tupV; rw [List.map_map]; rfl
  have e2 : ((dg rs i).reverse.map fun d => PyData.int (d : Nat)) = ((dg rs i).reverse.map fun (d : Nat) => (d : Int)).map PyData.int := by rw [List.map_map]; rfl
  rw [e, e2]
  exact Reps.of_ints _
theorem gPrd_done {l : List Int} {RI : It → Hp → Prop} (q : ContI K c E ow H (mOf (gPrd l) s) RI) (T : Stt K c ow ρ σ H s) : (∀ a ∈ l, RpOk a) ∧ RI (Itp (l.map Int.toNat).reverse) H := by
  obtain ⟨ds, e, go⟩ := ofI_done q
  unfold gPrd at e
  obtain ⟨h, rfl⟩ := if_some e
  exact ⟨h, go _ H .refl T.ok itd_prd⟩
/-- range(e) as a part of a product -/
theorem je_prp {p pos : Pos} (hg : Gl X "range") (hm : X.mg "range" = none) (h : JE false X c E ρ e m) (na : starEach [e] X.env = (false, eval e X.env) :: starEach [] X.env := by rfl) :
    PRp X (.Call (.Name "range" p) [e] [] pos) (fun σ H Q => tE false X.K c E ρ m σ H fun x H1 => ∃ n, x = .int n ∧ Q n H1) := prp_1 hg hm h na
def mPrd2 (m1 m2 : Mo S D) : Mo S (List D) := mBnd m1 fun x => mBnd (mInt x) fun a => mBnd m2 fun y => mBnd (mInt y) fun b => mOf (gPrd [a, b])
def mPrd3 (m1 m2 m3 : Mo S D) : Mo S (List D) := mBnd m1 fun x => mBnd (mInt x) fun a => mBnd m2 fun y => mBnd (mInt y) fun b => mBnd m3 fun z => mBnd (mInt z) fun d => mOf (gPrd [a, b, d])
theorem ji_prd2 {p p1 p2 pos q1 q2 : Pos} (hc : X.calm = true) (hg : Gl X "product") (hm : X.mg "product" = some (.type "itertools.product")) (hgr : Gl X "range") (hmr : X.mg "range" = none) (h1 : JE false X c E ρ e1 m1) (h2 : JE false X c E ρ e2 m2)
    (a1 : starEach [e1] X.env = (false, eval e1 X.env) :: starEach [] X.env := by rfl) (a2 : starEach [e2] X.env = (false, eval e2 X.env) :: starEach [] X.env := by rfl) :
    JI X c E ρ tg (.Call (.Name "product" p) [.Call (.Name "range" p1) [e1] [] q1, .Call (.Name "range" p2) [e2] [] q2] [] pos) (mPrd2 m1 m2) :=
  JI.of (pi_prd2 hc hg hm (je_prp hgr hmr h1 a1) (je_prp hgr hmr h2 a2)) fun σ H Q ⟨ow, s, T, q⟩ => bndI_at T q fun d s1 v H1 k1 T1 r1 q1 => by
    obtain ⟨n, rfl, rfl, q1⟩ := mInt_at r1 q1
    refine ⟨n, rfl, bndI_at T1 q1 fun d2 s2 v2 H2 k2 T2 r2 q2 => ?_⟩
    obtain ⟨n2, rfl, rfl, q2⟩ := mInt_at r2 q2
    obtain ⟨ok, go⟩ := gPrd_done q2 T2
    exact ⟨n2, rfl, ok n (by simp), ok n2 (by simp), go⟩
theorem ji_prd3 {p p1 p2 p3 pos q1 q2 q3 : Pos} (hc : X.calm = true) (hg : Gl X "product") (hm : X.mg "product" = some (.type "itertools.product")) (hgr : Gl X "range") (hmr : X.mg "range" = none) (h1 : JE false X c E ρ e1 m1) (h2 : JE false X c E ρ e2 m2) (h3 : JE false X c E ρ e3 m3)
    (a1 : starEach [e1] X.env = (false, eval e1 X.env) :: starEach [] X.env := by rfl) (a2 : starEach [e2] X.env = (false, eval e2 X.env) :: starEach [] X.env := by rfl) (a3 : starEach [e3] X.env = (false, eval e3 X.env) :: starEach [] X.env := by rfl) :
    JI X c E ρ tg (.Call (.Name "product" p) [.Call (.Name "range" p1) [e1] [] q1, .Call (.Name "range" p2) [e2] [] q2, .Call (.Name "range" p3) [e3] [] q3] [] pos) (mPrd3 m1 m2 m3) :=
  JI.of (pi_prd3 hc hg hm (je_prp hgr hmr h1 a1) (je_prp hgr hmr h2 a2) (je_prp hgr hmr h3 a3)) fun σ H Q ⟨ow, s, T, q⟩ => bndI_at T q fun d s1 v H1 k1 T1 r1 q1 => by
    obtain ⟨n, rfl, rfl, q1⟩ := mInt_at r1 q1
    refine ⟨n, rfl, bndI_at T1 q1 fun d2 s2 v2 H2 k2 T2 r2 q2 => ?_⟩
    obtain ⟨n2, rfl, rfl, q2⟩ := mInt_at r2 q2
    refine ⟨n2, rfl, bndI_at T2 q2 fun d3 s3 v3 H3 k3 T3 r3 q3 => ?_⟩
    obtain ⟨n3, rfl, rfl, q3⟩ := mInt_at r3 q3
    obtain ⟨ok, go⟩ := gPrd_done q3 T3
    exact ⟨n3, rfl, ok n (by simp), ok n2 (by simp), ok n3 (by simp), go⟩
end
end Cz
set_option Elab.async false
set_option linter.all false
set_option maxRecDepth 100000
set_option maxHeartbeats 2000000
/-! Built-ins, on data. -/
namespace Cz
open PySem PySem.Spec PyProof.Rows L2
section
variable {S : Type} [WCl S] {b : Bool} {X : Cx} {K : PySem.W.Frag} {c : Cf S} {E : XK} {ρ : En} {e e1 e2 : Expr} {m m1 m2 : Mo S D} {ow : Ows} {σ : L2.St} {H H1 : Hp} {s : S} {Q : VK}
theorem callr_or {f : Value} {r r' : List V → Hp → VK → Prop} (h : CallR X f r) (h' : CallR X f r') : CallR X f (fun xs H Q => r xs H Q ∨ r' xs H Q) := by
  intro pins s σ H xs us Q I rr q
  rcases q with q | q
  · exact h pins s σ H xs us Q I rr q
  · exact h' pins s σ H xs us Q I rr q
/-! ### repr -/
/-- what repr tells -/
def gRepr : List D → Option D
  | [d] => if d.canLay0 = true ∧ d.showable = true ∧ d.depth ≤ 60 ∧ d.shown.length ≤ sizeLine then some (.str d.shown) else none
  | _ => none
def rRepr (K : PySem.W.Frag) : List V → Hp → VK → Prop := fun xs H Q => ∃ v d, xs = [v] ∧ Dp K H v d ∧ d.canLay0 = true ∧ d.showable = true ∧ d.depth ≤ 60 ∧ d.shown.length ≤ sizeLine ∧ Q (.str d.shown) H
theorem call_reprD (hg : X.A.guards = some []) (hu : X.A.units + 64 < cLine) : CallR X (.builtin "repr") (rRepr X.K) := by
  intro pins s σ H xs us Q I rr h
  obtain ⟨v, d, rfl, hd, hc, hs, hp, hz, q⟩ := h
  obtain ⟨u, rfl, ru⟩ := vals1 rr
  have big : ∀ (a : Addr) (as : List Addr), u = .ref a → PySem.Reads s.heap (.ref a) d as → wpAny (model X.prog X.w) X.A (call (.builtin "repr") [u]) (EP X pins σ Q) X.xe s := by
    intro a as e r
    subst e
    exact PySem.repr_of_reads' r hs (PySem.PyData.noDict_hsm (PySem.PyData.hasDict_of_canLay d hc)) hg (by omega) (fun _ _ e => e) (fun h' u tk hk => ⟨.str d.shown, H, I.kept (t' := tk) hk, ⟨_, rfl⟩, q⟩) hz
  cases hd with
  | non => cases ru; exact PySem.P.repr_of_none ⟨.str _, H, I.tok _, ⟨_, rfl⟩, q⟩
  | bl b => cases ru; exact PySem.P.repr_of_bool ⟨.str _, H, I.tok _, ⟨_, rfl⟩, q⟩
  | int i =>
    obtain ⟨t, rfl⟩ := ru
    exact PySem.P.repr_of_int (by simpa [PyData.showable] using hs) ⟨.str _, H, I.tok _, ⟨_, rfl⟩, q⟩
  | str x =>
    obtain ⟨t, rfl⟩ := ru
    exact PySem.P.repr_of_str ⟨.str _, H, I.tok _, ⟨_, rfl⟩, q⟩ hz
  | lst h1 h2 =>
    cases ru
    obtain ⟨as, r⟩ := L2.Dp.reads I _ _ _ (.lst h1 h2) rfl
    exact big _ as rfl r
  | tup h1 h2 =>
    cases ru
    obtain ⟨as, r⟩ := L2.Dp.reads I _ _ _ (.tup h1 h2) rfl
    exact big _ as rfl r
theorem ok_repr : OkRn K (rRepr K) gRepr := by
  intro S _ c ow ρ σ H s xs ds d Q T rx e q
  match ds, rx with
  | [d0], rx =>
    obtain ⟨v, rfl, r⟩ := rx.one
    obtain ⟨⟨h1, h2, h3, h4⟩, rfl⟩ := if_some (show (if d0.canLay0 = true ∧ d0.showable = true ∧ d0.depth ≤ 60 ∧ d0.shown.length ≤ sizeLine then some (PyData.str d0.shown) else none) = some d from e)
    exact ⟨v, d0, rfl, r.dp h1, h1, h2, h3, h4, q _ _ (Same.refl _) (.str _)⟩
  | [], _ => cases e
  | _ :: _ :: _, _ => cases e
/-! ### len -/
def gLen : List D → Option D
  | [.list xs] => some (.int (xs.length : Nat))
  | [.tuple xs] => some (.int (xs.length : Nat))
  | [.str x] => if x.length ≤ sizeLine then some (.int (x.length : Nat)) else none
  | _ => none
def rLenD (K : PySem.W.Frag) : List V → Hp → VK → Prop := fun xs H Q => (∃ p ys, xs = [.ref p] ∧ (SqL K H p ys ∨ SqT K H p ys) ∧ Q (.int ys.length) H) ∨ ∃ z, xs = [.str z] ∧ z.length ≤ sizeLine ∧ Q (.int z.length) H
theorem call_lenD : CallR X (.builtin "len") (rLenD X.K) := callr_or call_len_seq call_len_str
theorem ok_len : OkRn K (rLenD K) gLen := by
  intro S _ c ow ρ σ H s xs ds d Q T rx e q
  match ds, rx with
  | [d0], rx =>
    obtain ⟨v, rfl, r⟩ := rx.one
    cases d0 with
    | list ys =>
      obtain ⟨p, vs, rfl, hp, r1⟩ := r.list
      have e : some (PyData.int (ys.length : Nat)) = some d := e
      cases e
      refine .inl ⟨p, vs, rfl, .inl (SqL.of hp), ?_⟩
      rw [r1.len]
      exact q _ _ (Same.refl _) (.int _)
    | tuple ys =>
      obtain ⟨p, vs, rfl, hp, r1⟩ := r.tuple
      have e : some (PyData.int (ys.length : Nat)) = some d := e
      cases e
      refine .inl ⟨p, vs, rfl, .inr hp, ?_⟩
      rw [r1.len]
      exact q _ _ (Same.refl _) (.int _)
    | str x =>
      obtain ⟨h, rfl⟩ := if_some (show (if x.length ≤ sizeLine then some (PyData.int (x.length : Nat)) else none) = some d from e)
      exact .inr ⟨x, by rw [r.str], h, q _ _ (Same.refl _) (.int _)⟩
    | _ => cases e
  | [], _ => cases e
  | a :: _ :: _, _ => cases a <;> cases e
/-! ### tuple(x), list(x) of a list or a tuple -/
def gTupOf : List D → Option D
  | [.list xs] => some (.tuple xs)
  | [.tuple xs] => some (.tuple xs)
  | _ => none
def gLstOf : List D → Option D
  | [.list xs] => some (.list xs)
  | [.tuple xs] => some (.list xs)
  | _ => none
def rTupOf (K : PySem.W.Frag) : List V → Hp → VK → Prop := fun xs H Q => ∃ p ys, xs = [.ref p] ∧ ((SqL K H p ys ∧ ∀ l o, H l = none → o.dict = none → Q (.ref l) (upd H l (.frz o (.tup ys)))) ∨ (SqT K H p ys ∧ Q (.ref p) H))
theorem call_tupF : CallR X (.type "tuple") (rTupOf X.K) := by
  intro pins s σ H xs us Q I rr ⟨p, ys, e, h⟩
  subst e
  obtain ⟨u, rfl, rx⟩ := vals1 rr
  cases rx
  rcases h with ⟨hq, q⟩ | ⟨hq, q⟩
  · obtain ⟨its, r', pl, hz⟩ := I.list hq
    have hlen := r'.length
    refine call_tuple_list pl.isList (fun h' kp => ?_) (by simp only [List.size_toArray] <;> omega)
    have I1 : L2.Inv X pins σ H { s with heap := h' } := I.kept (t' := s.toks) kp
    exact ⟨.ref h'.objs.size, _, laidT (s := { s with heap := h' }) (a := h'.objs.size) (t' := s.toks) I1 (fun b o e => Heap.get?_push_of_some _ e) (Nat.le_refl _) (Heap.get?_push_size _ rfl) r' hz, rfl, q _ _ (I1.hok.fresh (Nat.le_refl _)) rfl⟩
  · obtain ⟨its, r', pl, hz⟩ := I.tuple hq
    exact call_tuple_same pl ⟨.ref p, H, I, rfl, q⟩
def rLstOf (K : PySem.W.Frag) : List V → Hp → VK → Prop := fun xs H Q => ∃ p ys, xs = [.ref p] ∧ (SqL K H p ys ∨ SqT K H p ys) ∧ ∀ l, H l = none → Q (.ref l) (upd H l (.lst ys))
theorem ok_tupOf : OkRn K (rTupOf K) gTupOf := by
  intro S _ c ow ρ σ H s xs ds d Q T rx e q
  match ds, rx with
  | [d0], rx =>
    obtain ⟨v, rfl, r⟩ := rx.one
    cases d0 with
    | list ys =>
      obtain ⟨p, vs, rfl, hp, r1⟩ := r.list
      cases e
      exact ⟨p, vs, rfl, .inl ⟨SqL.of hp, fun l o n dn => q _ _ (same_new n) (rep_tup dn n r1)⟩⟩
    | tuple ys =>
      obtain ⟨p, vs, rfl, hp, r1⟩ := r.tupD
      cases e
      exact ⟨p, vs, rfl, .inr ⟨hp.sq, q _ _ (Same.refl _) (.tup hp r1)⟩⟩
    | _ => cases e
  | [], _ => cases e
  | a :: _ :: _, _ => cases a <;> cases e
theorem ok_lstOf : OkRn K (rLstOf K) gLstOf := by
  intro S _ c ow ρ σ H s xs ds d Q T rx e q
  match ds, rx with
  | [d0], rx =>
    obtain ⟨v, rfl, r⟩ := rx.one
    cases d0 with
    | list ys =>
      obtain ⟨p, vs, rfl, hp, r1⟩ := r.list
      cases e
      exact ⟨p, vs, rfl, .inl (SqL.of hp), fun l n => q _ _ (same_new n) (rep_lst T n r1)⟩
    | tuple ys =>
      obtain ⟨p, vs, rfl, hp, r1⟩ := r.tuple
      cases e
      exact ⟨p, vs, rfl, .inr hp, fun l n => q _ _ (same_new n) (rep_lst T n r1)⟩
    | _ => cases e
  | [], _ => cases e
  | a :: _ :: _, _ => cases a <;> cases e
/-! ### int(x), str(i), abs, max, min -/
def gInt : List D → Option D
  | [.int i] => some (.int i)
  | [.bool k] => some (.int (if k then 1 else 0))
  | _ => none
theorem ok_int : OkRn K (fun xs H Q => (∃ i, xs = [.int i] ∧ Q (.int i) H) ∨ ∃ k, xs = [.bl k] ∧ Q (.int (if k then 1 else 0)) H) gInt := by
  intro S _ c ow ρ σ H s xs ds d Q T rx e q
  match ds, rx with
  | [d0], rx =>
    obtain ⟨v, rfl, r⟩ := rx.one
    cases d0 with
    | int i => cases e; exact .inl ⟨i, by rw [r.int], q _ _ (Same.refl _) (.int _)⟩
    | bool k => cases e; exact .inr ⟨k, by rw [r.bl], q _ _ (Same.refl _) (.int _)⟩
    | _ => cases e
  | [], _ => cases e
  | a :: _ :: _, _ => cases a <;> cases e
def gAbs : List D → Option D
  | [.int i] => some (.int (if i < 0 then -i else i))
  | _ => none
theorem ok_abs : OkRn K (fun xs H Q => ∃ i, xs = [.int i] ∧ Q (.int (if i < 0 then -i else i)) H) gAbs := by
  intro S _ c ow ρ σ H s xs ds d Q T rx e q
  match ds, rx with
  | [d0], rx =>
    obtain ⟨v, rfl, r⟩ := rx.one
    cases d0 with
    | int i => cases e; exact ⟨i, by rw [r.int], q _ _ (Same.refl _) (.int _)⟩
    | _ => cases e
  | [], _ => cases e
  | a :: _ :: _, _ => cases a <;> cases e
def gStrI : List D → Option D
  | [.int i] => if i.natAbs.log2 < 1920 then some (.str (toString i)) else none
  | _ => none
theorem ok_strI : OkRn K (fun xs H Q => ∃ i, xs = [.int i] ∧ i.natAbs.log2 < 1920 ∧ Q (.str (toString i)) H) gStrI := by
  intro S _ c ow ρ σ H s xs ds d Q T rx e q
  match ds, rx with
  | [d0], rx =>
    obtain ⟨v, rfl, r⟩ := rx.one
    cases d0 with
    | int i =>
      obtain ⟨h, rfl⟩ := if_some (show (if i.natAbs.log2 < 1920 then some (PyData.str (toString i)) else none) = some d from e)
      exact ⟨i, by rw [r.int], h, q _ _ (Same.refl _) (.str _)⟩
    | _ => cases e
  | [], _ => cases e
  | a :: _ :: _, _ => cases a <;> cases e
def gMax2 : List D → Option D
  | [.int i, .int j] => some (.int (if j > i then j else i))
  | _ => none
def gMin2 : List D → Option D
  | [.int i, .int j] => some (.int (if j < i then j else i))
  | _ => none
theorem two_ints {ds : List D} {f : Int → Int → Int} {d : D} {g : List D → Option D} (hg : ∀ ds d, g ds = some d → ∃ i j, ds = [.int i, .int j] ∧ d = .int (f i j)) : OkRn K (fun xs H Q => ∃ i j, xs = [.int i, .int j] ∧ Q (.int (f i j)) H) g := by
  intro S _ c ow ρ σ H s xs ds d Q T rx e q
  obtain ⟨i, j, rfl, rfl⟩ := hg ds d e
  obtain ⟨v, v', rfl, r1, r2⟩ := rx.two
  exact ⟨i, j, by rw [r1.int, r2.int], q _ _ (Same.refl _) (.int _)⟩
theorem max2_inv : ∀ (ds : List D) (d : D), gMax2 ds = some d → ∃ i j, ds = [.int i, .int j] ∧ d = .int (if j > i then j else i) := by
  intro ds d e
  unfold gMax2 at e
  split at e
  · exact ⟨_, _, rfl, (Option.some.inj e).symm⟩
  · cases e
theorem min2_inv : ∀ (ds : List D) (d : D), gMin2 ds = some d → ∃ i j, ds = [.int i, .int j] ∧ d = .int (if j < i then j else i) := by
  intro ds d e
  unfold gMin2 at e
  split at e
  · exact ⟨_, _, rfl, (Option.some.inj e).symm⟩
  · cases e
theorem ok_max2 : OkRn K (fun xs H Q => ∃ i j, xs = [.int i, .int j] ∧ Q (.int (if j > i then j else i)) H) gMax2 := two_ints (ds := []) (d := .none) max2_inv
theorem ok_min2 : OkRn K (fun xs H Q => ∃ i j, xs = [.int i, .int j] ∧ Q (.int (if j < i then j else i)) H) gMin2 := two_ints (ds := []) (d := .none) min2_inv
/-! ### all(bools) -/
def boolsD : List D → Option (List Bool)
  | [] => some []
  | .bool k :: ds => (boolsD ds).map (k :: ·)
  | _ => none
theorem boolsD_inv : ∀ {ds : List D} {bs : List Bool}, boolsD ds = some bs → ds = bs.map .bool
  | [], bs, e => by cases e; rfl
  | d :: ds, bs, e => by
    cases d with
    | bool k =>
      have e : (boolsD ds).map (k :: ·) = some bs := e
      cases h : boolsD ds with
      | none => rw [h] at e; cases e
      | some bs' =>
        rw [h] at e
        cases e
        rw [boolsD_inv h]; rfl
    | _ => cases e
def gAll : List D → Option D
  | [.list ds] => (boolsD ds).map fun bs => .bool (bs.all id)
  | _ => none
theorem ok_all : OkRn K (rAll K) gAll := by
  intro S _ c ow ρ σ H s xs ds d Q T rx e q
  match ds, rx with
  | [d0], rx =>
    obtain ⟨v, rfl, r⟩ := rx.one
    cases d0 with
    | list ys =>
      have e : (boolsD ys).map (fun bs => PyData.bool (bs.all id)) = some d := e
      obtain ⟨p, vs, rfl, hp, r1⟩ := r.list
      cases h : boolsD ys with
      | none => rw [h] at e; cases e
      | some bs =>
        rw [h] at e
        cases e
        have e2 := boolsD_inv h
        subst e2
        have e3 := r1.bls
        subst e3
        exact ⟨p, bs, rfl, SqL.of hp, q _ _ (Same.refl _) (.bl _)⟩
    | _ => cases e
  | [], _ => cases e
  | a :: _ :: _, _ => cases a <;> cases e
end
end Cz
set_option Elab.async false
set_option linter.all false
set_option maxRecDepth 100000
set_option maxHeartbeats 2000000
/-! isinstance, index, count, slices, ranges, on data. -/
namespace Cz
open PySem PySem.Spec PyProof.Rows L2
section
variable {S : Type} [WCl S] {b : Bool} {X : Cx} {K : PySem.W.Frag} {c : Cf S} {E : XK} {ρ : En} {e e1 e2 o : Expr} {m m1 m2 : Mo S D} {ow : Ows} {σ : L2.St} {H H1 : Hp} {s : S} {Q : VK}
theorem pe_or2 {t u : TE} (h : PE X e t) (h' : PE X e u) : PE X e (fun σ H Q => t σ H Q ∨ u σ H Q) := ⟨fun pins s σ H Q I q => q.elim (h.run pins s σ H Q I) (h'.run pins s σ H Q I)⟩
/-! ### isinstance(e, T) -/
def tyD : D → String
  | .none => "NoneType"
  | .bool _ => "bool"
  | .int _ => "int"
  | .str _ => "str"
  | .list _ => "list"
  | .tuple _ => "tuple"
  | .dict _ => "dict"
def gIsi (T : String) (d : D) : Option D := (kitB (tyD d) T).map .bool
theorem RepX.tyx {v : V} {d : D} (h : RepX true K c ow H v d) : TyX K H v (.type (tyD d)) := by
  cases d with
  | none => rw [h.non]; exact .base .non
  | bool k => rw [h.bl]; exact .base (.bl k)
  | int i => rw [h.int]; exact .base (.int i)
  | str x => rw [h.str]; exact .base (.str x)
  | list ds => obtain ⟨p, xs, rfl, hp, _⟩ := h.list; exact .base (.lst hp)
  | tuple ds => obtain ⟨p, xs, rfl, ⟨o, hp, _⟩, _⟩ := h.tupD; exact .fTuple hp
  | dict es => obtain ⟨p, xs, rfl, hp, _⟩ := h.dict; exact .base (.dK hp)
theorem je_isi {b1 : Bool} (T : String) {x : Str} {p p2 pos : Pos} (gl : Gl X "isinstance") (hm : X.mg "isinstance" = none) (gt : Gl X x) (ht : X.mg x = none) (hx : bootBuiltins x = some (.type T)) (h : JE b1 X c E ρ e m)
    (hs : starEach [e, .Name x p2] X.env = (false, eval e X.env) :: starEach [.Name x p2] X.env := by rfl) (hs2 : starEach [.Name x p2] X.env = (false, eval (.Name x p2) X.env) :: starEach [] X.env := by rfl) (hpl : (backTo pos (starEach [.Name x p2] X.env)).any (·.1) = false := by rfl)
    (hn : x ≠ "__name__" := by decide) (hd : (x == ("__debug__" : Str)) = false := by decide) :
    JE b X c E ρ (.Call (.Name "isinstance" p) [e, .Name x p2] [] pos) (mBnd m fun d => mOf (gIsi T d)) :=
  JE.of (pe_callB call_isi gl hm boot_isinstance (pa_cons h (pa_cons (pe_bltn (v := .ty T) gt ht hx rfl hn hd) pa_nil hs2) hs) (by decide) (by decide) hs hpl) fun σ H Q ⟨ow, s, T', q⟩ => bnd_at (b := b1) T' q fun d s1 v H1 k1 T1 r q1 => by
    obtain ⟨d', e', q1⟩ := of_done T1 q1
    unfold gIsi at e'
    cases hk : kitB (tyD d) T with
    | none => rw [hk] at e'; cases e'
    | some k =>
      rw [hk] at e'
      cases e'
      exact ⟨v, .ty T, .type (tyD d), .type T, k, rfl, .ty T, r.up.tyx, kit_ty hk, q1 _ H1 .refl T1.ok (.inl (.bl k))⟩
/-! ### xs.index(x), xs.count(k) -/
def tyTup (x : V) (H : Hp) : Prop := ∃ p xs, x = .ref p ∧ TupD H p xs
def tyLst (x : V) (H : Hp) : Prop := ∃ p xs, x = .ref p ∧ H p = some (.lst xs)
theorem ok_tyTup : TyOk X "tuple" tyTup := by
  intro pins σ H s x v I r ⟨p, xs, e, o, h, d⟩
  subst e
  cases r
  obtain ⟨h1, h2⟩ := (show ObjOk X.prog X.w H s.heap p (.frz o (.tup xs)) from I.hok p _ h)
  obtain ⟨_, us, _, ob, g1, g2, _⟩ := h2
  refine ⟨⟨ob, g1, g2⟩, fun a e => ?_⟩
  cases e
  exact ⟨o, h1, d⟩
theorem ok_tyLst : TyOk X "list" tyLst := by
  intro pins σ H s x v I r ⟨p, xs, e, h⟩
  subst e
  cases r
  obtain ⟨_, us, n, _, g⟩ := (show ObjOk X.prog X.w H s.heap p (.lst xs) from I.hok p _ h)
  exact ⟨⟨_, g, rfl⟩, fun a e => by cases e; exact ⟨_, g, rfl⟩⟩
/-- t.index(x), t a tuple of flat items -/
def rTIndex (K : PySem.W.Frag) : V → List V → Hp → VK → Prop := fun x xs H Q => ∃ (a : Addr) (ys : List V) (y : V) (j : Nat) (z : V), x = V.ref a ∧ xs = [y] ∧ SqT K H a ys ∧ flatV y = true ∧ ys.all flatV = true ∧ ys[j]? = some z ∧ eqV z y = true ∧
  (∀ (i : Nat) (u : V), i < j → ys[i]? = some u → eqV u y = false) ∧ Q (.int (j : Nat)) H
theorem mt_tindex : MtR X "tuple.index" (rTIndex X.K) := by
  intro pins s σ H x xs v us Q I rx rxs ⟨a, ys, y, j, z, ex, exs, hs, fy, fys, hz, hzj, hno, q⟩
  subst ex exs
  cases rx
  obtain ⟨uy, rfl, ry⟩ := vals1 rxs
  obtain ⟨its, rv, ⟨⟨cls, dd, data, sl⟩, ho, hc, n, hd⟩, hlen⟩ := I.tuple hs
  have hc : cls = .type "tuple" := hc
  have hd : data = .seq its.toArray n := hd
  subst hc hd
  have at' : ∀ (i : Nat) (hi : i < its.toArray.size), ∃ u, ys[i]? = some u ∧ eqU y its.toArray[i] = eqV u y := fun i hi => by
    have hi' : i < ys.length := by rw [rv.length]; simpa using hi
    have hy := List.getElem?_eq_getElem hi'
    obtain ⟨w, hw, rw'⟩ := rv.get hy
    obtain ⟨_, e2⟩ := List.getElem?_eq_some_iff.mp hw
    refine ⟨_, hy, ?_⟩
    have e3 : its.toArray[i] = w := by simpa using e2
    rw [e3, eqU_of rw' (flat_at fys hy)]
  have hj : j < its.toArray.size := by
    have := (List.getElem?_eq_some_iff.mp hz).1
    rw [rv.length] at this
    simpa using this
  refine call_meets PySem.F.slot_tuple_index ⟨_, ho, rfl⟩ PySem.F.entry_tuple_index (PySem.F.args_tuple_index_2 _ _) (TI.tuple_indexAt a its.toArray n dd sl uy (eqU y) j hj ?_ ?_)
    ⟨ho, fun w hw => mem_eqAt ry fy rv fys w (by simpa using hw), ⟨.int (j : Nat), H, I.tok _, ⟨_, rfl⟩, q⟩⟩
  · obtain ⟨u, h1, h2⟩ := at' j hj
    rw [hz] at h1
    cases h1
    rw [h2]; exact hzj
  · intro i hi hij
    obtain ⟨u, h1, h2⟩ := at' i hi
    rw [h2]; exact hno i u hij h1
def rTCnt (K : PySem.W.Frag) : V → List V → Hp → VK → Prop := fun x xs H Q => ∃ (p : Addr) (ns : List Int) (k : Int), x = .ref p ∧ xs = [.int k] ∧ SqT K H p (ns.map V.int) ∧ Q (.int (ns.count k : Nat)) H
theorem mt_tcount : MtR X "tuple.count" (rTCnt X.K) := by
  intro pins s σ H x xs v us Q I rx rxs ⟨p, ns, k, ex, exs, hs, q⟩
  subst ex exs
  cases rx
  obtain ⟨u, rfl, t, rfl⟩ := vals1 rxs
  obtain ⟨its, rv, ⟨⟨cls, dd, data, sl⟩, ho, hc, n, hd⟩, hlen⟩ := I.tuple hs
  have hc : cls = .type "tuple" := hc
  have hd : data = .seq its.toArray n := hd
  subst hc hd
  have hi := ints_of_vals rv
  refine call_meets PySem.F.slot_tuple_count ⟨_, ho, rfl⟩ PySem.F.entry_tuple_count (PySem.F.args_tuple_count_2 _ _)
    (SeqAt.tuple_countAt p its.toArray n dd sl (.int k t) (eqk k)) ⟨ho, fun y hy => (eqk_gives hi y (by simpa using hy)).at _ _, .int (ns.count k : Nat), H, I.tok _, ⟨s.toks, ?_⟩, q⟩
  show Value.int ((its.toArray.toList.countP (eqk k) : Nat) : Int) s.toks = _
  rw [show its.toArray.toList.countP (eqk k) = ns.count k from eqk_count hi]
/-- the first place of an equal one -/
def ixOf (ds : List D) (y : D) : Option Nat := ds.findIdx? fun z => PyData.eqv z y
def gIndex (ds : List D) (y : D) : Option D := if flatD y = true ∧ ds.all flatD = true then (ixOf ds y).map fun j => .int (j : Nat) else none
def intsD : List D → Option (List Int)
  | [] => some []
  | .int i :: ds => (intsD ds).map (i :: ·)
  | _ => none
theorem intsD_inv : ∀ {ds : List D} {ns : List Int}, intsD ds = some ns → ds = ns.map .int
  | [], bs, e => by cases e; rfl
  | d :: ds, bs, e => by
    cases d with
    | int k =>
      have e : (intsD ds).map (k :: ·) = some bs := e
      cases h : intsD ds with
      | none => rw [h] at e; cases e
      | some bs' =>
        rw [h] at e
        cases e
        rw [intsD_inv h]; rfl
    | _ => cases e
def gCount (ds : List D) : D → Option D
  | .int k => (intsD ds).map fun ns => .int (ns.count k : Nat)
  | _ => none
theorem Reps.flatAt {N : Addr → Prop} {vs : List V} {ds : List D} {v : V} {y : D} (r : Reps K N H vs ds) (hv : Rep K N H v y) (fy : flatD y = true) (fd : ds.all flatD = true) {j : Nat} (e : ixOf ds y = some j) :
    ∃ z, vs[j]? = some z ∧ eqV z v = true ∧ ∀ (i : Nat) (u : V), i < j → vs[i]? = some u → eqV u v = false := by
  obtain ⟨hj, h1, h2⟩ := List.findIdx?_eq_some_iff_getElem.mp e
  obtain ⟨z, hz, rz⟩ := r.get (List.getElem?_eq_getElem hj)
  have fl : ∀ (i : Nat) (hi : i < ds.length), flatD ds[i] = true := fun i hi => List.all_eq_true.mp fd _ (List.getElem_mem hi)
  refine ⟨z, hz, ?_, fun i u hi hu => ?_⟩
  · rw [rz.eqv hv (fl j hj) fy]; exact h1
  · have hil : i < ds.length := by omega
    obtain ⟨z', hz', rz'⟩ := r.get (List.getElem?_eq_getElem hil)
    rw [hu] at hz'
    cases hz'
    rw [rz'.eqv hv (fl i hil) fy]
    have := h2 i hi
    simpa using this
/-- two parts, the first one a list or a tuple -/
theorem seq_at {b1 : Bool} {f : List D → D → Mo S D} {r1 r2 : V → List V → Hp → VK → Prop} (T : Stt K c ow ρ σ H s) (q : Cont b K c E ow H (mBnd m1 (fun x => mBnd (mOf (gSeq x)) fun ds => mBnd m2 fun y => f ds y) s) Q)
    (g1 : ∀ p xs ds y dy s2 H2, Stt K c ow ρ σ H2 s2 → TupD H2 p xs → Reps K (c.Nn ow) H2 xs ds → Rep K (c.Nn ow) H2 y dy → Cont b K c E ow H2 (f ds dy s2) Q → r1 (.ref p) [y] H2 Q)
    (g2 : ∀ p xs ds y dy s2 H2, Stt K c ow ρ σ H2 s2 → H2 p = some (.lst xs) → Reps K (c.Nn ow) H2 xs ds → Rep K (c.Nn ow) H2 y dy → Cont b K c E ow H2 (f ds dy s2) Q → r2 (.ref p) [y] H2 Q) :
    tMG tyTup r1 (tE b1 K c E ρ m1) (tCons (tE false K c E ρ m2) tNil) σ H Q ∨ tMG tyLst r2 (tE b1 K c E ρ m1) (tCons (tE false K c E ρ m2) tNil) σ H Q := by
  unfold mBnd at q
  cases e : m1 s with
  | ok d s1 =>
    rw [e] at q
    have q : Cont b K c E ow H (mBnd (mOf (gSeq d)) (fun ds => mBnd m2 fun y => f ds y) s1) Q := q
    cases d with
    | tuple ds =>
      refine .inl ⟨ow, s, T, ?_⟩
      rw [e]
      intro v H1 k1 o1 rv
      obtain ⟨p, xs, rfl, hp, rr⟩ := rv.tupD
      have T1 := T.move k1 o1
      refine ⟨⟨p, xs, rfl, hp⟩, bnd_at (b := false) T1 (Cont.move (show Cont b K c E ow H (mBnd m2 (fun y => f ds y) s1) Q from q) k1) fun dy s2 y H2 k2 T2 ry q2 => ?_⟩
      exact g1 p xs ds y dy s2 H2 T2 (TupD.keep k2 hp) (rr.keepM k2) ry.val q2
    | list ds =>
      refine .inr ⟨ow, s, T, ?_⟩
      rw [e]
      intro v H1 k1 o1 rv
      have T1 := T.move k1 o1
      obtain ⟨p, xs, rfl, hp, rr⟩ := rv.list
      refine ⟨⟨p, xs, rfl, hp⟩, bnd_at (b := false) T1 (Cont.move (show Cont b K c E ow H (mBnd m2 (fun y => f ds y) s1) Q from q) k1) fun dy s2 y H2 k2 T2 ry q2 => ?_⟩
      obtain ⟨p', xs', e2, hp2, rr2⟩ := (rv.keepM k2 T1).list
      cases e2
      exact g2 p xs' ds y dy s2 H2 T2 hp2 rr2 ry.val q2
    | _ => exact q.elim
  | ex C pl s1 =>
    rw [e] at q
    refine .inl ⟨ow, s, T, ?_⟩
    rw [e]
    exact q
  | bad => rw [e] at q; exact q.elim
theorem je_index {b1 : Bool} {apos cpos : Pos} (ho : JE b1 X c E ρ o m1) (hx : JE false X c E ρ e m2)
    (hbase : attributeBase o "index" X.env (eval o X.env) = eval o X.env := by rfl)
    (hfew : ((backTo cpos (starEach [e] X.env)).all (fun x => !x.1) && (backToKw cpos (keywordEach [] X.env)).all (fun x => x.1.isSome)
      && decide ([e].length + ([] : List Keyword).length + (if ([] : List Keyword).isEmpty then 0 else 1) < 30)) = true := by rfl)
    (hline : (apos.endLine == cpos.line) = true := by rfl) (hs : starEach [e] X.env = (false, eval e X.env) :: starEach [] X.env := by rfl) (hplain : (backTo cpos (starEach [] X.env)).any (·.1) = false := by rfl) :
    JE b X c E ρ (.Call (.Attribute o "index" apos) [e] [] cpos) (mBnd m1 fun x => mBnd (mOf (gSeq x)) fun ds => mBnd m2 fun y => mOf (gIndex ds y)) :=
  JE.of (pe_or2 (pe_mG ok_tyTup PySem.F.plainAttrs_tuple PySem.F.slot_tuple_index PySem.F.type_tuple_index mt_tindex ho (pa_cons hx pa_nil hs) hbase hfew hline hs hplain)
    (pe_mG ok_tyLst PySem.F.plainAttrs_list PySem.F.slot_list_index PySem.F.type_list_index mt_index ho (pa_cons hx pa_nil hs) hbase hfew hline hs hplain)) fun σ H Q ⟨ow, s, T, q⟩ => by
    have go : ∀ {p xs ds y dy s2 H2}, Stt X.K c ow ρ σ H2 s2 → (SqL X.K H2 p xs ∨ SqT X.K H2 p xs) → Reps X.K (c.Nn ow) H2 xs ds → Rep X.K (c.Nn ow) H2 y dy → Cont b X.K c E ow H2 (mOf (gIndex ds dy) s2) Q →
        ∃ (j : Nat) (z : V), flatV y = true ∧ xs.all flatV = true ∧ xs[j]? = some z ∧ eqV z y = true ∧ (∀ (i : Nat) (u : V), i < j → xs[i]? = some u → eqV u y = false) ∧ Q (.int (j : Nat)) H2 := by
      intro p xs ds y dy s2 H2 T2 _ rr ry q2
      obtain ⟨d, eg, q3⟩ := of_done T2 q2
      unfold gIndex at eg
      by_cases hf : flatD dy = true ∧ ds.all flatD = true
      · rw [if_pos hf] at eg
        cases ei : ixOf ds dy with
        | none => rw [ei] at eg; cases eg
        | some j =>
          rw [ei] at eg
          cases eg
          obtain ⟨z, h1, h2, h3⟩ := rr.flatAt ry hf.1 hf.2 ei
          exact ⟨j, z, ry.flat hf.1, rr.flat hf.2, h1, h2, h3, q3 _ H2 .refl T2.ok (.inl (.int _))⟩
      · rw [if_neg hf] at eg; cases eg
    refine seq_at T q (fun p xs ds y dy s2 H2 T2 hp rr ry q2 => ?_) fun p xs ds y dy s2 H2 T2 hp rr ry q2 => ?_
    · obtain ⟨j, z, h1, h2, h3, h4, h5, h6⟩ := go (p := p) T2 (.inr hp.sq) rr ry q2
      exact ⟨p, xs, y, j, z, rfl, rfl, hp.sq, h1, h2, h3, h4, h5, h6⟩
    · obtain ⟨j, z, h1, h2, h3, h4, h5, h6⟩ := go (p := p) T2 (.inl (SqL.of hp)) rr ry q2
      exact ⟨p, xs, y, j, z, rfl, rfl, SqL.of hp, h1, h2, h3, h4, h5, h6⟩
theorem je_count {b1 : Bool} {apos cpos : Pos} (ho : JE b1 X c E ρ o m1) (hx : JE false X c E ρ e m2)
    (hbase : attributeBase o "count" X.env (eval o X.env) = eval o X.env := by rfl)
    (hfew : ((backTo cpos (starEach [e] X.env)).all (fun x => !x.1) && (backToKw cpos (keywordEach [] X.env)).all (fun x => x.1.isSome)
      && decide ([e].length + ([] : List Keyword).length + (if ([] : List Keyword).isEmpty then 0 else 1) < 30)) = true := by rfl)
    (hline : (apos.endLine == cpos.line) = true := by rfl) (hs : starEach [e] X.env = (false, eval e X.env) :: starEach [] X.env := by rfl) (hplain : (backTo cpos (starEach [] X.env)).any (·.1) = false := by rfl) :
    JE b X c E ρ (.Call (.Attribute o "count" apos) [e] [] cpos) (mBnd m1 fun x => mBnd (mOf (gSeq x)) fun ds => mBnd m2 fun y => mOf (gCount ds y)) :=
  JE.of (pe_or2 (pe_mG ok_tyTup PySem.F.plainAttrs_tuple PySem.F.slot_tuple_count PySem.F.type_tuple_count mt_tcount ho (pa_cons hx pa_nil hs) hbase hfew hline hs hplain)
    (pe_mG ok_tyLst PySem.F.plainAttrs_list PySem.F.slot_list_count PySem.F.type_list_count mt_lcount ho (pa_cons hx pa_nil hs) hbase hfew hline hs hplain)) fun σ H Q ⟨ow, s, T, q⟩ => by
    have go : ∀ {xs ds y dy s2 H2}, Stt X.K c ow ρ σ H2 s2 → Reps X.K (c.Nn ow) H2 xs ds → Rep X.K (c.Nn ow) H2 y dy → Cont b X.K c E ow H2 (mOf (gCount ds dy) s2) Q →
        ∃ (ns : List Int) (k : Int), y = .int k ∧ xs = ns.map V.int ∧ Q (.int (ns.count k : Nat)) H2 := by
      intro xs ds y dy s2 H2 T2 rr ry q2
      obtain ⟨d, eg, q3⟩ := of_done T2 q2
      cases dy with
      | int k =>
        have eg : (intsD ds).map (fun ns => PyData.int (ns.count k : Nat)) = some d := eg
        cases ei : intsD ds with
        | none => rw [ei] at eg; cases eg
        | some ns =>
          rw [ei] at eg
          cases eg
          have e2 := intsD_inv ei
          subst e2
          cases ry
          exact ⟨ns, k, rfl, rr.ints, q3 _ H2 .refl T2.ok (.inl (.int _))⟩
      | _ => cases eg
    refine seq_at T q (fun p xs ds y dy s2 H2 T2 hp rr ry q2 => ?_) fun p xs ds y dy s2 H2 T2 hp rr ry q2 => ?_
    · obtain ⟨ns, k, rfl, rfl, h⟩ := go T2 rr ry q2
      exact ⟨p, ns, k, rfl, rfl, hp.sq, h⟩
    · obtain ⟨ns, k, rfl, rfl, h⟩ := go T2 rr ry q2
      exact ⟨p, ns, k, rfl, rfl, SqL.of hp, h⟩
end
end Cz
set_option Elab.async false
set_option linter.all false
set_option maxRecDepth 100000
set_option maxHeartbeats 2000000
/-! Slices, list and tuple of a range, a tuple so many times, constants, is True. -/
namespace Cz
open PySem PySem.Spec PyProof.Rows L2
section
variable {S : Type} [WCl S] {b : Bool} {X : Cx} {K : PySem.W.Frag} {c : Cf S} {E : XK} {ρ : En} {e e1 e2 o : Expr} {m m1 m2 : Mo S D} {ow : Ows} {σ : L2.St} {H H1 : Hp} {s : S} {Q : VK}
/-! ### parts of a slice -/
def ContO (K : PySem.W.Frag) (c : Cf S) (E : XK) (H : Hp) (o : Out S (Option Int)) (Q : Option Int → Hp → Prop) : Prop :=
  o.post (fun k s' => ∀ H', Keep c.W.M H H' → c.W.ok s' H' → Q k H')
    (fun C pl s' => ∀ dx H', Keep c.W.M H H' → c.W.ok s' H' → Exo K c.N0 H' pl dx → E (.ref (He.ga K C)) dx H')
def tO (K : PySem.W.Frag) (c : Cf S) (E : XK) (ρ : En) (m : Mo S (Option Int)) : TO := fun σ H Q => ∃ ow s, Stt K c ow ρ σ H s ∧ ContO K c E H (m s) Q
def JO (X : Cx) (c : Cf S) (E : XK) (ρ : En) (e : Option Expr) (m : Mo S (Option Int)) : Prop := PO X e (tO X.K c E ρ m)
theorem jo_none : JO X c E ρ none (mRet none) := ⟨fun pins s σ H Q I ⟨ow, s', T, q⟩ => po_none.run pins s σ H Q I (q H .refl T.ok)⟩
def mPart (m : Mo S D) : Mo S (Option Int) := mBnd m fun d => mBnd (mInt d) fun i => mRet (some i)
theorem jo_some (h : JE false X c E ρ e m) : JO X c E ρ (some e) (mPart m) := ⟨fun pins s σ H Q I ⟨ow, s', T, q⟩ => (po_some h).run pins s σ H Q I (by
  refine ⟨ow, s', T, ?_⟩
  unfold mPart mBnd at q
  cases z : m s' with
  | ok d s1 =>
    rw [z] at q
    intro v H1 k o r
    cases d with
    | int i => exact ⟨i, r.int, q H1 k o⟩
    | _ => exact q.elim
  | ex C pl s1 => rw [z] at q; exact q
  | bad => rw [z] at q; exact q)⟩
theorem ContO.move {o : Out S (Option Int)} {Q : Option Int → Hp → Prop} (h : ContO K c E H o Q) (k : Keep c.W.M H H1) : ContO K c E H1 o Q := by
  cases o with
  | ok d s => exact fun H' k' => h H' (k.trans k')
  | ex C pl s => exact fun dx H' k' => h dx H' (k.trans k')
  | bad => exact h
theorem bndO_at {mo : Mo S (Option Int)} {f : Option Int → Mo S D} {R : Option Int → Hp → Prop} (T : Stt K c ow ρ σ H s) (q : Cont b K c E ow H (mBnd mo f s) Q)
    (go : ∀ d s1 H1, Keep c.W.M H H1 → Stt K c ow ρ σ H1 s1 → Cont b K c E ow H1 (f d s1) Q → R d H1) : tO K c E ρ mo σ H R := by
  refine ⟨ow, s, T, ?_⟩
  unfold mBnd at q
  cases e : mo s with
  | ok d s1 => rw [e] at q; exact fun H1 k o => go d s1 H1 k (T.move k o) (Cont.move q k)
  | ex C pl s1 => rw [e] at q; exact q
  | bad => rw [e] at q; exact q
def cutD (xs : List D) (lo hi : Option Int) : List D := (xs.drop (HT.sIx xs.length 0 lo)).take (HT.sIx xs.length xs.length hi - HT.sIx xs.length 0 lo)
def gSl : D → Option Int → Option Int → Option D
  | .list ds, lo, hi => some (.list (cutD ds lo hi))
  | .tuple ds, lo, hi => some (.tuple (cutD ds lo hi))
  | .str z, lo, hi => if z.length ≤ sizeLine then some (.str (cutS z lo hi)) else none
  | _, _, _ => none
theorem Reps.cut {N : Addr → Prop} {vs : List V} {ds : List D} (r : Reps K N H vs ds) (lo hi : Option Int) : Reps K N H (cutV vs lo hi) (cutD ds lo hi) := by
  unfold cutV cutD
  rw [r.len]
  exact (r.drop _).take _
/-- t[lo:hi] of a tuple -/
def rSlF (K : PySem.W.Frag) : V → Option Int → Option Int → Hp → VK → Prop := fun x lo hi H Q => ∃ a xs, x = .ref a ∧ SqT K H a xs ∧
  (HT.sIx xs.length 0 lo = 0 ∧ HT.sIx xs.length xs.length hi = xs.length → Q (.ref a) H) ∧ ∀ p o, H p = none → o.dict = none → Q (.ref p) (upd H p (.frz o (.tup (cutV xs lo hi))))
theorem sl_tupF : SlR X (rSlF X.K) := by
  intro pins s σ H x v vl vu lo hi sl Q I rx hs pl pu ⟨a, xs, ex, hx, q1, q2⟩
  subst ex
  cases rx
  obtain ⟨us, rv, ht, hz⟩ := I.tuple hx
  have hl : us.toArray.size = xs.length := by rw [List.size_toArray]; exact rv.length.symm
  refine ⟨"tuple", _, PyProof.Rows.slot_tuple_getitem.lookup, ht.typeIs, ?_⟩
  by_cases hw : HT.sIx xs.length 0 lo = 0 ∧ HT.sIx xs.length xs.length hi = xs.length
  · exact L2.getItem_tuple_whole ht hs pl pu (by rw [hl]; exact hw) ⟨.ref a, H, I, rfl, q1 hw⟩
  · refine HT.getItem_tuple_cut ht hs pl pu (by rw [hl]; exact hw) ?_ (by rw [hl]; exact hz)
    rw [hl]
    exact ⟨.ref s.heap.objs.size, _, laidT (t' := s.toks) I (fun b ob q => Heap.get?_push_of_some _ q) (Nat.le_refl _) (Heap.get?_push_size _ rfl) ((rv.drop (HT.sIx xs.length 0 lo)).take (HT.sIx xs.length xs.length hi - HT.sIx xs.length 0 lo)) (Nat.le_trans (cutV_length xs lo hi) hz), rfl,
      q2 _ _ (I.hok.fresh (Nat.le_refl _)) rfl⟩
theorem je_slice {b1 : Bool} {lo hi : Option Expr} {ml mh : Mo S (Option Int)} {p2 pos : Pos} (h : JE b1 X c E ρ e m) (hl : JO X c E ρ lo ml) (hh : JO X c E ρ hi mh) :
    JE b X c E ρ (.Subscript e (.Slice lo hi none p2) pos) (mBnd m fun x => mBnd ml fun l => mBnd mh fun u => mOf (gSl x l u)) :=
  JE.of (pe_slice (sl_list.or (sl_tupF.or sl_str)) h hl hh) fun σ H Q ⟨ow, s, T, q⟩ => bnd_at (b := b1) T q fun d s1 v H1 k1 T1 r q1 => bndO_at T1 q1 fun l s2 H2 k2 T2 q2 => bndO_at T2 q2 fun u s3 H3 k3 T3 q3 => by
    have r3 := (r.up.keepM k2 T1).keepM k3 T2
    obtain ⟨d', eg, q4⟩ := of_done T3 q3
    cases d with
    | list ds =>
      cases eg
      obtain ⟨p, xs, rfl, hp, rr⟩ := r3.list
      exact .inl ⟨p, xs, rfl, SqL.of hp, fun p3 n => done_new T3 q4 n (rep_lst T3 n (rr.cut l u))⟩
    | tuple ds =>
      cases eg
      obtain ⟨p, xs, rfl, hp, rr⟩ := r3.tupD
      refine .inr (.inl ⟨p, xs, rfl, hp.sq, fun z => ?_, fun p3 o n dn => done_new T3 q4 n (rep_tup dn n (rr.cut l u))⟩)
      have e : cutD ds l u = ds := by
        unfold cutD
        rw [← rr.len, z.1, z.2]
        simp [rr.len]
      rw [e] at q4
      exact q4 _ H3 .refl T3.ok (.inl (.tup hp rr))
    | str z =>
      obtain ⟨hz, rfl⟩ := if_some (show (if z.length ≤ sizeLine then some (PyData.str (cutS z l u)) else none) = some d' from eg)
      exact .inr (.inr ⟨z, r3.str, hz, q4 _ H3 .refl T3.ok (.inl (.str _))⟩)
    | _ => cases eg
/-! ### list(range(..)), tuple(range(..)) -/
def dRg (b : Int) : List D := (List.range b.toNat).map fun i => .int (i : Nat)
def gRgL (d : D) : Option (List D) := match d with
  | .int n => if 0 ≤ n ∧ n ≤ 16777216 then some (dRg n) else none
  | _ => none
theorem rgV_rep {N : Addr → Prop} (n : Int) : Reps K N H (rgV 0 n) (dRg n) := by
  unfold rgV dRg
  rw [show (n - 0).toNat = n.toNat by omega]
  have e1 : (List.range n.toNat).map (fun i => V.int (0 + (i : Nat))) = ((List.range n.toNat).map fun (i : Nat) => (i : Int)).map V.int := by rw [List.map_map]; apply List.map_congr_left; intro a _; simp
  have e2 : (List.range n.toNat).map (fun i => PyData.int (i : Nat)) = ((List.range n.toNat).map fun (i : Nat) => (i : Int)).map PyData.int := by rw [List.map_map]; rfl
  rw [e1, e2]
  exact Reps.of_ints _
theorem jf_listRg {p p1 pos q1 : Pos} (hc : X.calm = true) (hg : Gl X "list") (hm : X.mg "list" = none) (hg2 : Gl X "range") (hm2 : X.mg "range" = none) (h : JE false X c E ρ e m)
    (na : starEach [.Call (.Name "range" p1) [e] [] q1] X.env = (false, eval (.Call (.Name "range" p1) [e] [] q1) X.env) :: starEach [] X.env := by rfl) (na2 : starEach [e] X.env = (false, eval e X.env) :: starEach [] X.env := by rfl) :
    JF X c E ρ (.Call (.Name "list" p) [.Call (.Name "range" p1) [e] [] q1] [] pos) (mBnd m fun d => mOf (gRgL d)) :=
  JF.of (pe_listRg hc hg hm (prg_1 hg2 hm2 h na2) na) fun σ H Q ⟨ow, s, T, q⟩ => bndF0_at (b := false) T q fun d s1 v H1 k1 T1 r q1 => by
    cases d with
    | int n =>
      refine ⟨n, r.int, ?_⟩
      cases eg : gRgL (.int n) with
      | none => rw [eg] at q1; exact q1.elim
      | some ds =>
        obtain ⟨h1, rfl⟩ := if_some (show (if 0 ≤ n ∧ n ≤ 16777216 then some (dRg n) else none) = some ds from eg)
        rw [eg] at q1
        exact ⟨RgOk.of_le (by omega) h1.2 (by omega) h1.1, fun p n' => ofF_done T1 q1 n' fun ds z => by cases z; exact rgV_rep n⟩
    | _ => exact q1.elim
def tTupRgF (te : L2.St → Hp → (Int → Int → Hp → Prop) → Prop) : TE := fun σ H Q => te σ H fun a b H1 => RgOk a b ∧ ∀ q o, H1 q = none → o.dict = none → Q (.ref q) (upd H1 q (.frz o (.tup (rgV a b))))
theorem pe_tupRgF {te : L2.St → Hp → (Int → Int → Hp → Prop) → Prop} {p pos : Pos} (hc : X.calm = true) (hg : Gl X "tuple") (hm : X.mg "tuple" = none) (he : PRg X e te) (na : starEach [e] X.env = (false, eval e X.env) :: starEach [] X.env := by rfl) :
    PE X (.Call (.Name "tuple" p) [e] [] pos) (tTupRgF te) := by
  refine ⟨fun pins s σ H Q I h => Call_ (ld_blt I hg hm boot_tuple (PyProof.Rows.callWith_type1 (args_cons (thn (he pins s σ H _ I h) fun x s1 ⟨r, a, b, t, u, v, H1, ex, hr, I1, ok, q⟩ => args_nil ?_) na) na))⟩
  subst ex
  obtain ⟨b1, b2, b3, b4, b5⟩ := ok
  refine call_tuple_range (n := (b - a).toNat) (I1.ok.hd hc) hr (small_one b1 b2 b3 b4) (PyProof.Rows.rangeSize_nat a b) b5 fun h' tk acc hk hi => ?_
  have I2 : L2.Inv X pins σ H1 { s1 with heap := h', toks := tk } := I1.kept hk
  exact ⟨.ref h'.objs.size, _, laidT (s := { s1 with heap := h', toks := tk }) (a := h'.objs.size) (t' := tk) (us := acc.toList) I2 (fun c o e => Heap.get?_push_of_some _ e) (Nat.le_refl _) (Heap.get?_push_size _ rfl) (vals_rg hi) (by rw [rgV_length, sizeLine_eq]; omega), rfl, q _ _ (I2.hok.fresh (Nat.le_refl _)) rfl⟩
theorem je_tupRg {p p1 pos q1 : Pos} (hc : X.calm = true) (hg : Gl X "tuple") (hm : X.mg "tuple" = none) (hg2 : Gl X "range") (hm2 : X.mg "range" = none) (h : JE false X c E ρ e m)
    (na : starEach [.Call (.Name "range" p1) [e] [] q1] X.env = (false, eval (.Call (.Name "range" p1) [e] [] q1) X.env) :: starEach [] X.env := by rfl) (na2 : starEach [e] X.env = (false, eval e X.env) :: starEach [] X.env := by rfl) :
    JE b X c E ρ (.Call (.Name "tuple" p) [.Call (.Name "range" p1) [e] [] q1] [] pos) (mBnd m fun d => mOf ((gRgL d).map .tuple)) :=
  JE.of (pe_tupRgF hc hg hm (prg_1 hg2 hm2 h na2) na) fun σ H Q ⟨ow, s, T, q⟩ => bnd_at (b := false) T q fun d s1 v H1 k1 T1 r q1 => by
    obtain ⟨d', eg, q2⟩ := of_done T1 q1
    cases d with
    | int n =>
      refine ⟨n, r.int, ?_⟩
      have eg : Option.map PyData.tuple (if 0 ≤ n ∧ n ≤ 16777216 then some (dRg n) else none) = some d' := eg
      by_cases h1 : 0 ≤ n ∧ n ≤ 16777216
      · rw [if_pos h1] at eg
        cases eg
        exact ⟨RgOk.of_le (by omega) h1.2 (by omega) h1.1, fun p o n' dn => done_new T1 q2 n' (rep_tup dn n' (rgV_rep n))⟩
      · rw [if_neg h1] at eg; cases eg
    | _ => cases eg
end
end Cz
set_option Elab.async false
set_option linter.all false
set_option maxRecDepth 100000
set_option maxHeartbeats 4000000
/-! A tuple so many times; constants; is of bools. -/
namespace Cz
open PySem PySem.Spec PyProof.Rows L2
theorem tmul_same (l : Addr) (its : Array Value) (n : Nat) (dd : Option Addr) (sl : Array (Option Value)) (x : Int) (u : Tok) (c0 : (decide (x < -(2 ^ 63)) || decide (x ≥ 2 ^ 63)) = false) (c1 : (its.isEmpty || x == 1) = true) :
    Meets (Builtin.«tuple.__mul__» ⟨[.ref l, .int x u], []⟩) (fun _ R s => s.heap.get? l = some { cls := .type "tuple", dict := dd, data := .seq its n, slots := sl } ∧ R (.ok (.ret (Value.ref l))) s) :=
  .of_wp fun prog w A R s hyp => by
    obtain ⟨hp, gs, dr, tk, os⟩ := s
    obtain ⟨hobj, hR⟩ := hyp
    have f1 := AutoSeq1.idx_int
    wp_walk using wpAny_loadPart' hobj
    repeat (first
      | (refine wpAny_ite_false (decide_eq_false (by rw [c0]; decide)) ?_; wp_walk using wpAny_loadPart' hobj)
      | (refine wpAny_ite_true (decide_eq_true c1) ?_; wp_walk using wpAny_loadPart' hobj))
    exact ⟨_, rfl, hR⟩
theorem tmul_none (l : Addr) (its : Array Value) (n : Nat) (dd : Option Addr) (sl : Array (Option Value)) (x : Int) (u : Tok) (c0 : (decide (x < -(2 ^ 63)) || decide (x ≥ 2 ^ 63)) = false) (c1 : (its.isEmpty || x == 1) = false) (c2 : (decide (x ≤ 0) || its.isEmpty) = true) :
    Meets (Builtin.«tuple.__mul__» ⟨[.ref l, .int x u], []⟩) (fun _ R s => s.heap.get? l = some { cls := .type "tuple", dict := dd, data := .seq its n, slots := sl } ∧
      R (.ok (.ret (Value.ref s.heap.objs.size))) { s with heap := s.heap.push { cls := .type "tuple", data := .seq #[] } }) :=
  .of_wp fun prog w A R s hyp => by
    obtain ⟨hp, gs, dr, tk, os⟩ := s
    obtain ⟨hobj, hR⟩ := hyp
    have f1 := AutoSeq1.idx_int
    wp_walk using wpAny_loadPart' hobj
    repeat (first
      | (refine wpAny_ite_false (decide_eq_false (by rw [c0]; decide)) ?_; wp_walk using wpAny_loadPart' hobj)
      | (refine wpAny_ite_false (decide_eq_false (by rw [c1]; decide)) ?_; wp_walk using wpAny_loadPart' hobj)
      | (refine wpAny_ite_true (decide_eq_true c2) ?_; wp_walk using wpAny_loadPart' hobj))
    exact ⟨_, rfl, hR⟩
section
variable {S : Type} [WCl S] {b : Bool} {X : Cx} {K : PySem.W.Frag} {c : Cf S} {E : XK} {ρ : En} {e e1 e2 o : Expr} {m m1 m2 : Mo S D} {ow : Ows} {σ : L2.St} {H H1 : Hp} {s : S} {Q : VK}
def rTMul (K : PySem.W.Frag) : R2 := fun x y H Q => ∃ l k xs, x = .ref l ∧ y = .int k ∧ SqT K H l xs ∧ -1000 ≤ k ∧ k ≤ 1000 ∧ xs.length ≤ 1000 ∧ ((xs = [] ∨ k = 1) → Q (.ref l) H) ∧
  (¬ (xs = [] ∨ k = 1) → ∀ p o, H p = none → o.dict = none → Q (.ref p) (upd H p (.frz o (.tup (List.replicate k.toNat xs).flatten))))
theorem op_tmul : OpR X (binaryOp .Mult) (rTMul X.K) := by
  intro pins s σ H x y v u Q I rx ry ⟨l, k, xs, ex, ey, hT, h1, h2, hz, q1, q2⟩
  subst ex ey
  cases rx
  obtain ⟨t, rfl⟩ := ry
  obtain ⟨its, r, ⟨⟨cls, dd, data, sl⟩, ho, hc, n, hd⟩, hs⟩ := I.tuple hT
  have hc : cls = .type "tuple" := hc
  have hd : data = .seq its.toArray n := hd
  subst hc hd
  have hle : its.length = xs.length := r.length.symm
  have c0 : (decide (k < -(2 ^ 63)) || decide (k ≥ 2 ^ 63)) = false := by
    have a1 : ¬ k < -(2 ^ 63) := by omega
    have a2 : ¬ k ≥ 2 ^ 63 := by omega
    simp only [a1, a2, decide_false, Bool.or_self]
  have road : ∀ {Sp : PySem.Spec}, Meets (Builtin.«tuple.__mul__» ⟨[.ref l, .int k t], []⟩) Sp → Sp X.A (wants (EP X pins σ Q) X.xe) s → wpAny (model X.prog X.w) X.A (binaryOp .Mult (.ref l) (.int k t)) (EP X pins σ Q) X.xe s := fun g h =>
    wpAny_binaryOp_repeat_ref (T := "tuple") (U := "int") (by decide) ⟨_, ho, rfl⟩ (fun s' => typeIs_int s' k t) L2.noFill_tuple_mul PySem.F.fills_int_mul PySem.F.slot_int_rmul L2.repeat_tuple PySem.F.slot_int_index.lookup
      (call_meets PySem.F.slot_int_rmul (typeIs_int s k t) PySem.F.entry_int_rmul (PySem.F.args_int_rmul_2 _ _) (L2.int_rmul_tuple k t l its.toArray n dd sl)
        ⟨ho, rfl, ⟨_, ho, rfl⟩, call_meets PySem.F.slot_tuple_mul ⟨_, ho, rfl⟩ PySem.F.entry_tuple_mul (PySem.F.args_tuple_mul_2 _ _) g h⟩)
  by_cases hs1 : xs = [] ∨ k = 1
  · refine road (tmul_same l its.toArray n dd sl k t c0 ?_) ⟨ho, .ref l, H, I, rfl, q1 hs1⟩
    rcases hs1 with z | z
    · subst z
      have : its = [] := List.eq_nil_of_length_eq_zero (by simpa using hle)
      rw [this]; rfl
    · subst z; simp
  · have hne : xs ≠ [] := fun z => hs1 (.inl z)
    have hk1 : k ≠ 1 := fun z => hs1 (.inr z)
    have hi : its.toArray.isEmpty = false := by
      cases its with
      | nil => exact absurd (List.eq_nil_of_length_eq_zero (by simpa using hle.symm)) hne
      | cons a b => rfl
    have c1 : (its.toArray.isEmpty || k == 1) = false := by rw [hi, Bool.false_or]; exact beq_eq_false_iff_ne.mpr hk1
    by_cases h0 : k ≤ 0
    · refine road (tmul_none l its.toArray n dd sl k t c0 c1 (by rw [hi, Bool.or_false]; exact decide_eq_true h0)) ⟨ho, ?_⟩
      have q3 := q2 hs1
      rw [show k.toNat = 0 by omega] at q3
      exact ⟨.ref s.heap.objs.size, _, laidT (t' := s.toks) (us := []) I (fun b ob q => Heap.get?_push_of_some _ q) (Nat.le_refl _) (Heap.get?_push_size _ rfl) .nil (Nat.zero_le _), rfl, q3 _ _ (I.hok.fresh (Nat.le_refl _)) rfl⟩
    · have hm : ((its.toArray.size : Nat) : Int) * k ≤ 1000000 := by
        rw [List.size_toArray, hle]
        have a1 : ((xs.length : Nat) : Int) * k ≤ 1000 * k := Int.mul_le_mul_of_nonneg_right (by omega) (by omega)
        omega
      have fl : ∀ {α : Type} (ys : List α), ys.length ≤ 1000 → (List.replicate k.toNat ys).flatten.length ≤ sizeLine := fun ys hy => by
        rw [PyProof.Rows.lm_len_rep_flat, sizeLine_eq]
        have a1 : k.toNat * ys.length ≤ 1000 * 1000 := Nat.mul_le_mul (by omega) hy
        omega
      have c4 : Builtin.Tuple.tupleTooMany (((its.toArray.size : Nat) : Int) * k) = false := by
        unfold Builtin.Tuple.tupleTooMany
        rw [sizeLine_eq]
        exact decide_eq_false (by omega)
      refine road (L2.tuple_mulW l its.toArray n dd sl k t c0 c1 (by rw [hi, Bool.or_false]; exact decide_eq_false h0) (by omega) c4 (by rw [L2.size_rep, List.size_toArray]; exact fl its (by omega))) ⟨ho, ?_⟩
      rw [L2.size_rep]
      exact ⟨.ref s.heap.objs.size, _, laidT (t' := s.toks) I (fun b ob q => Heap.get?_push_of_some _ q) (Nat.le_refl _) (Heap.get?_push_size _ rfl) (Vals.rep r k.toNat) (fl xs hz), rfl, q2 hs1 _ _ (I.hok.fresh (Nat.le_refl _)) rfl⟩
/-- * , tuples too -/
def gMulT : D → D → Option D
  | .tuple xs, .int k => if -1000 ≤ k ∧ k ≤ 1000 ∧ xs.length ≤ 1000 then some (.tuple (List.replicate k.toNat xs).flatten) else none
  | x, y => gMul x y
def rMulT (K : PySem.W.Frag) : R2 := fun x y H Q => rMul x y H Q ∨ rTMul K x y H Q
theorem op_mulT : OpR X (binaryOp .Mult) (rMulT X.K) := op_mulD.or op_tmul
theorem ok_mulT : OkR2 K (rMulT K) gMulT := by
  intro S _ c ow ρ σ H s x y dx dy d Q T rx ry e q
  cases dx with
  | tuple xs =>
    cases dy with
    | int k =>
      obtain ⟨⟨h1, h2, h3⟩, rfl⟩ := if_some (show (if -1000 ≤ k ∧ k ≤ 1000 ∧ xs.length ≤ 1000 then some (PyData.tuple (List.replicate k.toNat xs).flatten) else none) = some d from e)
      obtain ⟨p, vs, rfl, hp, r1⟩ := rx.tupD
      refine .inr ⟨p, k, vs, rfl, ry.int, hp.sq, h1, h2, by rw [r1.len]; exact h3, fun z => ?_, fun _ p3 o n dn => q _ _ (same_new n) (rep_tup dn n (r1.rep _))⟩
      have e2 : (List.replicate k.toNat xs).flatten = xs := by
        rcases z with z | z
        · subst z
          cases r1
          simp
        · subst z
          simp
      rw [e2] at q
      exact q _ _ (Same.refl _) (.tup hp r1)
    | _ => cases e
  | _ => exact .inl (ok_mul T rx ry e q)
/-! ### a module's constant -/
theorem je_glob {x : Str} {i : Int} {u : Value} {pos : Pos} (hg : Gl X x) (hm : X.mg x = some u) (r : RelV (.int i) u) (hd : (x == ("__debug__" : Str)) = false := by decide) : JE b X c E ρ (.Name x pos) (mRet (.int i)) :=
  JE.con (pe_glob hg hm r hd) fun _ _ => .int i
/-! ### is, of bools -/
def gIsB : D → D → Option D
  | .bool a, .bool b => some (.bool (decide (a = b)))
  | _, _ => none
def gIsNotB : D → D → Option D
  | .bool a, .bool b => some (.bool (!decide (a = b)))
  | _, _ => none
theorem ok_isB : OkR2 K (fun x y H Q => ∃ a b, x = .bl a ∧ y = .bl b ∧ Q (.bl (decide (a = b))) H) gIsB := by
  intro S _ c ow ρ σ H s x y dx dy d Q T rx ry e q
  cases dx with
  | bool i => cases dy with
    | bool j => cases e; exact ⟨i, j, rx.bl, ry.bl, q _ _ (Same.refl _) (.bl _)⟩
    | _ => cases e
  | _ => cases e
theorem ok_isNotB : OkR2 K (fun x y H Q => ∃ a b, x = .bl a ∧ y = .bl b ∧ Q (.bl (!decide (a = b))) H) gIsNotB := by
  intro S _ c ow ρ σ H s x y dx dy d Q T rx ry e q
  cases dx with
  | bool i => cases dy with
    | bool j => cases e; exact ⟨i, j, rx.bl, ry.bl, q _ _ (Same.refl _) (.bl _)⟩
    | _ => cases e
  | _ => cases e
end
end Cz
set_option Elab.async false
set_option linter.all false
set_option maxRecDepth 100000
set_option maxHeartbeats 4000000
/-! a, b = e (data); a, b = e1, e2 (data or new lists). -/
namespace Cz
open PySem PySem.Spec PyProof.Rows L2
section
variable {S : Type} [WCl S] {α β γ : Type} {b b' : Bool} {X : Cx} {K : PySem.W.Frag} {c : Cf S} {E : XK} {ρ ρ' ρ1 : En} {ρf : α → En} {e e1 e2 e3 : Expr} {m m1 m2 m3 : Mo S D} {ml ml2 ml3 : Mo S (List D)} {ow ow' ow1 : Ows} {σ σ' σ1 : L2.St} {H H1 : Hp} {s s1 : S} {Q : VK} {Dn : Ends} {sts rest : List Stmt}
/-- t = e, t a tuple of names -/
theorem bs_unp {tg : Expr} {g : TG} {tgt : D → En → Option En} {ts : List Nat} {pos : Pos} {k : D → Mo S (Fl α)} (he : JE false X c E ρ e m) (hg : PG X tg g) (ht : TgOk X.K g tgt ts) (hno : ∀ d, tgt d ρ = none → k d = mBad) (hr : ∀ d ρ', tgt d ρ = some ρ' → JSs X c E ρf ρ' rest (k d))
    (hs : swapsWithSole [tg] e pos.line X.env = pure false := by rfl) (hw : swappedStores [tg] e X.env = pure none := by rfl) (h1 : (assignEach [tg] X.env).map (·.2) = [assign tg X.env] := by rfl) : JSs X c E ρf ρ (.Assign [tg] e pos :: rest) (mBnd m k) := by
  have hr' : PSs X rest (fun Dn σ H => ∃ d ρ', tgt d ρ = some ρ' ∧ tS X.K c E ρf ρ' (k d) Dn σ H) := ⟨fun pins s σ H Dn I ⟨d, ρ', z, q⟩ => (hr d ρ' z).run pins s σ H Dn I q⟩
  refine JSs.of (pss_cons (ps_asg he hg hs hw h1) hr') fun Dn σ H ⟨ow, s, T, q⟩ => bndS_at (b := false) T q fun d s1 v H1 k1 T1 r q1 => ?_
  cases et : tgt d ρ with
  | none => rw [hno d et] at q1; exact q1.elim
  | some ρ' => exact ht T1 r.val et fun σ2 T2 _ _ => ⟨d, ρ', et, ow, s1, T2, q1⟩
/-! ### several values, one after the other, then the stores -/
theorem par_d {f : D → Mo S (Fl α)} {R : VK} (i : Nat) (T : Stt K c ow ρ σ H s) (A : Stt K c ow ρ' σ' H s) (q : ContS K c E ρf ow H (mBnd m f s) Dn)
    (go : ∀ d s1 v H1, Stt K c ow ρ σ H1 s1 → Stt K c ow (ρ'.set i (some (.v d))) (σ'.set i (some v)) H1 s1 → ContS K c E ρf ow H1 (f d s1) Dn → R v H1) : tE false K c E ρ m σ H R :=
  bndS_at (b := false) T q fun d s1 v H1 k1 T1 r q1 => go d s1 v H1 T1 ((A.move k1 T1.ok).setV r.val) q1
theorem Rep.anyN {N N' : Addr → Prop} {v : V} {d : D} (h : Rep K N H v d) (f : flatD d = true) : Rep K N' H v d := by
  cases h with
  | non => exact .non
  | bl b => exact .bl b
  | int i => exact .int i
  | str x => exact .str x
  | lst _ _ _ => cases f
  | tup _ _ => cases f
  | dic _ _ _ => cases f
theorem Reps.anyN {N N' : Addr → Prop} : ∀ {vs : List V} {ds : List D}, Reps K N H vs ds → ds.all flatD = true → Reps K N' H vs ds
  | _, _, .nil, _ => .nil
  | _, _, .cons h r, f => by
    rw [List.all_cons, Bool.and_eq_true] at f
    exact .cons (h.anyN f.1) (Reps.anyN r f.2)
def gFlat (ds : List D) : Option (List D) := if ds.all flatD = true then some ds else none
def gFlat1 (d : D) : Option D := if flatD d = true then some d else none
theorem par_df {f : D → Mo S (Fl α)} {R : VK} (i : Nat) (T : Stt K c ow ρ σ H s) (A : Stt K c ow' ρ' σ' H s) (q : ContS K c E ρf ow' H (mBnd m (fun d => mBnd (mOf (gFlat1 d)) f) s) Dn)
    (go : ∀ d s1 v H1, Stt K c ow ρ σ H1 s1 → Stt K c ow' (ρ'.set i (some (.v d))) (σ'.set i (some v)) H1 s1 → ContS K c E ρf ow' H1 (f d s1) Dn → R v H1) : tE false K c E ρ m σ H R := by
  refine ⟨ow, s, T, ?_⟩
  unfold mBnd at q
  cases e : m s with
  | ok d s1 =>
    rw [e] at q
    intro v H1 k o r
    have q : ContS K c E ρf ow' H (mBnd (mOf (gFlat1 d)) f s1) Dn := q
    cases ef : gFlat1 d with
    | none => rw [ef] at q; exact q.elim
    | some d' =>
      rw [ef] at q
      obtain ⟨hf, rfl⟩ := if_some (show (if flatD d = true then some d else none) = some d' from ef)
      exact go d s1 v H1 (T.move k o) ((A.move k o).setV (r.val.anyN hf)) (ContS.move q (.of k))
  | ex C pl s1 => rw [e] at q; exact fun dx H1 k o x => q dx H1 (T.kp.trans k) o x
  | bad => rw [e] at q; exact q
theorem par_o {f : List D → Mo S (Fl α)} {R : VK} (i : Nat) (T : Stt K c ow ρ σ H s) (A : Stt K c ow ρ' σ' H s) (q : ContS K c E ρf ow H (mBnd ml f s) Dn)
    (go : ∀ ds s1 p H1, Stt K c ow ρ σ H1 s1 → Stt K c (owSet ow i (some p)) (ρ'.set i (some (.own ds))) (σ'.set i (some (.ref p))) H1 s1 → ContS K c E ρf (owSet ow i (some p)) H1 (f ds s1) Dn → R (.ref p) H1) : tF K c E ρ ml σ H R :=
  ⟨ow, s, T, contS_F T q fun ds s1 p xs H1 n kk o hp r q1 => go ds s1 p H1 (T.move kk o) (A.setOwn n kk o hp r).1 (ContS.move q1 (A.setOwn (i := i) n kk o hp r).2)⟩
theorem par_of {f : List D → Mo S (Fl α)} {R : VK} (i : Nat) (T : Stt K c ow ρ σ H s) (A : Stt K c ow' ρ' σ' H s) (q : ContS K c E ρf ow' H (mBnd ml (fun ds => mBnd (mOf (gFlat ds)) f) s) Dn)
    (go : ∀ ds s1 p H1, Stt K c ow ρ σ H1 s1 → Stt K c (owSet ow' i (some p)) (ρ'.set i (some (.own ds))) (σ'.set i (some (.ref p))) H1 s1 → ContS K c E ρf (owSet ow' i (some p)) H1 (f ds s1) Dn → R (.ref p) H1) : tF K c E ρ ml σ H R := by
  refine ⟨ow, s, T, ?_⟩
  unfold mBnd at q
  cases e : ml s with
  | ok ds s1 =>
    rw [e] at q
    intro p xs H1 n kk o hp r
    have q : ContS K c E ρf ow' H (mBnd (mOf (gFlat ds)) f s1) Dn := q
    cases ef : gFlat ds with
    | none => rw [ef] at q; exact q.elim
    | some d' =>
      rw [ef] at q
      obtain ⟨hf, rfl⟩ := if_some (show (if ds.all flatD = true then some ds else none) = some d' from ef)
      have B := A.setOwn (i := i) n kk o hp (r.anyN hf)
      exact go ds s1 p H1 (T.move kk o) B.1 (ContS.move q B.2)
  | ex C pl s1 => rw [e] at q; exact fun dx H1 k o x => q dx H1 (T.kp.trans k) o x
  | bad => rw [e] at q; exact q
/-! two names -/
section
variable {i j l : Nat} {x y z : Str} {px py pz pt pos : Pos} {kt k2 : _} {pt2 : Pos}
theorem rest2 {γ δ : Type} {ρ2 : γ → δ → En} {k : γ → δ → Mo S (Fl α)} (hr : ∀ a d, JSs X c E ρf (ρ2 a d) rest (k a d)) : PSs X rest (fun Dn σ H => ∃ a d, tS X.K c E ρf (ρ2 a d) (k a d) Dn σ H) := ⟨fun pins s σ H Dn I ⟨a, d, q⟩ => (hr a d).run pins s σ H Dn I q⟩
theorem rest3 {γ δ ε : Type} {ρ2 : γ → δ → ε → En} {k : γ → δ → ε → Mo S (Fl α)} (hr : ∀ a d u, JSs X c E ρf (ρ2 a d u) rest (k a d u)) : PSs X rest (fun Dn σ H => ∃ a d u, tS X.K c E ρf (ρ2 a d u) (k a d u) Dn σ H) := ⟨fun pins s σ H Dn I ⟨a, d, u, q⟩ => (hr a d u).run pins s σ H Dn I q⟩
theorem bs_par_dd (i j : Nat) {k : D → D → Mo S (Fl α)} (hc : X.calm = true) (nd : X.N.Nodup) (h1 : JE false X c E ρ e1 m1) (h2 : JE false X c E ρ e2 m2) (hr : ∀ d d', JSs X c E ρf ((ρ.set i (some (.v d))).set j (some (.v d'))) rest (k d d'))
    (hw : swappedStores [.Tuple [.Name x px, .Name y py] kt pt] (.Tuple [e1, e2] k2 pt2) X.env = pure (some [x, y])) (hi : X.N[i]? = some x := by rfl) (hj : X.N[j]? = some y := by rfl) (hij : i ≠ j := by decide) (hx : X.env.scope.names.lookup x = some .local := by rfl) (hy : X.env.scope.names.lookup y = some .local := by rfl)
    (s1 : starEach [e1, e2] X.env = (false, eval e1 X.env) :: starEach [e2] X.env := by rfl) (s2 : starEach [e2] X.env = (false, eval e2 X.env) :: starEach [] X.env := by rfl) (hs : swapsWithSole [.Tuple [.Name x px, .Name y py] kt pt] (.Tuple [e1, e2] k2 pt2) pos.line X.env = pure false := by rfl) :
    JSs X c E ρf ρ (.Assign [.Tuple [.Name x px, .Name y py] kt pt] (.Tuple [e1, e2] k2 pt2) pos :: rest) (mBnd m1 fun d => mBnd m2 fun d' => k d d') :=
  JSs.of (pss_cons (ps_par hc nd hi hj hij hx hy (pa_cons h1 (pa_cons h2 pa_nil s2) s1) hw hs) (rest2 hr)) fun Dn σ H ⟨ow, s, T, q⟩ => par_d i T T q fun d s1 v H1 T1 A1 q1 => par_d j T1 A1 q1 fun d' s2 v' H2 T2 A2 q2 => ⟨v, v', rfl, d, d', ow, s2, A2, q2⟩
theorem bs_par_do (i j : Nat) {k : D → List D → Mo S (Fl α)} (hc : X.calm = true) (nd : X.N.Nodup) (h1 : JE false X c E ρ e1 m1) (h2 : JF X c E ρ e2 ml) (hr : ∀ d d', JSs X c E ρf ((ρ.set i (some (.v d))).set j (some (.own d'))) rest (k d d'))
    (hw : swappedStores [.Tuple [.Name x px, .Name y py] kt pt] (.Tuple [e1, e2] k2 pt2) X.env = pure (some [x, y])) (hi : X.N[i]? = some x := by rfl) (hj : X.N[j]? = some y := by rfl) (hij : i ≠ j := by decide) (hx : X.env.scope.names.lookup x = some .local := by rfl) (hy : X.env.scope.names.lookup y = some .local := by rfl)
    (s1 : starEach [e1, e2] X.env = (false, eval e1 X.env) :: starEach [e2] X.env := by rfl) (s2 : starEach [e2] X.env = (false, eval e2 X.env) :: starEach [] X.env := by rfl) (hs : swapsWithSole [.Tuple [.Name x px, .Name y py] kt pt] (.Tuple [e1, e2] k2 pt2) pos.line X.env = pure false := by rfl) :
    JSs X c E ρf ρ (.Assign [.Tuple [.Name x px, .Name y py] kt pt] (.Tuple [e1, e2] k2 pt2) pos :: rest) (mBnd m1 fun d => mBnd ml fun d' => k d d') :=
  JSs.of (pss_cons (ps_par hc nd hi hj hij hx hy (pa_cons h1 (pa_cons h2 pa_nil s2) s1) hw hs) (rest2 hr)) fun Dn σ H ⟨ow, s, T, q⟩ => par_d i T T q fun d s1 v H1 T1 A1 q1 => par_o j T1 A1 q1 fun d' s2 p H2 T2 A2 q2 => ⟨v, .ref p, rfl, d, d', _, s2, A2, q2⟩
theorem bs_par_oo (i j : Nat) {k : List D → List D → Mo S (Fl α)} (hc : X.calm = true) (nd : X.N.Nodup) (h1 : JF X c E ρ e1 ml) (h2 : JF X c E ρ e2 ml2) (hr : ∀ d d', JSs X c E ρf ((ρ.set i (some (.own d))).set j (some (.own d'))) rest (k d d'))
    (hw : swappedStores [.Tuple [.Name x px, .Name y py] kt pt] (.Tuple [e1, e2] k2 pt2) X.env = pure (some [x, y])) (hi : X.N[i]? = some x := by rfl) (hj : X.N[j]? = some y := by rfl) (hij : i ≠ j := by decide) (hx : X.env.scope.names.lookup x = some .local := by rfl) (hy : X.env.scope.names.lookup y = some .local := by rfl)
    (s1 : starEach [e1, e2] X.env = (false, eval e1 X.env) :: starEach [e2] X.env := by rfl) (s2 : starEach [e2] X.env = (false, eval e2 X.env) :: starEach [] X.env := by rfl) (hs : swapsWithSole [.Tuple [.Name x px, .Name y py] kt pt] (.Tuple [e1, e2] k2 pt2) pos.line X.env = pure false := by rfl) :
    JSs X c E ρf ρ (.Assign [.Tuple [.Name x px, .Name y py] kt pt] (.Tuple [e1, e2] k2 pt2) pos :: rest) (mBnd ml fun d => mBnd ml2 fun ds => mBnd (mOf (gFlat ds)) fun d' => k d d') :=
  JSs.of (pss_cons (ps_par hc nd hi hj hij hx hy (pa_cons h1 (pa_cons h2 pa_nil s2) s1) hw hs) (rest2 hr)) fun Dn σ H ⟨ow, s, T, q⟩ => par_o i T T q fun d s1 p H1 T1 A1 q1 => par_of j T1 A1 q1 fun d' s2 p' H2 T2 A2 q2 => ⟨.ref p, .ref p', rfl, d, d', _, s2, A2, q2⟩
theorem bs_par_od (i j : Nat) {k : List D → D → Mo S (Fl α)} (hc : X.calm = true) (nd : X.N.Nodup) (h1 : JF X c E ρ e1 ml) (h2 : JE false X c E ρ e2 m2) (hr : ∀ d d', JSs X c E ρf ((ρ.set i (some (.own d))).set j (some (.v d'))) rest (k d d'))
    (hw : swappedStores [.Tuple [.Name x px, .Name y py] kt pt] (.Tuple [e1, e2] k2 pt2) X.env = pure (some [x, y])) (hi : X.N[i]? = some x := by rfl) (hj : X.N[j]? = some y := by rfl) (hij : i ≠ j := by decide) (hx : X.env.scope.names.lookup x = some .local := by rfl) (hy : X.env.scope.names.lookup y = some .local := by rfl)
    (s1 : starEach [e1, e2] X.env = (false, eval e1 X.env) :: starEach [e2] X.env := by rfl) (s2 : starEach [e2] X.env = (false, eval e2 X.env) :: starEach [] X.env := by rfl) (hs : swapsWithSole [.Tuple [.Name x px, .Name y py] kt pt] (.Tuple [e1, e2] k2 pt2) pos.line X.env = pure false := by rfl) :
    JSs X c E ρf ρ (.Assign [.Tuple [.Name x px, .Name y py] kt pt] (.Tuple [e1, e2] k2 pt2) pos :: rest) (mBnd ml fun d => mBnd m2 fun d1 => mBnd (mOf (gFlat1 d1)) fun d' => k d d') :=
  JSs.of (pss_cons (ps_par hc nd hi hj hij hx hy (pa_cons h1 (pa_cons h2 pa_nil s2) s1) hw hs) (rest2 hr)) fun Dn σ H ⟨ow, s, T, q⟩ => par_o i T T q fun d s1 p H1 T1 A1 q1 => par_df j T1 A1 q1 fun d' s2 v H2 T2 A2 q2 => ⟨.ref p, v, rfl, d, d', _, s2, A2, q2⟩
theorem bs_par_ddd (i j l : Nat) {k : D → D → D → Mo S (Fl α)} (hc : X.calm = true) (nd : X.N.Nodup) (h1 : JE false X c E ρ e1 m1) (h2 : JE false X c E ρ e2 m2) (h3 : JE false X c E ρ e3 m3) (hr : ∀ d d' d2, JSs X c E ρf (((ρ.set i (some (.v d))).set j (some (.v d'))).set l (some (.v d2))) rest (k d d' d2))
    (hw : swappedStores [.Tuple [.Name x px, .Name y py, .Name z pz] kt pt] (.Tuple [e1, e2, e3] k2 pt2) X.env = pure (some [x, y, z])) (hi : X.N[i]? = some x := by rfl) (hj : X.N[j]? = some y := by rfl) (hl : X.N[l]? = some z := by rfl) (hij : i ≠ j := by decide) (hil : i ≠ l := by decide) (hjl : j ≠ l := by decide)
    (hx : X.env.scope.names.lookup x = some .local := by rfl) (hy : X.env.scope.names.lookup y = some .local := by rfl) (hz : X.env.scope.names.lookup z = some .local := by rfl)
    (s1 : starEach [e1, e2, e3] X.env = (false, eval e1 X.env) :: starEach [e2, e3] X.env := by rfl) (s2 : starEach [e2, e3] X.env = (false, eval e2 X.env) :: starEach [e3] X.env := by rfl) (s3 : starEach [e3] X.env = (false, eval e3 X.env) :: starEach [] X.env := by rfl)
    (hs : swapsWithSole [.Tuple [.Name x px, .Name y py, .Name z pz] kt pt] (.Tuple [e1, e2, e3] k2 pt2) pos.line X.env = pure false := by rfl) :
    JSs X c E ρf ρ (.Assign [.Tuple [.Name x px, .Name y py, .Name z pz] kt pt] (.Tuple [e1, e2, e3] k2 pt2) pos :: rest) (mBnd m1 fun d => mBnd m2 fun d' => mBnd m3 fun d2 => k d d' d2) :=
  JSs.of (pss_cons (ps_par3 hc nd hi hj hl hij hil hjl hx hy hz (pa_cons h1 (pa_cons h2 (pa_cons h3 pa_nil s3) s2) s1) hw hs) (rest3 hr)) fun Dn σ H ⟨ow, s, T, q⟩ => par_d i T T q fun d s1 v H1 T1 A1 q1 => par_d j T1 A1 q1 fun d' s2 v' H2 T2 A2 q2 => par_d l T2 A2 q2 fun d2 s3 v2 H3 T3 A3 q3 => ⟨v, v', v2, rfl, d, d', d2, ow, s3, A3, q3⟩
theorem bs_par_ddo (i j l : Nat) {k : D → D → List D → Mo S (Fl α)} (hc : X.calm = true) (nd : X.N.Nodup) (h1 : JE false X c E ρ e1 m1) (h2 : JE false X c E ρ e2 m2) (h3 : JF X c E ρ e3 ml) (hr : ∀ d d' d2, JSs X c E ρf (((ρ.set i (some (.v d))).set j (some (.v d'))).set l (some (.own d2))) rest (k d d' d2))
    (hw : swappedStores [.Tuple [.Name x px, .Name y py, .Name z pz] kt pt] (.Tuple [e1, e2, e3] k2 pt2) X.env = pure (some [x, y, z])) (hi : X.N[i]? = some x := by rfl) (hj : X.N[j]? = some y := by rfl) (hl : X.N[l]? = some z := by rfl) (hij : i ≠ j := by decide) (hil : i ≠ l := by decide) (hjl : j ≠ l := by decide)
    (hx : X.env.scope.names.lookup x = some .local := by rfl) (hy : X.env.scope.names.lookup y = some .local := by rfl) (hz : X.env.scope.names.lookup z = some .local := by rfl)
    (s1 : starEach [e1, e2, e3] X.env = (false, eval e1 X.env) :: starEach [e2, e3] X.env := by rfl) (s2 : starEach [e2, e3] X.env = (false, eval e2 X.env) :: starEach [e3] X.env := by rfl) (s3 : starEach [e3] X.env = (false, eval e3 X.env) :: starEach [] X.env := by rfl)
    (hs : swapsWithSole [.Tuple [.Name x px, .Name y py, .Name z pz] kt pt] (.Tuple [e1, e2, e3] k2 pt2) pos.line X.env = pure false := by rfl) :
    JSs X c E ρf ρ (.Assign [.Tuple [.Name x px, .Name y py, .Name z pz] kt pt] (.Tuple [e1, e2, e3] k2 pt2) pos :: rest) (mBnd m1 fun d => mBnd m2 fun d' => mBnd ml fun d2 => k d d' d2) :=
  JSs.of (pss_cons (ps_par3 hc nd hi hj hl hij hil hjl hx hy hz (pa_cons h1 (pa_cons h2 (pa_cons h3 pa_nil s3) s2) s1) hw hs) (rest3 hr)) fun Dn σ H ⟨ow, s, T, q⟩ => par_d i T T q fun d s1 v H1 T1 A1 q1 => par_d j T1 A1 q1 fun d' s2 v' H2 T2 A2 q2 => par_o l T2 A2 q2 fun d2 s3 p H3 T3 A3 q3 => ⟨v, v', .ref p, rfl, d, d', d2, _, s3, A3, q3⟩
end
end
end Cz
set_option Elab.async false
set_option linter.all false
set_option maxRecDepth 100000
set_option maxHeartbeats 4000000
/-! Comprehensions over two fors; calls by names alone. -/
namespace Cz
open PySem PySem.Spec PyProof.Rows L2
section
variable {S : Type} [WCl S] {α β γ : Type} {b b' : Bool} {X : Cx} {K : PySem.W.Frag} {c : Cf S} {E : XK} {ρ ρ1 : En} {ρf : α → En} {e e1 e2 : Expr} {m m1 m2 : Mo S D} {ml : Mo S (List D)} {ow ow1 : Ows} {σ σ1 : L2.St} {H H1 : Hp} {s s1 : S} {Q : VK} {Dn : Ends} {sts rest : List Stmt}
theorem ite_t {A B : Prop} (h : A) : (if true = true then A else B) := by rw [if_pos rfl]; exact h
/-- what an inner for walks: no exception is told -/
def mNxL (m : Mo S (List D)) : Mo S (List D) := fun s => match m s with
  | .ok d s' => .ok d s'
  | _ => .bad
def mComp2 (mi1 : D → Mo S (List D)) (f : D → D → Mo S (Option D)) : List D → List D → Mo S (List D)
  | [], acc => mRet acc
  | x :: xs, acc => mBnd (mNxL (mi1 x)) fun ys => mBnd (mComp (f x) ys acc) fun acc' => mComp2 mi1 f xs acc'
abbrev tiB (K : PySem.W.Frag) (tgt : D → En → Option En) (ρw : En) (mi : D → Mo S (List D)) : TI := fun σ H R => ∃ (c' : Cf S) (x : D) (ρ' : En), tgt x ρw = some ρ' ∧ tI K c' E0 ρ' (mi x) σ H R
abbrev teB2 (K : PySem.W.Frag) (tgt tgt1 : D → En → Option En) (ρw : En) (vs1 : List Nat) (me : D → D → Mo S D) : TE := fun σ H Q => ∃ (c' : Cf S) (x y : D) (ρ' ρ'' : En), tgt x ρw = some ρ' ∧ tgt1 y (wipeE ρ' vs1) = some ρ'' ∧ tE false K c' E0 ρ'' (me x y) σ H Q
theorem Stt.wiped (h : Stt K c ow ρ σ H s) (vs : List Nat) : Stt K c ow (wipeE ρ vs) (wipe σ vs) H s := by
  refine ⟨h.ok, h.kp, h.bl, h.ows, h.inj, by rw [wipe_length, wipeE_length, h.ln], fun i dv e => ?_⟩
  obtain ⟨e1, hi⟩ := wipeE_some e
  rw [wipe_out hi]
  exact h.sl i dv e1
/-- the new list at p, a list of its own beside the slots -/
def owIns (ow : Ows) (n : Nat) (p : Addr) : Ows := fun i => if i < n then ow i else if i = n then some p else ow (i - 1)
theorem owIns_lt {n i : Nat} {p : Addr} (h : i < n) : owIns ow n p i = ow i := if_pos h
theorem owIns_at {n : Nat} {p : Addr} : owIns ow n p n = some p := by unfold owIns; rw [if_neg (Nat.lt_irrefl n), if_pos rfl]
theorem owIns_ex {n : Nat} {p a : Addr} : (∃ i, owIns ow n p i = some a) ↔ (∃ i, ow i = some a) ∨ a = p := by
  constructor
  · rintro ⟨i, e⟩
    unfold owIns at e
    by_cases h1 : i < n
    · rw [if_pos h1] at e; exact .inl ⟨i, e⟩
    · rw [if_neg h1] at e
      by_cases h2 : i = n
      · rw [if_pos h2] at e; exact .inr (Option.some.inj e).symm
      · rw [if_neg h2] at e; exact .inl ⟨_, e⟩
  · rintro (⟨i, e⟩ | e)
    · by_cases h1 : i < n
      · exact ⟨i, by rw [owIns_lt h1]; exact e⟩
      · refine ⟨i + 1, ?_⟩
        unfold owIns
        rw [if_neg (by omega), if_neg (by omega)]
        exact e
    · subst e
      exact ⟨n, owIns_at⟩
def Cf.top (c : Cf S) : Cf S := ⟨c.W, c.hW, c.B, fun _ => none⟩
theorem Cf.topN {n : Nat} {p a : Addr} : c.top.Nn (owIns ow n p) a ↔ (c.Nn ow a ∨ a = p) := by
  constructor
  · rintro (z | z | z)
    · exact .inl (.inl z)
    · exact .inl (.inr (.inl z))
    · exact (owIns_ex.mp z).imp (fun z => .inr (.inr z)) id
  · rintro ((z | z | z) | z)
    · exact .inl z
    · exact .inr (.inl z)
    · exact .inr (.inr (owIns_ex.mpr (.inl z)))
    · exact .inr (.inr (owIns_ex.mpr (.inr z)))
theorem Stt.top {p : Addr} {o : HO} {n : Nat} (h : Stt K c ow ρ σ H s) (nn : H p = none) (hn : ρ.length ≤ n) : Stt K c.top (owIns ow n p) ρ σ (upd H p o) s := by
  have hs := same_new (o := o) nn
  have hf := h.fresh nn
  refine ⟨c.W.same h.ok hs, ⟨fun _ _ e => (by cases e), fun _ e => absurd rfl e⟩, fun a z => (Keep.same (M := fun _ => False) hs).al a (h.bl a z), fun i q e => ?_, fun i j q e1 e2 => ?_, h.ln, fun i dv e => ?_⟩
  · rcases owIns_ex.mp ⟨i, e⟩ with ⟨j, z⟩ | z
    · obtain ⟨a1, a2, a3, a4⟩ := h.ows j q z
      exact ⟨a1, a2, (Keep.same (M := fun _ => False) hs).al q a3, rfl⟩
    · subst z
      exact ⟨fun z => hf (.inl z), fun z => hf (.inr (.inl z)), by rw [upd_same]; exact Option.some_ne_none _, rfl⟩
  · have np : ∀ {i}, ow i = some p → False := fun e => hf (.inr (.inr ⟨_, e⟩))
    unfold owIns at e1 e2
    by_cases a1 : i < n
    · rw [if_pos a1] at e1
      by_cases b1 : j < n
      · rw [if_pos b1] at e2; exact h.inj i j q e1 e2
      · rw [if_neg b1] at e2
        by_cases b2 : j = n
        · rw [if_pos b2] at e2; cases e2; exact (np e1).elim
        · rw [if_neg b2] at e2
          have := h.inj i (j - 1) q e1 e2
          omega
    · rw [if_neg a1] at e1
      by_cases a2 : i = n
      · rw [if_pos a2] at e1
        cases e1
        by_cases b1 : j < n
        · rw [if_pos b1] at e2; exact (np e2).elim
        · rw [if_neg b1] at e2
          by_cases b2 : j = n
          · omega
          · rw [if_neg b2] at e2; exact (np e2).elim
      · rw [if_neg a2] at e1
        by_cases b1 : j < n
        · rw [if_pos b1] at e2
          have := h.inj (i - 1) j q e1 e2
          omega
        · rw [if_neg b1] at e2
          by_cases b2 : j = n
          · rw [if_pos b2] at e2; cases e2; exact (np e1).elim
          · rw [if_neg b2] at e2
            have := h.inj (i - 1) (j - 1) q e1 e2
            omega
  · have hi : i < n := Nat.lt_of_lt_of_le (List.getElem?_eq_some_iff.mp e).1 hn
    have w : ∀ a, c.top.Nn (owIns ow n p) a → c.Nn ow a ∨ H a = none := fun a z => (Cf.topN.mp z).imp id fun z => by rw [z]; exact nn
    have z := h.sl i dv e
    cases dv with
    | v d =>
      obtain ⟨v, e2, r⟩ := z
      exact ⟨v, e2, (r.wide w).keepS hs⟩
    | own ds =>
      obtain ⟨q, xs, e2, e3, e4, r⟩ := z
      exact ⟨q, xs, e2, by rw [owIns_lt hi]; exact e3, hs _ _ e4, (Reps.wide w r).keepS hs⟩
    | opq n' => exact z
/-- it grows -/
theorem Stt.chgT {p : Addr} {n : Nat} {xs xs' : List V} (h : Stt K c ow ρ σ H s) (h0 : ∀ a, c.H0 a = none) (ho : ow n = some p) (hn : ρ.length ≤ n) (hp : H p = some (.lst xs)) : Stt K c ow ρ σ (upd H p (.lst xs')) s := by
  have kk : Keep (c.Mw ow) H (upd H p (.lst xs')) := Keep.at_ (.inr ⟨n, ho⟩) hp rfl
  obtain ⟨a1, a2, a3, a4⟩ := h.ows n p ho
  refine ⟨c.W.ext h.ok fun a o e m => ?_, ⟨fun a o e n t => (by rw [h0 a] at e; cases e), fun a e => absurd (h0 a) e⟩, fun a b => kk.al a (h.bl a b), fun j q e => ?_, h.inj, h.ln, fun j dv e => ?_⟩
  · have ne : a ≠ p := fun z => by
      subst z
      rcases m with m | m
      · exact a1 m
      · rw [hp] at e
        cases e
        cases m
    rw [upd_ne ne]
    exact e
  · obtain ⟨b1, b2, b3, b4⟩ := h.ows j q e
    exact ⟨b1, b2, kk.al q b3, b4⟩
  · have z := h.sl j dv e
    have hj : j < n := Nat.lt_of_lt_of_le (List.getElem?_eq_some_iff.mp e).1 hn
    cases dv with
    | v d =>
      obtain ⟨v, e1, r1⟩ := z
      exact ⟨v, e1, r1.keepW kk⟩
    | own ds1 =>
      obtain ⟨p', xs1, e1, e2, e3, r1⟩ := z
      have ne : p' ≠ p := fun z => by
        have := h.inj j n p (by rw [← z]; exact e2) ho
        omega
      exact ⟨p', xs1, e1, e2, by rw [upd_ne ne]; exact e3, Reps.keep (c.MwN ow) (fun _ z => z) kk _ _ r1⟩
    | opq n' => exact z
theorem lc2_run {g g1 : TG} {tgt tgt1 : D → En → Option En} {ts ts1 vs vs1 : List Nat} {mi : Mo S (List D)} {mi1 : D → Mo S (List D)} {me : D → D → Mo S D} (ht : TgOk K g tgt ts) (ht1 : TgOk K g1 tgt1 ts1) (hv : ∀ j ∈ ts, j ∈ vs) (hv1 : ∀ j ∈ ts1, j ∈ vs1)
    (hno : ∀ x, tgt x (wipeE ρ vs) = none → mi1 x = mBad) (hno1 : ∀ x ρ' y, tgt x (wipeE ρ vs) = some ρ' → tgt1 y (wipeE ρ' vs1) = none → me x y = mBad) (hlen : ∀ x ρ', tgt x (wipeE ρ vs) = some ρ' → ρ'.length = ρ.length)
    (T : Stt K c ow ρ σ H s) (q : ContF K c E ow H (mBnd mi (fun xs => mComp2 mi1 (fun x y => elt1 (me x y)) xs []) s) Q) : tLc2 (tI K c E ρ mi) g tYes (tiB K tgt (wipeE ρ vs) mi1) g1 tYes (teB2 K tgt tgt1 (wipeE ρ vs) vs1 me) vs vs1 σ H Q := by
  refine ⟨ow, s, T, ?_⟩
  unfold mBnd at q
  cases e : mi s with
  | ex C pl s1 => rw [e] at q; exact q
  | bad => rw [e] at q; exact q
  | ok ds s1 =>
    rw [e] at q
    intro J H1 k1 o1 D1 p n
    have T1 := T.move k1 o1
    have q1 : ContF K c E ow H1 (mComp2 mi1 (fun x y => elt1 (me x y)) ds [] s1) Q := ContF.move q k1
    have nM : ¬ c.W.M p := fun z => T1.fresh n (.inl z)
    have kN : Keep c.W.M H1 (upd H1 p (.lst [])) := Keep.same (same_new n)
    let N := ρ.length
    let ow' := owIns ow N p
    have hN : ow' N = some p := owIns_at
    have T0 : Stt K c.top ow' (wipeE ρ vs) (wipe σ vs) (upd H1 p (.lst [])) s1 := (T1.top n (Nat.le_refl _)).wiped vs
    refine ⟨fun i mm H => mm = ds.length - i ∧ i ≤ ds.length ∧ ∃ acc vacc s', Stt K c.top ow' (wipeE ρ vs) (wipe σ vs) H s' ∧ Keep c.W.M H1 H ∧ H p = some (.lst vacc) ∧ Reps K (c.top.Nn ow') H vacc acc ∧ ContF K c E ow H1 (mComp2 mi1 (fun x y => elt1 (me x y)) (ds.drop i) acc s') Q,
      ⟨ds.length, rfl, Nat.zero_le _, [], [], s1, T0, kN, upd_same, .nil, q1⟩, ?_⟩
    rintro i mm H ⟨rfl, hi, acc, vacc, s', T', k', hp, ra, q'⟩
    by_cases hlt : i < ds.length
    · have hd : ds[i]? = some ds[i] := List.getElem?_eq_getElem hlt
      rw [List.drop_eq_getElem_cons hlt] at q'
      refine .inr ⟨D1.go i H (k'.mono fun _ z => .inl z) hlt, fun H' => ∃ acc vacc s', Stt K c.top ow' (wipeE ρ vs) (wipe σ vs) H' s' ∧ Keep c.W.M H1 H' ∧ H' p = some (.lst vacc) ∧ Reps K (c.top.Nn ow') H' vacc acc ∧ ContF K c E ow H1 (mComp2 mi1 (fun x y => elt1 (me x y)) (ds.drop (i + 1)) acc s') Q,
        fun H' z => ⟨ds.length - (i + 1), by omega, rfl, hlt, z⟩, fun x H' y => ?_⟩
      obtain ⟨sm, rp⟩ := D1.yl i H x H' (k'.mono fun _ z => .inl z) y
      have T2 := T'.move (.same sm) (c.W.same T'.ok sm)
      have rx : Rep K (c.top.Nn ow') H' x ds[i] := rp _ hd _ fun a z => (Cf.topN.mp z).imp id fun z => by rw [z]; exact n
      have q' : ContF K c E ow H1 (mBnd (mNxL (mi1 ds[i])) (fun ys => mBnd (mComp (fun y => elt1 (me ds[i] y)) ys acc) fun acc' => mComp2 mi1 (fun x y => elt1 (me x y)) (ds.drop (i + 1)) acc') s') Q := q'
      cases et : tgt ds[i] (wipeE ρ vs) with
      | none =>
        rw [hno _ et] at q'
        exact q'.elim
      | some ρ' =>
        refine ht T2 rx et fun σ2 T3 hl hs => ⟨wipe_same hl hs hv, ?_⟩
        show tiB K tgt (wipeE ρ vs) mi1 σ2 H' _
        refine ⟨c.top, ds[i], ρ', et, ow', s', T3, ?_⟩
        cases ei : mi1 ds[i] s' with
        | ex C pl s2 => unfold mBnd mNxL at q'; rw [ei] at q'; exact q'.elim
        | bad => unfold mBnd mNxL at q'; rw [ei] at q'; exact q'.elim
        | ok ys s2 =>
          have q2 : ContF K c E ow H1 (mBnd (mComp (fun y => elt1 (me ds[i] y)) ys acc) (fun acc' => mComp2 mi1 (fun x y => elt1 (me x y)) (ds.drop (i + 1)) acc') s2) Q := by
            unfold mBnd mNxL at q'
            rw [ei] at q'
            exact q'
          intro J1 H4 k4 o4 E1
          have hp4 : H4 p = some (.lst vacc) := k4.st p _ (sm _ _ hp) (.inl nM) rfl
          have k14 : Keep c.W.M H1 H4 := (k'.trans (.same sm)).trans k4
          have To := T2.move k4 o4
          have Ti := (T3.move k4 o4).wiped vs1
          have ra4 : Reps K (c.top.Nn ow') H4 vacc acc := (Reps.keepS ra sm).keepM (c := c.top) k4
          refine ⟨fun j kk H => kk = ys.length - j ∧ j ≤ ys.length ∧ ∃ acc vacc s', Stt K c.top ow' (wipeE ρ vs) (wipe σ vs) H s' ∧ Stt K c.top ow' (wipeE ρ' vs1) (wipe σ2 vs1) H s' ∧ Keep c.W.M H1 H ∧ Keep (c.top.Mw ow') H4 H ∧ H p = some (.lst vacc) ∧ Reps K (c.top.Nn ow') H vacc acc ∧
              ContF K c E ow H1 (mBnd (mComp (fun y => elt1 (me ds[i] y)) (ys.drop j) acc) (fun acc' => mComp2 mi1 (fun x y => elt1 (me x y)) (ds.drop (i + 1)) acc') s') Q, ⟨ys.length, rfl, Nat.zero_le _, acc, vacc, s2, To, Ti, k14, .refl, hp4, ra4, q2⟩, ?_⟩
          rintro j kk H5 ⟨rfl, hj, acc5, vacc5, s5, To5, Ti5, k5, k45, hp5, ra5, q5⟩
          by_cases hjl : j < ys.length
          · have hdj : ys[j]? = some ys[j] := List.getElem?_eq_getElem hjl
            rw [List.drop_eq_getElem_cons hjl] at q5
            refine .inr ⟨E1.go j H5 k45 hjl, fun H' => ∃ acc vacc s', Stt K c.top ow' (wipeE ρ vs) (wipe σ vs) H' s' ∧ Stt K c.top ow' (wipeE ρ' vs1) (wipe σ2 vs1) H' s' ∧ Keep c.W.M H1 H' ∧ Keep (c.top.Mw ow') H4 H' ∧ H' p = some (.lst vacc) ∧ Reps K (c.top.Nn ow') H' vacc acc ∧
              ContF K c E ow H1 (mBnd (mComp (fun y => elt1 (me ds[i] y)) (ys.drop (j + 1)) acc) (fun acc' => mComp2 mi1 (fun x y => elt1 (me x y)) (ds.drop (i + 1)) acc') s') Q, fun H' z => ⟨ys.length - (j + 1), by omega, rfl, hjl, z⟩, fun x1 H6 y1 => ?_⟩
            obtain ⟨sm6, rp6⟩ := E1.yl j H5 x1 H6 k45 y1
            have To6 := To5.move (.same sm6) (c.W.same To5.ok sm6)
            have Ti6 := Ti5.move (.same sm6) (c.W.same Ti5.ok sm6)
            have rx6 : Rep K (c.top.Nn ow') H6 x1 ys[j] := rp6 _ hdj _ fun a z => .inl z
            have q6 : ContF K c E ow H1 (mBnd (mBnd (mNx (elt1 (me ds[i] ys[j]))) (fun o => match o with
              | none => mComp (fun y => elt1 (me ds[i] y)) (ys.drop (j + 1)) acc5
              | some y => if acc5.length < sizeLine then mComp (fun y => elt1 (me ds[i] y)) (ys.drop (j + 1)) (acc5 ++ [y]) else mBad)) (fun acc' => mComp2 mi1 (fun x y => elt1 (me x y)) (ds.drop (i + 1)) acc') s5) Q := q5
            cases et1 : tgt1 ys[j] (wipeE ρ' vs1) with
            | none =>
              rw [hno1 _ _ _ et et1] at q6
              exact q6.elim
            | some ρ'' =>
              refine ht1 Ti6 rx6 et1 fun σ3 T7 hl1 hs1 => ⟨wipe_same hl1 hs1 hv1, ?_⟩
              show teB2 K tgt tgt1 (wipeE ρ vs) vs1 me σ3 H6 _
              refine ⟨c.top, ds[i], ys[j], ρ', ρ'', et, et1, ow', s5, T7, ?_⟩
              cases ef : me ds[i] ys[j] s5 with
              | ex C pl s6 => unfold mBnd mNx elt1 mBnd at q6; rw [ef] at q6; exact q6.elim
              | bad => unfold mBnd mNx elt1 mBnd at q6; rw [ef] at q6; exact q6.elim
              | ok d s6 =>
                have q7 : ContF K c E ow H1 (mBnd (if acc5.length < sizeLine then mComp (fun y => elt1 (me ds[i] y)) (ys.drop (j + 1)) (acc5 ++ [d]) else mBad) (fun acc' => mComp2 mi1 (fun x y => elt1 (me x y)) (ds.drop (i + 1)) acc') s6) Q := by
                  unfold mBnd mNx elt1 mBnd at q6
                  rw [ef] at q6
                  exact q6
                intro v H7 k7 o7 r7
                have hp7 : H7 p = some (.lst vacc5) := k7.st p _ (sm6 _ _ hp5) (.inl nM) rfl
                by_cases hz : acc5.length < sizeLine
                · rw [if_pos hz] at q7
                  have To7 := To6.move k7 o7
                  have Ti7 := Ti6.move k7 o7
                  have r8 : Reps K (c.top.Nn ow') H7 vacc5 acc5 := (Reps.keepS ra5 sm6).keepM (c := c.top) k7
                  have kk : Keep (c.top.Mw ow') H7 (upd H7 p (.lst (vacc5 ++ [v]))) := Keep.at_ (.inr ⟨N, hN⟩) hp7 rfl
                  refine ⟨vacc5, hp7, by rw [ra5.len]; exact hz, acc5 ++ [d], vacc5 ++ [v], s6, To7.chgT (n := N) (fun _ => rfl) hN (by rw [wipeE_length]; exact Nat.le_refl _) hp7, Ti7.chgT (n := N) (fun _ => rfl) hN (by rw [wipeE_length, hlen _ _ et]; exact Nat.le_refl _) hp7, ?_, ?_, upd_same, ?_, q7⟩
                  · exact Keep.over ((k5.trans (.same sm6)).trans k7) n
                  · exact ((k45.trans (.same sm6)).trans (k7.mono fun _ z => .inl z)).trans kk
                  · exact Reps.keep (c.top.MwN ow') (fun _ z => z) kk _ _ (r8.app (.cons r7.val .nil))
                · rw [if_neg hz] at q7
                  exact q7.elim
          · have hj' : j = ys.length := by omega
            subst hj'
            rw [List.drop_length] at q5
            exact .inl ⟨E1.st _ H5 k45 (Nat.le_refl _), acc5, vacc5, s5, To5, k5, hp5, ra5, q5⟩
    · have hi' : i = ds.length := by omega
      subst hi'
      rw [List.drop_length] at q'
      have q' : ∀ p xs H', H1 p = none → Keep c.W.M H1 H' → c.W.ok s' H' → H' p = some (.lst xs) → Reps K (fun a => c.Nn ow a ∨ a = p) H' xs acc → Q (.ref p) H' := q'
      exact .inl ⟨D1.st _ H (k'.mono fun _ z => .inl z) (Nat.le_refl _), q' p vacc H n k' T'.ok hp (ra.sub fun a z => Cf.topN.mpr z)⟩
/-- [elt for tg in it for tg1 in it1] -/
theorem jf_lc2 {elt tg tg1 it it1 : Expr} {scope : Scope} {own : List (Str × Nat)} {vs1 : List Nat} {pos : Pos} {g g1 : TG} {tgt tgt1 : D → En → Option En} {ts ts1 : List Nat} {mi : Mo S (List D)} {mi1 : D → Mo S (List D)} {me : D → D → Mo S D} (hc : X.calm = true) (nd : X.N.Nodup) (hi : JI X c E ρ tg it mi)
    (ok : BlkOk X.N X.env.scope scope own) (hvo : ∀ i ∈ vs1, i ∈ own.map (·.2)) (hg : ∀ (s : Shared) (H : Hp) (C : Addr) (cl : List (Str × Addr)) (fp : List Addr), PG (bk X scope s H C cl fp) tg g) (ht : TgOk X.K g tgt ts) (hv : ∀ j ∈ ts, j ∈ own.map (·.2))
    (hg1 : ∀ (s : Shared) (H : Hp) (C : Addr) (cl : List (Str × Addr)) (fp : List Addr), PG (bk X scope s H C cl fp) tg1 g1) (ht1 : TgOk X.K g1 tgt1 ts1) (hv1 : ∀ j ∈ ts1, j ∈ vs1)
    (hno : ∀ x, tgt x (wipeE ρ (own.map (·.2))) = none → mi1 x = mBad) (hno1 : ∀ x ρ' y, tgt x (wipeE ρ (own.map (·.2))) = some ρ' → tgt1 y (wipeE ρ' vs1) = none → me x y = mBad) (hlen : ∀ x ρ', tgt x (wipeE ρ (own.map (·.2))) = some ρ' → ρ'.length = ρ.length)
    (hi1 : ∀ (s : Shared) (H : Hp) (C : Addr) (cl : List (Str × Addr)) (fp : List Addr) (c' : Cf S) (x : D) (ρ' : En), tgt x (wipeE ρ (own.map (·.2))) = some ρ' → JI (bk X scope s H C cl fp) c' E0 ρ' tg1 it1 (mi1 x))
    (he : ∀ (s : Shared) (H : Hp) (C : Addr) (cl : List (Str × Addr)) (fp : List Addr) (c' : Cf S) (x y : D) (ρ' ρ'' : En), tgt x (wipeE ρ (own.map (·.2))) = some ρ' → tgt1 y (wipeE ρ' vs1) = some ρ'' → JE false (bk X scope s H C cl fp) c' E0 ρ'' elt (me x y))
    (hs : ∀ x, foldedSetIterable it X.env x = pure x := by intro _; rfl) (hs1 : ∀ env x, foldedSetIterable it1 env x = pure x := by intro _ _; rfl) :
    JF X c E ρ (.ListComp elt [⟨tg, it, [], 0⟩, ⟨tg1, it1, [], 0⟩] scope pos) (mBnd mi fun xs => mComp2 mi1 (fun x y => elt1 (me x y)) xs []) :=
  JF.of (pe_lc2 (wi1 := tiB X.K tgt (wipeE ρ (own.map (·.2))) mi1) (te := teB2 X.K tgt tgt1 (wipeE ρ (own.map (·.2))) vs1 me) hc nd hi ok hvo hg (fun _ _ _ _ _ => pts_nil) (fun s H C cl fp => ⟨fun pins s' σ H' R I ⟨c', x, ρ', z, q⟩ => (hi1 s H C cl fp c' x ρ' z).run pins s' σ H' R I q⟩) hg1 (fun _ _ _ _ _ => pts_nil)
    (fun s H C cl fp => ⟨fun pins s' σ H' Q I ⟨c', x, y, ρ', ρ'', z, z1, q⟩ => (he s H C cl fp c' x y ρ' ρ'' z z1).run pins s' σ H' Q I q⟩) hs hs1) fun σ H Q ⟨ow, s, T, q⟩ => lc2_run ht ht1 hv hv1 hno hno1 hlen T q
/-- f(k = v, ..) -/
theorem je_callK0 {k : Nat} {f : Addr} {fd : FuncData} {ps ks : List Str} {mf : List D → Mo S D} {x : Str} {kws : List Keyword} {ns : List (Mo S D)} {ix : List Nat} {p pos : Pos} (G : Gn X.prog X.w X.K X.mg X.base k f fd ps (spD X.K (allN ix.length) mf)) (O : Xok X E k)
    (gl : Gl X x) (hm : X.mg x = some (.ref f)) (hk : PySem.W.keepIn X.K (.ref f) = true) (hb : BindsK X.K fd ps ks 0 ix) (h2 : JK X c E ρ kws ns) (hn : ns.length = ks.length := by rfl)
    (hall : (backToKw pos (keywordEach kws X.env)).all (·.1.isSome) = true := by rfl) (hks : (backToKw pos (keywordEach kws X.env)).filterMap (·.1) = ks := by rfl) (hdb : (x == ("__debug__" : Str)) = false := by decide)
    (hpl : ((backTo pos (starEach [] X.env)).any (·.1) || (backToKw pos (keywordEach kws X.env)).any (·.1.isNone)) = false := by rfl) :
    JE b X c E ρ (.Call (.Name x p) [] kws pos) (mBnd (mAll ns) fun zs => mf (pickD ix zs)) := by
  have P : PE X (.Call (.Name x p) [] kws pos) (fun σ H Q => tAs false X.K c E ρ ns σ H fun ws H2 => ws.length = ns.length ∧ spD X.K (allN ix.length) mf (pickV ix ws) H2 Q E) := by
    refine ⟨fun pins s σ H Q I q => ?_⟩
    refine wpAny_Call_Name_kw (ld_glob I gl hm ?_ hdb)
    refine PySem.W.callWith_KW0 (h₀ := X.base) I.ok.mod.kin hk hall (thn (h2.pk.run pos pins s σ H _ I q) fun ws s2 z => ?_) hpl
    obtain ⟨zs, H2, I2, r2, l2, q2⟩ := z
    refine ⟨I2.kIn, ?_⟩
    rw [hks]
    have hb' := hb s2 [] ws I2.kIn rfl (by rw [← r2.length, l2, hn])
    rw [List.nil_append] at hb'
    exact run_gn (args := ⟨[], ks.zip ws⟩) (ws := []) (ks := []) G O I2 (Vals.pick r2 ix) hb' q2
  have hz : mBnd (mAll ns) (fun zs => mf (pickD ix zs)) = mBnd (mAll ([] : List (Mo S D))) fun ds => mBnd (mAll ns) fun zs => mf (pickD ix (ds ++ zs)) := rfl
  refine JE.of P fun σ H Q ⟨ow, s, T, q⟩ => ?_
  rw [hz] at q
  refine all_at2 (ms := []) (f := fun ds => mf (pickD ix ds)) (R := fun vs ws H2 => ws.length = ns.length ∧ spD X.K (allN ix.length) mf (pickV ix ws) H2 Q E) T q fun ds s2 vs ws H2 k2 T2 r2 l1 l2 q2 => ⟨l2, ?_⟩
  have e0 : vs = [] := List.eq_nil_of_length_eq_zero l1
  subst e0
  rw [List.nil_append] at r2
  have r3 := Agr.of_reps (W := c.W) (r2.pick ix)
  have el : (pickD ix ds).length = ix.length := by simp [pickD]
  rw [el] at r3
  exact sp_of T2 r3 q2
end
end Cz
set_option Elab.async false
set_option linter.all false
set_option maxRecDepth 100000
set_option maxHeartbeats 4000000
/-! The law's call, for a def that keeps its promise where no repr runs (Gn). -/
namespace Cz
open PySem PySem.Spec PyProof.Rows L2
section
variable {P : Program} {w : World} {K : PySem.W.Frag} {mg mb : Str → Option Value} {k : Nat} {fa a : Addr} {fd : FuncData} {x : Str} {sp : Sp} {s1 : Shared} {vs : List Value} {ns : List Int}
/-- what the call is to reach -/
abbrev Done (s1 : Shared) : Result → Shared → Prop := fun r s' => r = .ok (.ret (.bool true)) ∧ OldK s1.heap s'.heap ∧ s'.os = s1.os ∧ AllBare s'.gens
/-- from a heap where at most the script is tracked -/
theorem callG_core {H : Hp} (KX : K.In s1.heap) (hns : s1.heap.Ns mainGlobals mg) (hb : s1.heap.Ns builtinsNs mb) (hbb : ∀ x : Str, x ≠ "__name__" → mb x = bootBuiltins x) (hlim : s1.heap.NoLimit) (hg : s1.gens = #[])
    (ha : s1.heap.get? a = some { cls := .type "list", data := .seq vs.toArray }) (hr : Room k callerA) (F : ∀ base : Heap, K.In base → base.Ns mainGlobals mg → Gn P w K mg base k fa fd [x] sp) (hbind : ∀ (s : Shared) (u : Value), BindsTo s fd ⟨[u], []⟩ [(x, u)])
    (hsp : sp [.ref a] H (fun v _ => v = .bl true) fun _ _ _ => False) (hO : Only H) (hok : HOk P w H s1.heap) (hA : ∀ b, H b ≠ none → b = a) (hK : H a ≠ none → K.lookup a = none) : codeAny (model P w) callerA (.call (.ref fa) ⟨[.ref a], []⟩) (Done s1) s1 := by
  have un1 : ∀ {b : Addr} {o : Obj}, s1.heap.get? b = some o → (b = a → H b = none) → (hidT s1.heap H).get? b = some o := fun {b o} e z => hidT_get e (by
    by_cases hba : b = a
    · exact z hba
    · exact Classical.byContradiction fun n => hba (hA b n))
  have nsH : ∀ {b : Addr} {m : Str → Option Value}, s1.heap.Ns b m → (hidT s1.heap H).Ns b m := fun {b m} q => by
    obtain ⟨o, es, ep, e, d, r⟩ := q
    refine ⟨o, es, ep, un1 e fun hba => ?_, d, r⟩
    rw [hba, ha] at e
    have e2 := congrArg Obj.data (Option.some.inj e)
    rw [d] at e2
    cases e2
  have inH : K.In (hidT s1.heap H) := fun b o e => un1 (KX b o e) fun hba => Classical.byContradiction fun n => by
    rw [hba] at n e
    rw [hK n] at e
    cases e
  obtain ⟨mc, l1, l2⟩ := hlim
  have env : Env0 P w K mg (hidT s1.heap H) callerA [] s1 H := ⟨rfl, ⟨inH, nsH hns, ⟨mb, nsH hb, hbb⟩, ⟨mc, nsH l1, l2⟩⟩, fun _ _ e => of_hidT e, Nat.le_of_eq (hidT_size _ _), trivial, fun b z => (by cases (show b ∈ ([] : List Addr) from z)), hok, .of_eq hg⟩
  refine codeAny_mono ((F _ inH (nsH hns)).run callerA [] s1 H ⟨[.ref a], []⟩ [.ref a] [.ref a] _ _ hr rfl env (hbind s1 (.ref a)) (.cons rfl .nil) hsp) fun r s' z => ?_
  match r, z with
  | .error e, ⟨_, _, _, _, _, _, _, _, _, _, _, _, hE⟩ => exact False.elim hE
  | .ok .next, z => exact False.elim z
  | .ok .brk, z => exact False.elim z
  | .ok .cont, z => exact False.elim z
  | .ok (.ret u), ⟨v, H2, os, bare, un, ok2, rv, q⟩ =>
    have q : v = .bl true := q
    rw [q] at rv
    have rv : u = Value.bool true := rv
    subst rv
    refine ⟨rfl, OldK.of_keep fun b o e => ?_, os, bare⟩
    rcases hO b with z | ⟨ob, xs, z⟩
    · exact un.keep b o e z (fun y => by cases (show b ∈ ([] : List Addr) from y)) (by simp)
    · have h1 := (hok b _ z).1
      have h2 := (ok2 b _ (un.frzs b ob _ z)).1
      rw [e] at h1
      rw [h1]
      exact h2
theorem callG (KX : K.In s1.heap) (hns : s1.heap.Ns mainGlobals mg) (hb : s1.heap.Ns builtinsNs mb) (hbb : ∀ x : Str, x ≠ "__name__" → mb x = bootBuiltins x) (hlim : s1.heap.NoLimit) (hg : s1.gens = #[])
    (ha : s1.heap.get? a = some { cls := .type "list", data := .seq vs.toArray }) (hi : IntsAre vs ns) (hl : ns.length ≤ sizeLine) (hr : Room k callerA) (F : ∀ base : Heap, K.In base → base.Ns mainGlobals mg → Gn P w K mg base k fa fd [x] sp) (hbind : ∀ (s : Shared) (u : Value), BindsTo s fd ⟨[u], []⟩ [(x, u)])
    (hsp : ∀ H : Hp, Only H → SqL K H a (ns.map V.int) → sp [.ref a] H (fun v _ => v = .bl true) fun _ _ _ => False) : codeAny (model P w) callerA (.call (.ref fa) ⟨[.ref a], []⟩) (Done s1) s1 := by
  have rv := vals_ints hi
  have nl : (ns.map V.int).length ≤ sizeLine := by rw [List.length_map]; exact hl
  cases hk : K.lookup a with
  | some o =>
    have e := KX a o hk
    rw [ha] at e
    have e := Option.some.inj e
    subst e
    have lenV := hi.length
    have only : Only (fun _ => none) := fun _ => .inl rfl
    refine callG_core KX hns hb hbb hlim hg ha hr F hbind (hsp (fun _ => none) only (.inr ⟨_, vs.toArray, _, hk, rfl, rfl, rfl, by rw [List.size_toArray, lenV]; exact hl, by simpa using rv⟩)) only (fun b u z => nomatch z) (fun b z => absurd rfl z) fun z => absurd rfl z
  | none =>
    let H : Hp := upd (fun _ => none) a (.frz { cls := .type "list", data := .seq vs.toArray } (.lst (ns.map V.int)))
    have other : ∀ b, b ≠ a → H b = none := fun b n => upd_ne n
    have only : Only H := fun b => by
      by_cases n : b = a
      · rw [n]; exact .inr ⟨_, _, upd_same⟩
      · exact .inl (other b n)
    refine callG_core KX hns hb hbb hlim hg ha hr F hbind (hsp H only (.inl (.inr ⟨_, upd_same⟩))) only (fun b u z => ?_) (fun b z => Classical.byContradiction fun n => z (other b n)) fun _ => hk
    by_cases n : b = a
    · subst n
      rw [show H b = _ from upd_same] at z
      have z := Option.some.inj z
      subst z
      exact ⟨ha, nl, vs, _, rv, ha⟩
    · rw [other b n] at z; cases z
end
/-- the goal that the head leaves -/
theorem walkG {l : PySem.W.OpenLaw} {n k : Nat} {q : Program} {loose : List Str} {XP : (Str → Option Value) → Heap → Prop} {YP : World → Heap → Prop} {d : DefRec} {x : Str} (hn : l.most = some n) (hn2 : n ≤ sizeLine) (hdf : d.params.defaults = []) (hr : Room k callerA)
    (F : ∀ (w : World) (mg : Str → Option Value) (fa : Addr) (h : Heap), YP w h → h.Ns mainGlobals mg → mg d.name = some (.ref fa) → ∃ (K : PySem.W.Frag) (fd : FuncData) (sp : Sp), K.In h ∧ (∀ (s : Shared) (u : Value), BindsTo s fd ⟨[u], []⟩ [(x, u)]) ∧
      (∀ (H : Hp) (a : Addr) (ns : List Int), ns.length ≤ n → (∀ z ∈ ns, Builtin.Int.intBits z ≤ 1048576) → Only H → SqL K H a (ns.map V.int) → sp [.ref a] H (fun v _ => v = .bl true) fun _ _ _ => False) ∧
      ∀ base : Heap, K.In base → base.Ns mainGlobals mg → Gn l.prog w K mg base k fa fd [x] sp) : PySem.W.WalkO q loose XP YP l.row.toRowW d [] (fun f vs => PySem.call f vs) := by
  refine Att.attach_callB hn hdf fun w s0 s1 mg mb fa o pm cd doc a vs ns G Y ho hd hcd hmg hobj hint hlen hbits hg => ?_
  obtain ⟨K, fd, sp, KX, hb, hsp, hF⟩ := F w mg fa _ Y G.T.g hmg
  exact callG KX G.T.g G.T.b G.T.builtins G.T.nolimit hg hobj hint (Nat.le_trans hlen hn2) hr hF hb fun H hO hS => hsp H a ns hlen hbits hO hS
end Cz
set_option Elab.async false
set_option linter.all false
set_option maxRecDepth 100000
set_option maxHeartbeats 4000000
/-! The law's deck: a dict of a list, a mixed number, a count. -/
namespace Cz
open PySem PySem.Spec PyProof.Rows L2
structure Dk (kn : Str) where
  left : List Int
  mixed : Int
  draws : Int
def kvsOf {kn : Str} (l : Addr) (s : Dk kn) : List (Key × V) := [(.inr kn, .ref l), (.inr "mixed", .int s.mixed), (.inr "draws", .int s.draws)]
def wdk (kn : Str) (p l : Addr) : Wd (Dk kn) where
  M := fun a => a = p ∨ a = l
  ok := fun s H => p ≠ l ∧ H p = some (.dK (kvsOf l s)) ∧ H l = some (.lst (s.left.map V.int))
  nm := fun n => if n = 0 then some p else none
  live := fun {s H a} h m => by
    rcases m with m | m
    · rw [m, h.2.1]; exact Option.some_ne_none _
    · rw [m, h.2.2]; exact Option.some_ne_none _
  ext := fun {s H H'} h k => ⟨h.1, k p _ h.2.1 (.inl (.inl rfl)), k l _ h.2.2 (.inl (.inr rfl))⟩
instance (kn : Str) : WCl (Dk kn) := ⟨fun W => ∃ p l, W = wdk kn p l⟩
section
variable {kn : Str} {α : Type} {b : Bool} {X : Cx} {K : PySem.W.Frag} {c : Cf (Dk kn)} {E : XK} {ρ : En} {ρf : α → En} {e e1 e2 : Expr} {m : Mo (Dk kn) D} {ow : Ows} {σ : L2.St} {H H1 : Hp} {s : Dk kn} {Q : VK} {Dn : Ends} {rest : List Stmt}
/-- the deck, at its slot -/
theorem dk_at {i : Nat} (T : Stt K c ow ρ σ H s) (hρ : ρ[i]? = some (some (.opq 0))) : ∃ p l, c.W = wdk kn p l ∧ σ[i]? = some (some (.ref p)) ∧ p ≠ l ∧ H p = some (.dK (kvsOf l s)) ∧ H l = some (.lst (s.left.map V.int)) := by
  obtain ⟨p, l, hW⟩ := c.hW
  obtain ⟨a, e1, e2⟩ := T.sl i _ hρ
  have ok := T.ok
  rw [hW] at ok e2
  have e3 : some p = some a := e2
  cases e3
  exact ⟨p, l, hW, join_some e1, ok.1, ok.2.1, ok.2.2⟩
theorem keep_p {p l : Addr} (hW : c.W = wdk kn p l) {u o : HO} (hp : H p = some u) (f : fixd u = false) : Keep c.W.M H (upd H p o) := Keep.at_ (by rw [hW]; exact .inl rfl) hp f
theorem keep_l {p l : Addr} (hW : c.W = wdk kn p l) {u o : HO} (hp : H l = some u) (f : fixd u = false) : Keep c.W.M H (upd H l o) := Keep.at_ (by rw [hW]; exact .inr rfl) hp f
/-- how the deck's text looks: deck['k'] -/
theorem pe_dk {i : Nat} {x k : Str} {xp cp pos : Pos} {j : Nat} (hu : X.A.units + 64 < cLine) (hN : X.N[i]? = some x) (hv : Vis X.env.scope x) (hd : (x == ("__debug__" : Str)) = false) (hcd : (x == ("__classdict__" : Str)) = false) :
    PE X (.Subscript (.Name x xp) (.Constant (.str k) j cp) pos) (tDGet (tVar i) (tC (.str k))) := pe_dget (by omega) (pe_var hN hv hd hcd) pe_str (fun _ _ => rfl)
theorem val_k {l : Addr} (h1 : kn ≠ "mixed") (h2 : kn ≠ "draws") : valV (kvsOf l s) (.inr kn) = some (.ref l) ∧ valV (kvsOf l s) (.inr "mixed") = some (.int s.mixed) ∧ valV (kvsOf l s) (.inr "draws") = some (.int s.draws) := by
  unfold kvsOf
  refine ⟨valV_pos rfl, ?_, ?_⟩
  · rw [valV_neg (by intro z; exact h1 (Sum.inr.inj z))]
    exact valV_pos rfl
  · rw [valV_neg (by intro z; exact h2 (Sum.inr.inj z)), valV_neg (by intro z; exact absurd (Sum.inr.inj z) (by decide))]
    exact valV_pos rfl
/-- deck['mixed'], deck['draws'] -/
theorem je_dk (i : Nat) {x k : Str} {xp cp pos : Pos} {j : Nat} (f : Dk kn → Int) (hk : (k = "mixed" ∧ f = fun s => s.mixed) ∨ (k = "draws" ∧ f = fun s => s.draws)) (h1 : kn ≠ "mixed") (h2 : kn ≠ "draws") (hu : X.A.units + 64 < cLine) (hρ : ρ[i]? = some (some (.opq 0)))
    (hN : X.N[i]? = some x := by rfl) (hv : Vis X.env.scope x := by first | exact .inl rfl | exact .inr (.inl rfl) | exact .inr (.inr rfl)) (hd : (x == ("__debug__" : Str)) = false := by decide) (hcd : (x == ("__classdict__" : Str)) = false := by decide) :
    JE b X c E ρ (.Subscript (.Name x xp) (.Constant (.str k) j cp) pos) (fun s => .ok (.int (f s)) s) :=
  JE.of (pe_dk hu hN hv hd hcd) fun σ H Q ⟨ow, s, T, q⟩ => by
    obtain ⟨p, l, hW, e1, ne, hp, hl⟩ := dk_at T hρ
    have q : ∀ v H', Keep c.W.M H H' → c.W.ok s H' → RepX b X.K c ow H' v (.int (f s)) → Q v H' := q
    refine ⟨_, e1, p, .int (f s), rfl, ?_, q _ H .refl T.ok (.inl (.int _))⟩
    obtain ⟨_, v1, v2⟩ := val_k (l := l) (s := s) h1 h2
    rcases hk with ⟨rfl, rfl⟩ | ⟨rfl, rfl⟩
    · have g := DGet.k (k := .inr "mixed") hp
      rw [v1] at g
      exact g
    · have g := DGet.k (k := .inr "draws") hp
      rw [v2] at g
      exact g
def mUpd {S : Type} (f : S → S) : Mo S Unit := fun s => .ok () (f s)
/-- deck['draws'] = e -/
theorem bs_dkset (i : Nat) {x : Str} {xp cp tp pos : Pos} {j : Nat} {k : Mo (Dk kn) (Fl α)} (h1 : kn ≠ "mixed") (h2 : kn ≠ "draws") (hu : X.A.units + 64 < cLine) (hρ : ρ[i]? = some (some (.opq 0))) (he : JE false X c E ρ e m) (hr : JSs X c E ρf ρ rest k)
    (hs : swapsWith e (some (.Subscript (.Name x xp) (.Constant (.str "draws") j cp) tp)) pos.line X.env = pure false := by rfl)
    (hN : X.N[i]? = some x := by rfl) (hv : Vis X.env.scope x := by first | exact .inl rfl | exact .inr (.inl rfl) | exact .inr (.inr rfl)) (hd : (x == ("__debug__" : Str)) = false := by decide) (hcd : (x == ("__classdict__" : Str)) = false := by decide) :
    JSs X c E ρf ρ (.Assign [.Subscript (.Name x xp) (.Constant (.str "draws") j cp) tp] e pos :: rest) (mBnd m fun d => mBnd (mInt d) fun n => mBnd (mUpd fun s => { s with draws := n }) fun _ => k) :=
  JSs.of (pss_cons (ps_dput (by omega) (pe_var hN hv hd hcd) pe_str he hs) hr) fun Dn σ H ⟨ow, s, T, q⟩ => bndS_at (b := false) T q fun d s1 v H1 k1 T1 r q1 => by
    cases d with
    | int n =>
      have q1 : ContS X.K c E ρf ow H1 (k { s1 with draws := n }) Dn := q1
      obtain ⟨p, l, hW, e1, ne, hp, hl⟩ := dk_at T1 hρ
      refine ⟨_, e1, p, _, rfl, DPut.k (k := .inr "draws") hp (by show 3 < sizeLine; decide), ?_⟩
      have e2 : putK (kvsOf l s1) (.inr "draws") v = kvsOf (kn := kn) l { s1 with draws := n } := by
        rw [r.int]
        unfold kvsOf putK
        have a1 : ¬ (Sum.inr kn : Key) = .inr "draws" := fun z => h2 (Sum.inr.inj z)
        have a2 : ¬ (Sum.inr "mixed" : Key) = .inr "draws" := fun z => absurd (Sum.inr.inj z) (by decide)
        simp [a1, a2]
      rw [e2]
      have kk := keep_p hW (o := .dK (kvsOf (kn := kn) l { s1 with draws := n })) hp rfl
      have ok2 : c.W.ok { s1 with draws := n } (upd H1 p (.dK (kvsOf (kn := kn) l { s1 with draws := n }))) := by
        rw [hW]
        exact ⟨ne, upd_same, by rw [upd_ne (Ne.symm ne)]; exact hl⟩
      exact ⟨ow, _, T1.move kk ok2, ContS.move q1 (.of kk)⟩
    | _ => exact q1.elim
/-- deck['left'] != [] -/
theorem jt_dkne (i : Nat) {x : Str} {xp cp pos lp pos2 : Pos} {j : Nat} (h1 : kn ≠ "mixed") (h2 : kn ≠ "draws") (hu : X.A.units + 64 < cLine) (hρ : ρ[i]? = some (some (.opq 0))) (hm : behindInMarks .NotEq (.List [] lp) = false := by rfl)
    (hN : X.N[i]? = some x := by rfl) (hv : Vis X.env.scope x := by first | exact .inl rfl | exact .inr (.inl rfl) | exact .inr (.inr rfl)) (hd : (x == ("__debug__" : Str)) = false := by decide) (hcd : (x == ("__classdict__" : Str)) = false := by decide) :
    JT X c E ρ (.Compare (.Subscript (.Name x xp) (.Constant (.str kn) j cp) pos) [.NotEq] [.List [] lp] pos2) (fun s => .ok (!s.left.isEmpty) s) :=
  JT.of (pt_cmpR (op_neD hu) (pe_dk hu hN hv hd hcd) (pe_lst pa_nil) hm) fun σ H Q ⟨ow, s, T, q⟩ => by
    obtain ⟨p, l, hW, e1, ne, hp, hl⟩ := dk_at T hρ
    have q : ∀ H', Keep c.W.M H H' → c.W.ok s H' → Q (!s.left.isEmpty) H' := q
    have g := DGet.k (k := .inr kn) hp
    rw [(val_k (l := l) (s := s) h1 h2).1] at g
    refine ⟨_, e1, p, .ref l, rfl, g, by decide, fun p2 n => ?_⟩
    have hl2 : upd H p2 (.lst []) l = some (.lst (s.left.map V.int)) := same_new n _ _ hl
    have dpi : ∀ ns : List Int, DpAll X.K (upd H p2 (.lst [])) (ns.map V.int) (ns.map .int) := fun ns => by
      induction ns with
      | nil => exact .nil
      | cons a as ih => exact .cons (.int a) ih
    have cl : ∀ ns : List Int, PyData.canLayAll0 (ns.map PyData.int) = true ∧ PyData.depthAll (ns.map PyData.int) = 0 := fun ns => by
      induction ns with
      | nil => exact ⟨rfl, rfl⟩
      | cons a as ih => exact ⟨by simp [PyData.canLayAll0, PyData.canLay0, ih.1], by simp [PyData.depthAll, PyData.depth, ih.2]⟩
    refine ⟨.list (s.left.map .int), .list [], .lst (SqL.of hl2) (dpi _), .lst (SqL.of upd_same) .nil, ?_, by decide, !s.left.isEmpty, ?_, q _ (T.new n).1 (T.new n).2⟩
    · unfold SeqAt.shaped
      rw [Bool.and_eq_true]
      exact ⟨by simpa [PyData.canLay0] using (cl s.left).1, decide_eq_true (by simp [PyData.depth, (cl s.left).2])⟩
    · cases s.left with
      | nil => rfl
      | cons _ _ => rfl
def mPop : Mo (Dk kn) D := fun s => match s.left.getLast? with
  | some x => .ok (.int x) { s with left := s.left.dropLast }
  | none => .bad
/-- deck['left'].pop() -/
theorem je_dkpop (i : Nat) {x : Str} {xp cp pos apos cpos : Pos} {j : Nat} (h1 : kn ≠ "mixed") (h2 : kn ≠ "draws") (hu : X.A.units + 64 < cLine) (hρ : ρ[i]? = some (some (.opq 0)))
    (hbase : attributeBase (.Subscript (.Name x xp) (.Constant (.str kn) j cp) pos) "pop" X.env (eval (.Subscript (.Name x xp) (.Constant (.str kn) j cp) pos) X.env) = eval (.Subscript (.Name x xp) (.Constant (.str kn) j cp) pos) X.env := by rfl) (hline : (apos.endLine == cpos.line) = true := by rfl)
    (hN : X.N[i]? = some x := by rfl) (hv : Vis X.env.scope x := by first | exact .inl rfl | exact .inr (.inl rfl) | exact .inr (.inr rfl)) (hd : (x == ("__debug__" : Str)) = false := by decide) (hcd : (x == ("__classdict__" : Str)) = false := by decide) :
    JE b X c E ρ (.Call (.Attribute (.Subscript (.Name x xp) (.Constant (.str kn) j cp) pos) "pop" apos) [] [] cpos) mPop :=
  JE.of (pe_bm0 PySem.F.plainAttrs_list PySem.F.slot_list_pop PySem.F.type_list_pop mt_pop (pe_dk hu hN hv hd hcd) hbase hline) fun σ H Q ⟨ow, s, T, q⟩ => by
    obtain ⟨p, l, hW, e1, ne, hp, hl⟩ := dk_at T hρ
    have g := DGet.k (k := .inr kn) hp
    rw [(val_k (l := l) (s := s) h1 h2).1] at g
    refine ⟨_, e1, p, .ref l, rfl, g, Or.inl ⟨rfl, _, SqL.of hl⟩, ?_⟩
    unfold mPop at q
    cases el : s.left.getLast? with
    | none => rw [el] at q; exact q.elim
    | some z =>
      rw [el] at q
      have q : ∀ v H', Keep c.W.M H H' → c.W.ok { s with left := s.left.dropLast } H' → RepX b X.K c ow H' v (.int z) → Q v H' := q
      have e2 : (s.left.map V.int)[(s.left.map V.int).length - 1]? = some (V.int z) := by
        rw [List.getLast?_eq_getElem?] at el
        rw [List.length_map, List.getElem?_map, el]; rfl
      refine ⟨l, _, .int z, rfl, rfl, hl, e2, ?_⟩
      have e3 : (s.left.map V.int).dropLast = s.left.dropLast.map V.int := by rw [List.map_dropLast]
      rw [e3]
      refine q _ _ (keep_l hW hl rfl) ?_ (.inl (.int z))
      rw [hW]
      exact ⟨ne, by rw [upd_ne ne]; exact hp, upd_same⟩
/-- deck['left'].append(e) -/
theorem je_dkapp (i : Nat) {x : Str} {xp cp pos apos cpos : Pos} {j : Nat} (h1 : kn ≠ "mixed") (h2 : kn ≠ "draws") (hu : X.A.units + 64 < cLine) (hρ : ρ[i]? = some (some (.opq 0))) (he : ∀ s0 : Dk kn, JE false X c E ρ e m)
    (hpure : ∀ s d s', m s = .ok d s' → s' = s)
    (h : PE X (.Call (.Attribute (.Subscript (.Name x xp) (.Constant (.str kn) j cp) pos) "append" apos) [e] [] cpos) (tBM X.K "list" rAppend (tDGet (tVar i) (tC (.str kn))) (tCons (tE false X.K c E ρ m) tNil))) :
    JE b X c E ρ (.Call (.Attribute (.Subscript (.Name x xp) (.Constant (.str kn) j cp) pos) "append" apos) [e] [] cpos) (mBnd m fun d => mBnd (mInt d) fun n => fun s => if s.left.length < sizeLine then .ok .none { s with left := s.left ++ [n] } else .bad) :=
  JE.of h fun σ H Q ⟨ow, s, T, q⟩ => by
    obtain ⟨p, l, hW, e1, ne, hp, hl⟩ := dk_at T hρ
    have g := DGet.k (k := .inr kn) hp
    rw [(val_k (l := l) (s := s) h1 h2).1] at g
    refine ⟨_, e1, p, .ref l, rfl, g, Or.inl ⟨rfl, _, SqL.of hl⟩, ?_⟩
    refine bnd_at (b := false) T q fun d s1 v H1 k1 T1 r q1 => ?_
    obtain ⟨p', l', hW', e1', ne', hp', hl'⟩ := dk_at T1 hρ
    have e0 : wdk kn p l = wdk kn p' l' := hW.symm.trans hW'
    rw [e1] at e1'
    cases e1'
    have el : l = l' := by
      have m1 : (wdk kn p l).M l := .inr rfl
      rw [e0] at m1
      rcases m1 with z | z
      · exact absurd z (Ne.symm ne)
      · exact z
    subst el
    cases d with
    | int n =>
      have q1 : Cont b X.K c E ow H1 (if s1.left.length < sizeLine then .ok .none { s1 with left := s1.left ++ [n] } else .bad) Q := q1
      by_cases hz : s1.left.length < sizeLine
      · rw [if_pos hz] at q1
        have q1 : ∀ v H', Keep c.W.M H1 H' → c.W.ok { s1 with left := s1.left ++ [n] } H' → RepX b X.K c ow H' v .none → Q v H' := q1
        refine ⟨l, _, v, rfl, rfl, hl', by rw [List.length_map]; exact hz, ?_⟩
        have e3 : s1.left.map V.int ++ [v] = (s1.left ++ [n]).map V.int := by rw [r.int]; simp
        rw [e3]
        refine q1 _ _ (keep_l hW hl' rfl) ?_ (.inl .non)
        rw [hW]
        exact ⟨ne, by rw [upd_ne ne]; exact hp', upd_same⟩
      · rw [if_neg hz] at q1
        exact q1.elim
    | _ => exact q1.elim
end
end Cz
set_option Elab.async false
set_option linter.all false
set_option maxRecDepth 100000
set_option maxHeartbeats 4000000
/-! The law's own def: the script, the deck, the rest. -/
namespace Cz
open PySem PySem.Spec PyProof.Rows L2
theorem mBnd_ex {S α β : Type} {m : Mo S α} {f : α → Mo S β} {s s' : S} {C : Str} {pl : Option (Str × D)} (h : m s = .ex C pl s') : mBnd m f s = .ex C pl s' := by unfold mBnd; rw [h]
theorem mBnd_bad {S α β : Type} {m : Mo S α} {f : α → Mo S β} {s : S} (h : m s = .bad) : mBnd m f s = .bad := by unfold mBnd; rw [h]
/-- the script, as the head hands it in -/
def ScAt (K : PySem.W.Frag) (H : Hp) (a : Addr) (ns : List Int) : Prop := (∃ o, H a = some (.frz o (.lst (ns.map V.int)))) ∨ ∀ H' : Hp, SqL K H' a (ns.map V.int)
theorem ScAt.sq {K : PySem.W.Frag} {H : Hp} {a : Addr} {ns : List Int} (h : ScAt K H a ns) : SqL K H a (ns.map V.int) := h.elim (fun ⟨o, z⟩ => .inl (.inr ⟨o, z⟩)) fun z => z H
theorem ScAt.of {K : PySem.W.Frag} {H : Hp} {a : Addr} {ns : List Int} (hO : Only H) (h : SqL K H a (ns.map V.int)) : ScAt K H a ns := by
  rcases h with (h | ⟨o, h⟩) | h
  · rcases hO a with z | ⟨o, xs, z⟩
    · rw [h] at z; cases z
    · rw [h] at z; cases z
  · exact .inl ⟨o, h⟩
  · exact .inr fun H' => .inr h
structure Sc (K : PySem.W.Frag) where
  ns : List Int
def wsc (K : PySem.W.Frag) (a : Addr) : Wd (Sc K) where
  M := fun _ => False
  ok := fun s H => ScAt K H a s.ns
  nm := fun n => if n = 0 then some a else none
  live := fun _ m => m.elim
  ext := fun {s H H'} h k => h.imp (fun ⟨o, z⟩ => ⟨o, k a _ z (.inr rfl)⟩) id
instance (K : PySem.W.Frag) : WCl (Sc K) := ⟨fun W => ∃ a, W = wsc K a⟩
section
variable {α : Type} {b : Bool} {X : Cx} {c : Cf (Sc X.K)} {E : XK} {ρ : En} {e e1 e2 : Expr} {m : Mo (Sc X.K) D} {Q : VK}
/-- script[:n] -/
theorem je_scut (i : Nat) {x : Str} {xp p2 pos : Pos} {hi : Option Expr} {mh : Mo (Sc X.K) (Option Int)} (hρ : ρ[i]? = some (some (.opq 0))) (hh : JO X c E ρ hi mh)
    (hN : X.N[i]? = some x := by rfl) (hv : Vis X.env.scope x := by first | exact .inl rfl | exact .inr (.inl rfl) | exact .inr (.inr rfl)) (hd : (x == ("__debug__" : Str)) = false := by decide) (hcd : (x == ("__classdict__" : Str)) = false := by decide) :
    JE b X c E ρ (.Subscript (.Name x xp) (.Slice none hi none p2) pos) (mBnd mh fun u => fun s => .ok (.list (cutD (s.ns.map .int) none u)) s) :=
  JE.of (pe_slice sl_list (pe_var hN hv hd hcd) po_none hh) fun σ H Q ⟨ow, s, T, q⟩ => by
    obtain ⟨a, e1, e2⟩ := T.sl i _ hρ
    refine ⟨_, join_some e1, bndO_at T q fun u s1 H1 k1 T1 q1 => ?_⟩
    have ok : ScAt X.K H1 a s1.ns := by
      obtain ⟨a', hW⟩ := c.hW
      have ok := T1.ok
      rw [hW] at ok e2
      have e3 : some a' = some a := e2
      have e4 := Option.some.inj e3
      rw [← e4]
      exact ok
    have q1 : ∀ v H', Keep c.W.M H1 H' → c.W.ok s1 H' → RepX b X.K c ow H' v (.list (cutD (s1.ns.map .int) none u)) → Q v H' := q1
    refine ⟨a, _, rfl, ScAt.sq ok, fun p n => done_new T1 q1 n (rep_lst T1 n ?_)⟩
    have r0 : Reps X.K (c.Nn ow) H1 (s1.ns.map V.int) (s1.ns.map .int) := Reps.of_ints s1.ns
    exact r0.cut none u
end
section
variable {S : Type} [WCl S] {b : Bool} {X : Cx} {c : Cf S} {E : XK} {ρ : En} {e e1 e2 e3 : Expr} {m m1 m2 m3 : Mo S D} {ml : Mo S (List D)} {Q : VK}
theorem Reps.keepFlat {K : PySem.W.Frag} {N : Addr → Prop} {H H' : Hp} : ∀ {vs : List V} {ds : List D}, Reps K N H vs ds → ds.all flatD = true → Reps K N H' vs ds
  | _, _, .nil, _ => .nil
  | _, _, .cons h r, f => by
    rw [List.all_cons, Bool.and_eq_true] at f
    refine .cons ?_ (Reps.keepFlat r f.2)
    cases h with
    | non => exact .non
    | bl b => exact .bl b
    | int i => exact .int i
    | str x => exact .str x
    | lst _ _ _ => exact absurd f.1 Bool.false_ne_true
    | tup _ _ => exact absurd f.1 Bool.false_ne_true
    | dic _ _ _ => exact absurd f.1 Bool.false_ne_true
/-- xs[::-1] of a list: a new list -/
theorem jf_rev {b1 : Bool} {k : Nat} {p1 p2 p3 pos : Pos} (h : JE b1 X c E ρ e m) : JF X c E ρ (.Subscript e (.Slice none none (some (.UnaryOp .USub (.Constant (.int 1) k p1) p2)) p3) pos) (mBnd m fun d => match d with
    | .list ds => mRet ds.reverse
    | _ => mBad) :=
  JF.of (pe_revL h) fun σ H Q ⟨ow, s, T, q⟩ => bndF0_at (b := b1) T q fun d s1 v H1 k1 T1 r q1 => by
    cases d with
    | list ds =>
      obtain ⟨p, xs, rfl, hp, rr⟩ := r.list
      exact ⟨p, xs, rfl, SqL.of hp, fun p2 n => ofF_done (o := some ds.reverse) T1 q1 n fun ds' z => by cases z; exact rr.rev⟩
    | _ => exact q1.elim
/-- the deck's dict -/
def deckD (kn : Str) (ds : List D) (i j : Int) : D := .dict [(.str kn, .list ds), (.str "mixed", .int i), (.str "draws", .int j)]
def mDeckD (kn : Str) (ml : Mo S (List D)) (m2 m3 : Mo S D) : Mo S D := mBnd ml fun ds => mBnd (mOf (gFlat ds)) fun ds => mBnd m2 fun x => mBnd (mInt x) fun i => mBnd m3 fun y => mBnd (mInt y) fun j => mRet (deckD kn ds i j)
theorem je_deck {kn : Str} {k1 k2 k3 : Nat} {c1 c2 c3 pos : Pos} (h1 : kn ≠ "mixed") (h2 : kn ≠ "draws") (ho1 : JF X c E ρ e1 ml) (ho2 : JE false X c E ρ e2 m2) (ho3 : JE false X c E ρ e3 m3)
    (hp : PPs X pos [some (.Constant (.str kn) k1 c1), some (.Constant (.str "mixed") k2 c2), some (.Constant (.str "draws") k3 c3)] [e1, e2, e3] [(tC (.str kn), tF X.K c E ρ ml), (tC (.str "mixed"), tE false X.K c E ρ m2), (tC (.str "draws"), tE false X.K c E ρ m3)]) :
    JE b X c E ρ (.Dict [some (.Constant (.str kn) k1 c1), some (.Constant (.str "mixed") k2 c2), some (.Constant (.str "draws") k3 c3)] [e1, e2, e3] pos) (mDeckD kn ml m2 m3) := by
  refine JE.of (pe_disp hp rfl rfl (by simp) (by simp)) fun σ H Q ⟨ow, s, T, q⟩ p n => ?_
  have np := T.fresh n
  have nM : ¬ c.W.M p := fun z => np (.inl z)
  have T0 : Stt X.K c ow ρ σ (upd H p (.dK [])) s := T.move (T.new n).1 (T.new n).2
  have k0 : Keep c.W.M H (upd H p (.dK [])) := (T.new n).1
  unfold mDeckD at q
  show tF X.K c E ρ ml σ (upd H p (.dK [])) _
  refine ⟨ow, s, T0, ?_⟩
  cases el : ml s with
  | ex C pl s1 => rw [mBnd_ex el] at q; exact fun dx H1 k o x => q dx H1 (k0.trans k) o x
  | bad => rw [mBnd_bad el] at q; exact q
  | ok ds s1 =>
    rw [mBnd_ok el] at q
    intro l xs H1 nl k1 o1 hl rl
    cases ef : gFlat ds with
    | none => rw [ef] at q; exact q.elim
    | some ds' =>
      obtain ⟨hf, hds⟩ := if_some (show (if ds.all flatD = true then some ds else none) = some ds' from ef)
      subst hds
      rw [ef, mBnd_some] at q
      have T1 := T0.move k1 o1
      show tE false X.K c E ρ m2 σ H1 _
      refine ⟨ow, s1, T1, ?_⟩
      cases e2' : m2 s1 with
      | ex C pl s2 => rw [mBnd_ex e2'] at q; exact fun dx H2 k o x => q dx H2 ((k0.trans k1).trans k) o x
      | bad => rw [mBnd_bad e2'] at q; exact q
      | ok d2 s2 =>
        rw [mBnd_ok e2'] at q
        intro v2 H2 k2 o2 r2
        cases d2 with
        | int i =>
          have q : Cont b X.K c E ow H (mBnd m3 (fun y => mBnd (mInt y) fun j => mRet (deckD kn ds i j)) s2) Q := q
          have T2 := T1.move k2 o2
          show tE false X.K c E ρ m3 σ H2 _
          refine ⟨ow, s2, T2, ?_⟩
          cases e3' : m3 s2 with
          | ex C pl s3 => rw [mBnd_ex e3'] at q; exact fun dx H3 k o x => q dx H3 (((k0.trans k1).trans k2).trans k) o x
          | bad => rw [mBnd_bad e3'] at q; exact q
          | ok d3 s3 =>
            rw [mBnd_ok e3'] at q
            intro v3 H3 k3 o3 r3
            cases d3 with
            | int j =>
              have q : ∀ v H', Keep c.W.M H H' → c.W.ok s3 H' → RepX b X.K c ow H' v (deckD kn ds i j) → Q v H' := q
              have T3 := T2.move k3 o3
              have np1 : H1 p = some (.dK []) := k1.st p _ upd_same (.inl nM) rfl
              have np3 : H3 p = some (.dK []) := k3.st p _ (k2.st p _ np1 (.inl nM) rfl) (.inl nM) rfl
              have flM : ¬ c.Nn ow l := T0.fresh nl
              have flW : ¬ c.W.M l := fun z => flM (.inl z)
              have hl3 : H3 l = some (.lst xs) := k3.st l _ (k2.st l _ hl (.inl flW) rfl) (.inl flW) rfl
              have nelp : l ≠ p := fun z => by rw [z, upd_same] at nl; cases nl
              show H3 p = some (.dK []) ∧ _
              refine ⟨np3, [(.inr kn, .ref l), (.inr "mixed", v2), (.inr "draws", v3)], rfl, by simp, ?_⟩
              have a1 : ¬ (Sum.inr kn : Key) = .inr "mixed" := fun z => h1 (Sum.inr.inj z)
              have a2 : ¬ (Sum.inr kn : Key) = .inr "draws" := fun z => h2 (Sum.inr.inj z)
              have a3 : ¬ (Sum.inr "mixed" : Key) = .inr "draws" := fun z => absurd (Sum.inr.inj z) (by decide)
              have em : mergeK [] [((.inr kn : Key), V.ref l), (.inr "mixed", v2), (.inr "draws", v3)] = [(.inr kn, V.ref l), (.inr "mixed", v2), (.inr "draws", v3)] := by
                simp [mergeK, putK, a1, a2, a3]
              rw [em]
              have kk : Keep c.W.M H (upd H3 p (.dK [(.inr kn, .ref l), (.inr "mixed", v2), (.inr "draws", v3)])) := Keep.over (((k0.trans k1).trans k2).trans k3) n
              refine q _ _ kk ?_ (.inl (.dic np upd_same ?_))
              · refine c.W.ext T3.ok fun a o e m => ?_
                have ne : a ≠ p := fun z => by
                  rw [z] at e m
                  rcases m with m | m
                  · exact nM m
                  · rw [np3] at e
                    cases e
                    cases m
                rw [upd_ne ne]
                exact e
              · refine .cons (.lst flM (by rw [upd_ne nelp]; exact hl3) (Reps.keepFlat (Reps.anyN rl hf) hf)) (.cons ?_ (.cons ?_ .nil))
                · rw [r2.int]; exact .int i
                · rw [r3.int]; exact .int j
            | _ => exact q.elim
        | _ => exact q.elim
end
theorem Repk.uncons {K : PySem.W.Frag} {N : Addr → Prop} {H : Hp} {kvs : List (Key × V)} {x : D × D} {es : List (D × D)} (h : Repk K N H kvs (x :: es)) : ∃ k v vs, kvs = (k, v) :: vs ∧ x.1 = kD k ∧ Rep K N H v x.2 ∧ Repk K N H vs es := by
  cases h with
  | cons h r => exact ⟨_, _, _, rfl, rfl, h, r⟩
theorem kD_str {k : Key} {x : Str} (h : PyData.str x = kD k) : k = .inr x := by
  cases k with
  | inl i => cases h
  | inr y => cases h; rfl
theorem deck_inv {K : PySem.W.Frag} {N : Addr → Prop} {H : Hp} {v : V} {kn : Str} {l : List Int} {i j : Int} (h : Rep K N H v (deckD kn (l.map .int) i j)) : ∃ p a, v = .ref p ∧ p ≠ a ∧ H p = some (.dK [(.inr kn, .ref a), (.inr "mixed", .int i), (.inr "draws", .int j)]) ∧ H a = some (.lst (l.map V.int)) := by
  have h : Rep K N H v (.dict [(.str kn, .list (l.map .int)), (.str "mixed", .int i), (.str "draws", .int j)]) := h
  cases h with
  | dic np hp rk =>
    obtain ⟨k1, v1, r1, rfl, e1, h1, rk⟩ := rk.uncons
    obtain ⟨k2, v2, r2, rfl, e2, h2, rk⟩ := rk.uncons
    obtain ⟨k3, v3, r3, rfl, e3, h3, rk⟩ := rk.uncons
    cases rk
    have e1 := kD_str e1
    have e2 := kD_str e2
    have e3 := kD_str e3
    subst e1 e2 e3
    cases h2
    cases h3
    have h1 : Rep K N H v1 (.list (l.map .int)) := h1
    cases h1 with
    | lst na ha ra =>
      have e4 := ra.ints
      subst e4
      exact ⟨_, _, rfl, ne_of hp ha (fun z => nomatch z), hp, ha⟩
/-- the law's promise -/
def spLaw (K : PySem.W.Frag) (Pn : List Int → Prop) : Sp := fun vs H Q E => ∃ (a : Addr) (ns : List Int), vs = [.ref a] ∧ ScAt K H a ns ∧ Pn ns ∧ ∀ H', Q (.bl true) H'
section
variable {P : Program} {w : World} {K : PySem.W.Frag} {mg : Str → Option Value} {base : Heap} {k : Nat} {f : Addr} {name qual x xs : Str} {params : Arguments} {scope : Scope} {dV kV doc pm cdv ct oc : Value} {an od : Option Addr} {osl : Array (Option Value)} {N : List Str} {kn : Str}
  {e1 : Expr} {px pos : Pos} {rest : List Stmt}
theorem law_gn {mD : Mo (Sc K) D} {mL : Mo (Dk kn) (Fl Unit)} (Pn : List Int → Prop) (lk : K.lookup f = some ⟨oc, od, .func (PySem.W.fnOf name qual params (.Assign [.Name x px] e1 pos :: rest) scope dV kV doc pm an cdv ct), osl⟩) (hcd : PySem.W.codeIn K cdv qual = true) (sc : FnScope N [xs] scope)
    (hi : N[1]? = some x) (hcall : ∀ (A : Around) (outer : List Env) (s : Shared) (H : Hp) (E : XK) (c : Cf (Sc K)), Xok (cxOf (L2.CX P w) P w K mg base N qual scope f cdv A outer s H E) E k →
      JE false (cxOf (L2.CX P w) P w K mg base N qual scope f cdv A outer s H E) c E (some (.opq 0) :: List.replicate (N.length - 1) none) e1 mD)
    (hx : ∀ (A : Around) (outer : List Env) (s : Shared) (H : Hp) (E : XK), Loc (cxOf (L2.CX P w) P w K mg base N qual scope f cdv A outer s H E).env.scope x ∧ swapsWith e1 (some (.Name x px)) pos.line (cxOf (L2.CX P w) P w K mg base N qual scope f cdv A outer s H E).env = pure false ∧
      ((cxOf (L2.CX P w) P w K mg base N qual scope f cdv A outer s H E).fn x = true ∨ (cxOf (L2.CX P w) P w K mg base N qual scope f cdv A outer s H E).env.scope.names.lookup x = some .local))
    (hrest : ∀ (A : Around) (outer : List Env) (s : Shared) (H : Hp) (E : XK) (c : Cf (Dk kn)), Xok (cxOf (L2.CX P w) P w K mg base N qual scope f cdv A outer s H E) E k →
      JSs (cxOf (L2.CX P w) P w K mg base N qual scope f cdv A outer s H E) c E (fun _ : Unit => List.replicate N.length none) ((List.replicate N.length none).set 1 (some (.opq 0))) rest mL)
    (hD : ∀ ns, Pn ns → ∃ (l : List Int) (i j : Int) (s' : Sc K) (s2 : Dk kn), mD ⟨ns⟩ = .ok (deckD kn (l.map .int) i j) s' ∧ mL ⟨l, i, j⟩ = .ok (.rt (.bool true)) s2) :
    Gn P w K mg base (k + 1) f (PySem.W.fnOf name qual params (.Assign [.Name x px] e1 pos :: rest) scope dV kV doc pm an cdv ct) [xs] (spLaw K Pn) := by
  have hlen : ∀ vs H Q E, spLaw K Pn vs H Q E → vs.length = [xs].length := fun vs H Q E ⟨a, ns, e, _⟩ => by rw [e]; rfl
  have hNl : 2 ≤ N.length := by
    have := (List.getElem?_eq_some_iff.mp hi).1
    omega
  refine ⟨hlen, fun A outer s H args us vs Q E hr hgd e0 hbt r hsp => ?_⟩
  refine LamX.run_ofS lk hcd sc hr e0 hbt r (hlen _ _ _ _ hsp) fun hr' => ?_
  obtain ⟨a, ns, ev, hsc, hP, hQ⟩ := hsp
  subst ev
  have O : Xok (cxOf (L2.CX P w) P w K mg base N qual scope f cdv A outer s H E) E k := ⟨hr', guards_deeper hgd _, fun pins σ H s e s' I x => passes_call (W := fun cls d _ H => E cls d H) (takes_of rfl rfl rfl rfl) (fun _ _ _ _ z => z) pins σ H s e s' I x⟩
  let X := cxOf (L2.CX P w) P w K mg base N qual scope f cdv A outer s H E
  let c0 : Cf (Sc K) := ⟨wsc K a, ⟨a, rfl⟩, fun _ => False, H⟩
  obtain ⟨hx1, hx2, hx3⟩ := hx A outer s H E
  have hPS : PSs X (.Assign [.Name x px] e1 pos :: rest) (tSeq (tAsg (tE false K c0 E (some (.opq 0) :: List.replicate (N.length - 1) none) mD) (gName 1)) (fun Dn σ H => ∃ c : Cf (Dk kn), tS K c E (fun _ : Unit => List.replicate N.length none) ((List.replicate N.length none).set 1 (some (.opq 0))) mL Dn σ H)) :=
    pss_cons (ps_set sc.nd hi hx1 (hcall A outer s H E c0 O) hx2 hx3) (pss_ex fun c => hrest A outer s H E c O)
  refine ⟨_, hPS, ?_⟩
  obtain ⟨l, i, j, s', s2, e1', e2'⟩ := hD ns hP
  refine ⟨fun _ => none, ⟨ns⟩, ⟨hsc, .refl, fun a z => z.elim, fun i p z => (by cases z), fun i j p z => (by cases z), ?_, fun i dv e => ?_⟩, ?_⟩
  · show ([V.ref a].map some ++ List.replicate (N.length - 1) none).length = _
    simp
  · cases i with
    | zero =>
      have e : some (some (DV.opq 0)) = some (some dv) := e
      cases e
      exact ⟨a, rfl, rfl⟩
    | succ i =>
      have e : (List.replicate (N.length - 1) (none : Option DV))[i]? = some (some dv) := e
      rw [List.getElem?_replicate] at e
      split at e <;> simp at e
  · rw [e1']
    intro v H1 k1 o1 rv
    obtain ⟨p, b, rfl, ne, hp, hb⟩ := deck_inv rv.val
    let c1 : Cf (Dk kn) := ⟨wdk kn p b, ⟨p, b, rfl⟩, fun _ => False, H1⟩
    show ∃ c : Cf (Dk kn), tS K c E _ _ mL _ _ H1
    refine ⟨c1, fun _ => none, ⟨l, i, j⟩, ⟨⟨ne, hp, hb⟩, .refl, fun a z => z.elim, fun i p z => (by cases z), fun i j p z => (by cases z), ?_, fun n dv e => ?_⟩, ?_⟩
    · show (([V.ref a].map some ++ List.replicate (N.length - 1) none).set 1 (some (V.ref p))).length = _
      simp
      omega
    · by_cases hn : n = 1
      · subst hn
        rw [List.getElem?_set_self (by rw [List.length_replicate]; omega)] at e
        cases e
        refine ⟨p, ?_, rfl⟩
        show ((([V.ref a].map some ++ List.replicate (N.length - 1) none).set 1 (some (V.ref p)))[1]?).join = some (V.ref p)
        rw [List.getElem?_set_self (by simp; omega)]
        rfl
      · rw [List.getElem?_set_ne (Ne.symm hn), List.getElem?_replicate] at e
        split at e <;> simp at e
    · rw [e2']
      intro v H2 k2 o2 rv2
      cases rv2
      exact hQ H2
end
end Cz
set_option Elab.async false
set_option linter.all false
set_option maxRecDepth 100000
set_option maxHeartbeats 4000000
/-! a, b, c = e1, e2, e3 by way of the tuple (some name is a cell): data, data, a new list; data, a new list. -/
namespace Cz
open PySem PySem.Spec PyProof.Rows L2
section
variable {S : Type} [WCl S] {α : Type} {X : Cx} {c : Cf S} {E : XK} {ρ : En} {ρf : α → En} {e1 e2 e3 : Expr} {m1 m2 : Mo S D} {ml : Mo S (List D)} {rest : List Stmt} {K : PySem.W.Frag} {ow : Ows} {σ : L2.St} {H : Hp} {s : S}
/-- a new tuple beside: nothing of the frame changes -/
theorem Stt.tupN (h : Stt K c ow ρ σ H s) {p : Addr} {o : HO} (n : H p = none) : Stt K c ow ρ σ (upd H p o) s := h.move (Keep.same (same_new n)) (c.W.same h.ok (same_new n))
theorem bs_parC_ddo (i j l : Nat) {x y z : Str} {px py pz pt pos : Pos} {kt k2 : _} {pt2 : Pos} {k : D → D → List D → Mo S (Fl α)} (hc : X.calm = true) (h1 : JE false X c E ρ e1 m1) (h2 : JE false X c E ρ e2 m2) (h3 : JF X c E ρ e3 ml)
    (gi : PG X (.Name x px) (gName i)) (gj : PG X (.Name y py) (gName j)) (gl : PG X (.Name z pz) (gName l)) (hr : ∀ d d' d2, JSs X c E ρf (((ρ.set i (some (.v d))).set j (some (.v d'))).set l (some (.own d2))) rest (k d d' d2))
    (hs : swapsWithSole [.Tuple [.Name x px, .Name y py, .Name z pz] kt pt] (.Tuple [e1, e2, e3] k2 pt2) pos.line X.env = pure false := by rfl) (hw : swappedStores [.Tuple [.Name x px, .Name y py, .Name z pz] kt pt] (.Tuple [e1, e2, e3] k2 pt2) X.env = pure none := by rfl)
    (ha : (assignEach [.Tuple [.Name x px, .Name y py, .Name z pz] kt pt] X.env).map (·.2) = [assign (.Tuple [.Name x px, .Name y py, .Name z pz] kt pt) X.env] := by rfl)
    (s1 : starEach [e1, e2, e3] X.env = (false, eval e1 X.env) :: starEach [e2, e3] X.env := by rfl) (s2 : starEach [e2, e3] X.env = (false, eval e2 X.env) :: starEach [e3] X.env := by rfl) (s3 : starEach [e3] X.env = (false, eval e3 X.env) :: starEach [] X.env := by rfl)
    (a1 : (assignEach [.Name x px, .Name y py, .Name z pz] X.env).map (·.2) = assign (.Name x px) X.env :: (assignEach [.Name y py, .Name z pz] X.env).map (·.2) := by rfl) (a2 : (assignEach [.Name y py, .Name z pz] X.env).map (·.2) = assign (.Name y py) X.env :: (assignEach [.Name z pz] X.env).map (·.2) := by rfl)
    (a3 : (assignEach [.Name z pz] X.env).map (·.2) = assign (.Name z pz) X.env :: (assignEach [] X.env).map (·.2) := by rfl) (an : (assignEach [.Name x px, .Name y py, .Name z pz] X.env).length = 3 := by rfl) (as : (assignEach [.Name x px, .Name y py, .Name z pz] X.env).findIdx? (·.1) = none := by rfl) :
    JSs X c E ρf ρ (.Assign [.Tuple [.Name x px, .Name y py, .Name z pz] kt pt] (.Tuple [e1, e2, e3] k2 pt2) pos :: rest) (mBnd m1 fun d => mBnd m2 fun d' => mBnd ml fun d2 => k d d' d2) :=
  JSs.of (pss_cons (ps_asg (pe_tupF (pa_cons h1 (pa_cons h2 (pa_cons h3 pa_nil s3) s2) s1)) (pg_tup hc (pgs_cons gi (pgs_cons gj (pgs_cons gl pgs_nil a3) a2) a1) an as) hs hw ha) (rest3 hr)) fun Dn σ H ⟨ow, s, T, q⟩ =>
    par_d i T T q fun d s1 v H1 T1 A1 q1 => par_d j T1 A1 q1 fun d' s2 v' H2 T2 A2 q2 => par_o l T2 A2 q2 fun d2 s3 p H3 T3 A3 q3 => by
      refine ⟨by show 3 ≤ sizeLine; decide, fun t o n dn => ?_⟩
      refine ⟨t, [v, v', .ref p], rfl, .inl (.inr ⟨o, upd_same⟩), rfl, v, _, rfl, v', _, rfl, .ref p, _, rfl, rfl, d, d', d2, _, s3, A3.tupN n, ?_⟩
      exact ContS.move q3 (Stp.of (Keep.same (same_new n)))
end
end Cz
set_option Elab.async false
set_option linter.all false
set_option maxRecDepth 100000
set_option maxHeartbeats 4000000
/-! Small words for derivations: fewer names known (wk). -/
namespace Cz
open PySem PySem.Spec PyProof.Rows L2
theorem wk_e : Wk [] [] := trivial
theorem wk_n {a : Option DV} {ρ ρ' : En} (w : Wk ρ ρ') : Wk (a :: ρ) (none :: ρ') := by
  cases a
  · exact w
  · exact w
theorem wk_s {a : DV} {ρ ρ' : En} (w : Wk ρ ρ') : Wk (some a :: ρ) (some a :: ρ') := ⟨rfl, w⟩

end Cz
set_option Elab.async false
set_option linter.all false
set_option maxRecDepth 100000
set_option maxHeartbeats 4000000
/-! Forms for the generator: append, append of a pop, tuples as targets, what a def needs of its callees. -/
namespace Cz
open PySem PySem.Spec PyProof.Rows L2
section
variable {S : Type} [WCl S] {α β γ : Type} {b b' : Bool} {X : Cx} {K : PySem.W.Frag} {c : Cf S} {E : XK} {ρ ρ' ρ1 : En} {ρf : α → En} {e e1 e2 e3 : Expr} {m m1 m2 m3 : Mo S D} {ml ml2 ml3 : Mo S (List D)} {sts rest : List Stmt}
theorem bs_app1 (i : Nat) {x : Str} {ds : List D} {xp apos pos pos2 : Pos} {k : List D → Mo S (Fl α)} (hρ : ρ[i]? = some (some (.own ds))) (he : JE false X c E ρ e m)
    (hr : ∀ es, JSs X c E ρf (ρ.set i (some (.own es))) rest (k es)) (hN : X.N[i]? = some x := by rfl)
    (hv : Vis X.env.scope x := by first | exact .inl rfl | exact .inr (.inl rfl) | exact .inr (.inr rfl)) (hd : (x == ("__debug__" : Str)) = false := by decide) (hcd : (x == ("__classdict__" : Str)) = false := by decide)
    (hbase : attributeBase (.Name x xp) "append" X.env (eval (.Name x xp) X.env) = eval (.Name x xp) X.env := by rfl)
    (hfew : ((backTo pos (starEach [e] X.env)).all (fun x => !x.1) && (backToKw pos (keywordEach [] X.env)).all (fun x => x.1.isSome)
      && decide ([e].length + ([] : List Keyword).length + (if ([] : List Keyword).isEmpty then 0 else 1) < 30)) = true := by rfl)
    (hline : (apos.endLine == pos.line) = true := by rfl) (hs1 : starEach [e] X.env = (false, eval e X.env) :: starEach [] X.env := by rfl) (hpl : (backTo pos (starEach [] X.env)).any (·.1) = false := by rfl)
    (hs : swapsWith (.Call (.Attribute (.Name x xp) "append" apos) [e] [] pos) none pos2.line X.env = pure false := by rfl) :
    JSs X c E ρf ρ (.Expr (.Call (.Attribute (.Name x xp) "append" apos) [e] [] pos) pos2 :: rest) (mBnd m fun d => mBnd (mOf (gApp ds d)) k) :=
  bs_app i hρ (pe_bm PySem.F.plainAttrs_list PySem.F.slot_list_append PySem.F.type_list_append mt_append (pe_var hN hv hd hcd) (pa_cons he pa_nil hs1) hbase hfew hline hs1 hpl) hr hs
/-- xs.append(ys.pop(e)) -/
def mPopApp (m : Mo S D) (xs ys : List D) (k : List D → List D → Mo S (Fl α)) : Mo S (Fl α) := mBnd (mBnd m fun d => mOf (gPop ys d)) fun dl => mBnd (mOf (gApp xs dl.1)) fun es => k es dl.2
theorem bs_popApp (i j : Nat) {x y : Str} {ds es : List D} {xp yp apos apos' pos pos' pos2 : Pos} {k : List D → List D → Mo S (Fl α)} (hρ : ρ[i]? = some (some (.own ds))) (hρ' : ρ[j]? = some (some (.own es))) (he : JE false X c E ρ e m)
    (hr : ∀ xs ys, JSs X c E ρf ((ρ.set j (some (.own ys))).set i (some (.own xs))) rest (k xs ys)) (hij : i ≠ j := by decide) (hN : X.N[i]? = some x := by rfl) (hN' : X.N[j]? = some y := by rfl)
    (hv : Vis X.env.scope x := by first | exact .inl rfl | exact .inr (.inl rfl) | exact .inr (.inr rfl)) (hd : (x == ("__debug__" : Str)) = false := by decide) (hcd : (x == ("__classdict__" : Str)) = false := by decide)
    (hv' : Vis X.env.scope y := by first | exact .inl rfl | exact .inr (.inl rfl) | exact .inr (.inr rfl)) (hd' : (y == ("__debug__" : Str)) = false := by decide) (hcd' : (y == ("__classdict__" : Str)) = false := by decide)
    (hbase' : attributeBase (.Name y yp) "pop" X.env (eval (.Name y yp) X.env) = eval (.Name y yp) X.env := by rfl)
    (hfew' : ((backTo pos' (starEach [e] X.env)).all (fun x => !x.1) && (backToKw pos' (keywordEach [] X.env)).all (fun x => x.1.isSome)
      && decide ([e].length + ([] : List Keyword).length + (if ([] : List Keyword).isEmpty then 0 else 1) < 30)) = true := by rfl)
    (hline' : (apos'.endLine == pos'.line) = true := by rfl) (hs1' : starEach [e] X.env = (false, eval e X.env) :: starEach [] X.env := by rfl) (hpl' : (backTo pos' (starEach [] X.env)).any (·.1) = false := by rfl)
    (hbase : attributeBase (.Name x xp) "append" X.env (eval (.Name x xp) X.env) = eval (.Name x xp) X.env := by rfl)
    (hfew : ((backTo pos (starEach [.Call (.Attribute (.Name y yp) "pop" apos') [e] [] pos'] X.env)).all (fun x => !x.1) && (backToKw pos (keywordEach [] X.env)).all (fun x => x.1.isSome)
      && decide ([Expr.Call (.Attribute (.Name y yp) "pop" apos') [e] [] pos'].length + ([] : List Keyword).length + (if ([] : List Keyword).isEmpty then 0 else 1) < 30)) = true := by rfl)
    (hline : (apos.endLine == pos.line) = true := by rfl) (hs1 : starEach [.Call (.Attribute (.Name y yp) "pop" apos') [e] [] pos'] X.env = (false, eval (.Call (.Attribute (.Name y yp) "pop" apos') [e] [] pos') X.env) :: starEach [] X.env := by rfl) (hpl : (backTo pos (starEach [] X.env)).any (·.1) = false := by rfl)
    (hs : swapsWith (.Call (.Attribute (.Name x xp) "append" apos) [.Call (.Attribute (.Name y yp) "pop" apos') [e] [] pos'] [] pos) none pos2.line X.env = pure false := by rfl) :
    JSs X c E ρf ρ (.Expr (.Call (.Attribute (.Name x xp) "append" apos) [.Call (.Attribute (.Name y yp) "pop" apos') [e] [] pos'] [] pos) pos2 :: rest) (mPopApp m ds es k) :=
  bs_appM (k := fun z => k z.1 z.2) i j hij hρ (pe_bm PySem.F.plainAttrs_list PySem.F.slot_list_append PySem.F.type_list_append mt_append (pe_var hN hv hd hcd)
    (pa_cons (jm_pop j hρ' he hN' hv' hd' hcd' (pe_bm PySem.F.plainAttrs_list PySem.F.slot_list_pop PySem.F.type_list_pop mt_popAt (pe_var hN' hv' hd' hcd') (pa_cons he pa_nil hs1') hbase' hfew' hline' hs1' hpl')) pa_nil hs1) hbase hfew hline hs1 hpl) (fun z => hr z.1 z.2) hs
/-! tuples as targets -/
def mT2 {τ : Type} (d : D) (k : D → D → Mo S τ) : Mo S τ := match d with
  | .tuple [x, y] => k x y
  | _ => mBad
def mT3 {τ : Type} (d : D) (k : D → D → D → Mo S τ) : Mo S τ := match d with
  | .tuple [x, y, z] => k x y z
  | _ => mBad
abbrev tg2 (i j : Nat) : D → En → Option En := tgT (tgCons (tgN i) (tgCons (tgN j) tgNil)) 2
abbrev tg3 (i j l : Nat) : D → En → Option En := tgT (tgCons (tgN i) (tgCons (tgN j) (tgCons (tgN l) tgNil))) 3
theorem tg2_ok {i j : Nat} : TgOk K (gTup K 2 (gCons (gName i) (gCons (gName j) gNil))) (tg2 i j) ([i] ++ ([j] ++ [])) := tgok_tup (tgsok_cons tgok_nm (tgsok_cons tgok_nm tgsok_nil))
theorem tg3_ok {i j l : Nat} : TgOk K (gTup K 3 (gCons (gName i) (gCons (gName j) (gCons (gName l) gNil)))) (tg3 i j l) ([i] ++ ([j] ++ ([l] ++ []))) := tgok_tup (tgsok_cons tgok_nm (tgsok_cons tgok_nm (tgsok_cons tgok_nm tgsok_nil)))
theorem tg2_no {τ : Type} {i j : Nat} {d : D} {ρ : En} {k : D → D → Mo S τ} (h : tg2 i j d ρ = none) : mT2 d k = mBad := by
  cases d with
  | tuple ds =>
    match ds, h with
    | [x, y], h => cases h
    | [], _ => rfl
    | [_], _ => rfl
    | _ :: _ :: _ :: _, _ => rfl
  | _ => rfl
theorem tg3_no {τ : Type} {i j l : Nat} {d : D} {ρ : En} {k : D → D → D → Mo S τ} (h : tg3 i j l d ρ = none) : mT3 d k = mBad := by
  cases d with
  | tuple ds =>
    match ds, h with
    | [x, y, z], h => cases h
    | [], _ => rfl
    | [_], _ => rfl
    | [_, _], _ => rfl
    | _ :: _ :: _ :: _ :: _, _ => rfl
  | _ => rfl
theorem tg2_so {i j : Nat} {d : D} {ρ ρ' : En} (h : tg2 i j d ρ = some ρ') : ∃ x y, d = .tuple [x, y] ∧ ρ' = (ρ.set i (some (.v x))).set j (some (.v y)) := by
  cases d with
  | tuple ds =>
    match ds, h with
    | [x, y], h => cases h; exact ⟨x, y, rfl, rfl⟩
    | [], h => cases h
    | [_], h => cases h
    | _ :: _ :: _ :: _, h => simp [tg2, tgT] at h
  | _ => cases h
theorem tg3_so {i j l : Nat} {d : D} {ρ ρ' : En} (h : tg3 i j l d ρ = some ρ') : ∃ x y z, d = .tuple [x, y, z] ∧ ρ' = ((ρ.set i (some (.v x))).set j (some (.v y))).set l (some (.v z)) := by
  cases d with
  | tuple ds =>
    match ds, h with
    | [x, y, z], h => cases h; exact ⟨x, y, z, rfl, rfl⟩
    | [], h => cases h
    | [_], h => cases h
    | [_, _], h => cases h
    | _ :: _ :: _ :: _ :: _, h => simp [tg3, tgT] at h
  | _ => cases h
/-- u, v = e -/
theorem bs_unp2 (i j : Nat) {x y : Str} {px py pt pos : Pos} {kt : Nat} {k : D → D → Mo S (Fl α)} (hc : X.calm = true) (he : JE false X c E ρ e m) (gi : PG X (.Name x px) (gName i)) (gj : PG X (.Name y py) (gName j))
    (hr : ∀ d d', JSs X c E ρf ((ρ.set i (some (.v d))).set j (some (.v d'))) rest (k d d'))
    (hs : swapsWithSole [.Tuple [.Name x px, .Name y py] kt pt] e pos.line X.env = pure false := by rfl) (hw : swappedStores [.Tuple [.Name x px, .Name y py] kt pt] e X.env = pure none := by rfl)
    (h1 : (assignEach [.Tuple [.Name x px, .Name y py] kt pt] X.env).map (·.2) = [assign (.Tuple [.Name x px, .Name y py] kt pt) X.env] := by rfl)
    (a1 : (assignEach [.Name x px, .Name y py] X.env).map (·.2) = assign (.Name x px) X.env :: (assignEach [.Name y py] X.env).map (·.2) := by rfl)
    (a2 : (assignEach [.Name y py] X.env).map (·.2) = assign (.Name y py) X.env :: (assignEach [] X.env).map (·.2) := by rfl) (an : (assignEach [.Name x px, .Name y py] X.env).length = 2 := by rfl) (as : (assignEach [.Name x px, .Name y py] X.env).findIdx? (·.1) = none := by rfl) :
    JSs X c E ρf ρ (.Assign [.Tuple [.Name x px, .Name y py] kt pt] e pos :: rest) (mBnd m fun d => mT2 d k) :=
  bs_unp he (pg_tup hc (pgs_cons gi (pgs_cons gj pgs_nil a2) a1) an as) tg2_ok (fun d z => tg2_no z) (fun d ρ' z => by
    obtain ⟨u, v, rfl, rfl⟩ := tg2_so z
    exact hr u v) hs hw h1
/-- u, v, w = e -/
theorem bs_unp3 (i j l : Nat) {x y z : Str} {px py pz pt pos : Pos} {kt : Nat} {k : D → D → D → Mo S (Fl α)} (hc : X.calm = true) (he : JE false X c E ρ e m) (gi : PG X (.Name x px) (gName i)) (gj : PG X (.Name y py) (gName j)) (gl : PG X (.Name z pz) (gName l))
    (hr : ∀ d d' d2, JSs X c E ρf (((ρ.set i (some (.v d))).set j (some (.v d'))).set l (some (.v d2))) rest (k d d' d2))
    (hs : swapsWithSole [.Tuple [.Name x px, .Name y py, .Name z pz] kt pt] e pos.line X.env = pure false := by rfl) (hw : swappedStores [.Tuple [.Name x px, .Name y py, .Name z pz] kt pt] e X.env = pure none := by rfl)
    (h1 : (assignEach [.Tuple [.Name x px, .Name y py, .Name z pz] kt pt] X.env).map (·.2) = [assign (.Tuple [.Name x px, .Name y py, .Name z pz] kt pt) X.env] := by rfl)
    (a1 : (assignEach [.Name x px, .Name y py, .Name z pz] X.env).map (·.2) = assign (.Name x px) X.env :: (assignEach [.Name y py, .Name z pz] X.env).map (·.2) := by rfl)
    (a2 : (assignEach [.Name y py, .Name z pz] X.env).map (·.2) = assign (.Name y py) X.env :: (assignEach [.Name z pz] X.env).map (·.2) := by rfl)
    (a3 : (assignEach [.Name z pz] X.env).map (·.2) = assign (.Name z pz) X.env :: (assignEach [] X.env).map (·.2) := by rfl) (an : (assignEach [.Name x px, .Name y py, .Name z pz] X.env).length = 3 := by rfl) (as : (assignEach [.Name x px, .Name y py, .Name z pz] X.env).findIdx? (·.1) = none := by rfl) :
    JSs X c E ρf ρ (.Assign [.Tuple [.Name x px, .Name y py, .Name z pz] kt pt] e pos :: rest) (mBnd m fun d => mT3 d k) :=
  bs_unp he (pg_tup hc (pgs_cons gi (pgs_cons gj (pgs_cons gl pgs_nil a3) a2) a1) an as) tg3_ok (fun d z => tg3_no z) (fun d ρ' z => by
    obtain ⟨u, v, w, rfl, rfl⟩ := tg3_so z
    exact hr u v w) hs hw h1
/-- xs += e, by name: xs = xs + e goes by bs_set -/
theorem nonx_T2 {d : D} {k : D → D → Mo S (Fl α)} (h : ∀ x y, NoNx (k x y)) : NoNx (mT2 d k) := by
  unfold mT2
  split
  · exact h _ _
  · exact nonx_bad
theorem nonx_T3 {d : D} {k : D → D → D → Mo S (Fl α)} (h : ∀ x y z, NoNx (k x y z)) : NoNx (mT3 d k) := by
  unfold mT3
  split
  · exact h _ _ _
  · exact nonx_bad
theorem nonx_popApp {m : Mo S D} {xs ys : List D} {k : List D → List D → Mo S (Fl α)} (h : ∀ x y, NoNx (k x y)) : NoNx (mPopApp m xs ys k) := nonx_bnd fun _ => nonx_bnd fun _ => h _ _
end
/-! what a def needs of a callee -/
structure Cal {S : Type} [WCl S] (P : Program) (w : World) (K : PySem.W.Frag) (mg : Str → Option Value) (base : Heap) (k : Nat) (x : Str) (ps : List Str) (pt : List (Option Nat)) (mf : List D → Mo S D) where
  f : Addr
  fd : FuncData
  G : Gn P w K mg base k f fd ps (spD K pt mf)
  kp : PySem.W.keepIn K (.ref f) = true
  b : L2.Binds K fd ps []
  g : mg x = some (.ref f)
/-- .. called by names -/
def Cal.BK {S : Type} [WCl S] {P : Program} {w : World} {K : PySem.W.Frag} {mg : Str → Option Value} {base : Heap} {k : Nat} {x : Str} {ps : List Str} {pt : List (Option Nat)} {mf : List D → Mo S D} (C : Cal P w K mg base k x ps pt mf) (ks : List Str) (ix : List Nat) : Prop := BindsK K C.fd ps ks 0 ix
end Cz
namespace Cz
open PySem PySem.Spec PyProof.Rows L2
theorem je_glob2 {S : Type} [WCl S] {b : Bool} {X : Cx} {c : Cf S} {E : XK} {ρ : En} {x : Str} {i : Int} {pos : Pos} (hg : Gl X x) (hm : ∃ u, X.mg x = some u ∧ RelV (.int i) u) (hd : (x == ("__debug__" : Str)) = false := by decide) : JE b X c E ρ (.Name x pos) (mRet (.int i)) :=
  let ⟨_, h, r⟩ := hm
  je_glob hg h r hd
/-- THE RULE for a def that stands behind the top -/
theorem gn_of {S : Type} [WCl S] {P : Program} {w : World} {K : PySem.W.Frag} {mg : Str → Option Value} {base : Heap} {x qual : Str} {params : Arguments} {body : List Stmt} {scope : Scope} {k : Nat} {f : Addr} {fd : FuncData} {N ps : List Str} {pt : List (Option Nat)} {mf : List D → Mo S D} (mb : List D → Mo S (Fl Unit))
    (F : FunD K x qual params body scope [] [] f fd) (sc : FnScope N ps scope) (hpt : pt.length = ps.length) (hps : ps.length ≤ N.length) (hmf : ∀ ds, ds.length = nDat pt → mf ds = mFin (mb ds))
    (hb : ∀ (cdv : Value) (A : Around) (outer : List Env) (s : Shared) (H : Hp) (E : XK) (c : Cf S) (ds : List D), Xok (cxOf (L2.CX P w) P w K mg base N qual scope f cdv A outer s H E) E k → ds.length = nDat pt →
      JSs (cxOf (L2.CX P w) P w K mg base N qual scope f cdv A outer s H E) c E (fun _ : Unit => List.replicate N.length none) (env0 pt ds ++ List.replicate (N.length - ps.length) none) body (mb ds)) : Gn P w K mg base (k + 1) f fd ps (spD K pt mf) := by
  obtain ⟨oc, od, dV, kV, doc, pm, an, cdv, ct, osl, rfl, lk, hcd, _, _⟩ := F.ex
  exact mk_gn lk hcd sc hpt hps hmf fun A outer s H E c ds O hl => hb cdv A outer s H E c ds O hl
/-- the built-ins that a law's defs call -/
structure Bi (mg : Str → Option Value) : Prop where
  n_isinstance : mg "isinstance" = none
  n_int : mg "int" = none
  n_bool : mg "bool" = none
  n_tuple : mg "tuple" = none
  n_list : mg "list" = none
  n_len : mg "len" = none
  n_range : mg "range" = none
  n_all : mg "all" = none
  n_max : mg "max" = none
  n_min : mg "min" = none
  n_repr : mg "repr" = none
  n_sorted : mg "sorted" = none
  n_abs : mg "abs" = none
  n_enumerate : mg "enumerate" = none
  n_zip : mg "zip" = none
  n_set : mg "set" = none
  n_sum : mg "sum" = none
  n_any : mg "any" = none
  n_str : mg "str" = none
  n_divmod : mg "divmod" = none
  n_reversed : mg "reversed" = none
  n_dict : mg "dict" = none
  product : mg "product" = some (.type "itertools.product")
  c_MOST_KINDS : ∃ u, mg "MOST_KINDS" = some u ∧ RelV (.int 8) u
end Cz
namespace Cz
open PySem PySem.Spec PyProof.Rows L2
section
variable {kn : Str} {α : Type} {b : Bool} {X : Cx} {c : Cf (Dk kn)} {E : XK} {ρ : En} {ρf : α → En} {e : Expr} {m : Mo (Dk kn) D} {rest : List Stmt}
def mDkM : Mo (Dk kn) D := fun s => .ok (.int s.mixed) s
def mDkD : Mo (Dk kn) D := fun s => .ok (.int s.draws) s
def mDkNe : Mo (Dk kn) Bool := fun s => .ok (!s.left.isEmpty) s
def mDkSet (m : Mo (Dk kn) D) (k : Mo (Dk kn) (Fl α)) : Mo (Dk kn) (Fl α) := mBnd m fun d => mBnd (mInt d) fun n => mBnd (mUpd fun s => { s with draws := n }) fun _ => k
def mDkApp (m : Mo (Dk kn) D) : Mo (Dk kn) D := mBnd m fun d => mBnd (mInt d) fun n => fun s => if s.left.length < sizeLine then .ok .none { s with left := s.left ++ [n] } else .bad
theorem je_dkM (i : Nat) {x : Str} {xp cp pos : Pos} {j : Nat} (hu : X.A.units + 64 < cLine) (hρ : ρ[i]? = some (some (.opq 0))) (h1 : kn ≠ "mixed" := by decide) (h2 : kn ≠ "draws" := by decide)
    (hN : X.N[i]? = some x := by rfl) (hv : Vis X.env.scope x := by first | exact .inl rfl | exact .inr (.inl rfl) | exact .inr (.inr rfl)) (hd : (x == ("__debug__" : Str)) = false := by decide) (hcd : (x == ("__classdict__" : Str)) = false := by decide) :
    JE b X c E ρ (.Subscript (.Name x xp) (.Constant (.str "mixed") j cp) pos) mDkM := je_dk i (fun s => s.mixed) (.inl ⟨rfl, rfl⟩) h1 h2 hu hρ hN hv hd hcd
theorem je_dkD (i : Nat) {x : Str} {xp cp pos : Pos} {j : Nat} (hu : X.A.units + 64 < cLine) (hρ : ρ[i]? = some (some (.opq 0))) (h1 : kn ≠ "mixed" := by decide) (h2 : kn ≠ "draws" := by decide)
    (hN : X.N[i]? = some x := by rfl) (hv : Vis X.env.scope x := by first | exact .inl rfl | exact .inr (.inl rfl) | exact .inr (.inr rfl)) (hd : (x == ("__debug__" : Str)) = false := by decide) (hcd : (x == ("__classdict__" : Str)) = false := by decide) :
    JE b X c E ρ (.Subscript (.Name x xp) (.Constant (.str "draws") j cp) pos) mDkD := je_dk i (fun s => s.draws) (.inr ⟨rfl, rfl⟩) h1 h2 hu hρ hN hv hd hcd
theorem jt_dkNe (i : Nat) {x : Str} {xp cp pos lp pos2 : Pos} {j : Nat} (hu : X.A.units + 64 < cLine) (hρ : ρ[i]? = some (some (.opq 0))) (h1 : kn ≠ "mixed" := by decide) (h2 : kn ≠ "draws" := by decide) (hm : behindInMarks .NotEq (.List [] lp) = false := by rfl)
    (hN : X.N[i]? = some x := by rfl) (hv : Vis X.env.scope x := by first | exact .inl rfl | exact .inr (.inl rfl) | exact .inr (.inr rfl)) (hd : (x == ("__debug__" : Str)) = false := by decide) (hcd : (x == ("__classdict__" : Str)) = false := by decide) :
    JT X c E ρ (.Compare (.Subscript (.Name x xp) (.Constant (.str kn) j cp) pos) [.NotEq] [.List [] lp] pos2) mDkNe := jt_dkne i h1 h2 hu hρ hm hN hv hd hcd
theorem bs_dkSet (i : Nat) {x : Str} {xp cp tp pos : Pos} {j : Nat} {k : Mo (Dk kn) (Fl α)} (hu : X.A.units + 64 < cLine) (hρ : ρ[i]? = some (some (.opq 0))) (he : JE false X c E ρ e m) (hr : JSs X c E ρf ρ rest k) (h1 : kn ≠ "mixed" := by decide) (h2 : kn ≠ "draws" := by decide)
    (hs : swapsWith e (some (.Subscript (.Name x xp) (.Constant (.str "draws") j cp) tp)) pos.line X.env = pure false := by rfl)
    (hN : X.N[i]? = some x := by rfl) (hv : Vis X.env.scope x := by first | exact .inl rfl | exact .inr (.inl rfl) | exact .inr (.inr rfl)) (hd : (x == ("__debug__" : Str)) = false := by decide) (hcd : (x == ("__classdict__" : Str)) = false := by decide) :
    JSs X c E ρf ρ (.Assign [.Subscript (.Name x xp) (.Constant (.str "draws") j cp) tp] e pos :: rest) (mDkSet m k) := bs_dkset i h1 h2 hu hρ he hr hs hN hv hd hcd
theorem je_dkPop (i : Nat) {x : Str} {xp cp pos apos cpos : Pos} {j : Nat} (hu : X.A.units + 64 < cLine) (hρ : ρ[i]? = some (some (.opq 0))) (h1 : kn ≠ "mixed" := by decide) (h2 : kn ≠ "draws" := by decide)
    (hbase : attributeBase (.Subscript (.Name x xp) (.Constant (.str kn) j cp) pos) "pop" X.env (eval (.Subscript (.Name x xp) (.Constant (.str kn) j cp) pos) X.env) = eval (.Subscript (.Name x xp) (.Constant (.str kn) j cp) pos) X.env := by rfl) (hline : (apos.endLine == cpos.line) = true := by rfl)
    (hN : X.N[i]? = some x := by rfl) (hv : Vis X.env.scope x := by first | exact .inl rfl | exact .inr (.inl rfl) | exact .inr (.inr rfl)) (hd : (x == ("__debug__" : Str)) = false := by decide) (hcd : (x == ("__classdict__" : Str)) = false := by decide) :
    JE b X c E ρ (.Call (.Attribute (.Subscript (.Name x xp) (.Constant (.str kn) j cp) pos) "pop" apos) [] [] cpos) mPop := je_dkpop i h1 h2 hu hρ hbase hline hN hv hd hcd
theorem je_dkApp (i : Nat) {x : Str} {xp cp pos apos cpos : Pos} {j : Nat} (hu : X.A.units + 64 < cLine) (hρ : ρ[i]? = some (some (.opq 0))) (he : JE false X c E ρ e m) (hpure : ∀ s d s', m s = .ok d s' → s' = s) (h1 : kn ≠ "mixed" := by decide) (h2 : kn ≠ "draws" := by decide)
    (hN : X.N[i]? = some x := by rfl) (hv : Vis X.env.scope x := by first | exact .inl rfl | exact .inr (.inl rfl) | exact .inr (.inr rfl)) (hd : (x == ("__debug__" : Str)) = false := by decide) (hcd : (x == ("__classdict__" : Str)) = false := by decide)
    (hbase : attributeBase (.Subscript (.Name x xp) (.Constant (.str kn) j cp) pos) "append" X.env (eval (.Subscript (.Name x xp) (.Constant (.str kn) j cp) pos) X.env) = eval (.Subscript (.Name x xp) (.Constant (.str kn) j cp) pos) X.env := by rfl)
    (hfew : ((backTo cpos (starEach [e] X.env)).all (fun x => !x.1) && (backToKw cpos (keywordEach [] X.env)).all (fun x => x.1.isSome)
      && decide ([e].length + ([] : List Keyword).length + (if ([] : List Keyword).isEmpty then 0 else 1) < 30)) = true := by rfl)
    (hline : (apos.endLine == cpos.line) = true := by rfl) (hs1 : starEach [e] X.env = (false, eval e X.env) :: starEach [] X.env := by rfl) (hpl : (backTo cpos (starEach [] X.env)).any (·.1) = false := by rfl) :
    JE b X c E ρ (.Call (.Attribute (.Subscript (.Name x xp) (.Constant (.str kn) j cp) pos) "append" apos) [e] [] cpos) (mDkApp m) :=
  je_dkapp i h1 h2 hu hρ (fun _ => he) hpure (pe_bm PySem.F.plainAttrs_list PySem.F.slot_list_append PySem.F.type_list_append mt_append (pe_dk hu hN hv hd hcd) (pa_cons he pa_nil hs1) hbase hfew hline hs1 hpl)
/-- m leaves the deck as it is -/
def Pure {S α : Type} (m : Mo S α) : Prop := ∀ s d s', m s = .ok d s' → s' = s
theorem pure_ret {S α : Type} {a : α} : Pure (mRet a : Mo S α) := fun s d s' e => by cases e; rfl
theorem pure_of {S α : Type} {o : Option α} : Pure (mOf o : Mo S α) := fun s d s' e => by
  cases o with
  | none => cases e
  | some a => cases e; rfl
theorem pure_bnd {S α β : Type} {m : Mo S α} {f : α → Mo S β} (h : Pure m) (g : ∀ a, Pure (f a)) : Pure (mBnd m f) := fun s d s' e => by
  unfold mBnd at e
  cases q : m s with
  | ok a s1 =>
    rw [q] at e
    have z := h s a s1 q
    subst z
    exact g a s1 d s' e
  | ex _ _ _ => rw [q] at e; cases e
  | bad => rw [q] at e; cases e
theorem pure_all {S : Type} {m : Mo S D} {ms : List (Mo S D)} (h : Pure m) (g : Pure (mAll ms)) : Pure (mAll (m :: ms)) := pure_bnd h fun _ => pure_bnd g fun _ => pure_ret
end
end Cz
namespace Cz
open PySem PySem.Spec PyProof.Rows L2
section
variable {S : Type} [WCl S] {α β γ : Type} {b b' : Bool} {X : Cx} {K : PySem.W.Frag} {c : Cf S} {E : XK} {ρ ρ' ρ1 : En} {ρf : α → En} {e e1 e2 e3 : Expr} {m m1 m2 m3 : Mo S D} {ml ml2 ml3 : Mo S (List D)} {sts rest : List Stmt} {ow : Ows} {H : Hp} {s : S} {Q : Bool → Hp → Prop}
theorem contT_E (q : ContT K c E H (mBnd m (fun d => mOf (gBl d)) s) Q) : Cont b K c E ow H (m s) (fun v H' => ∃ k, v = .bl k ∧ Q k H') := by
  unfold mBnd at q
  cases e : m s with
  | ok d s1 =>
    rw [e] at q
    intro v H' k o r
    obtain ⟨z, ez, q1⟩ := ofT_done q
    cases d with
    | bool kk =>
      cases ez
      exact ⟨z, r.bl, q1 H' k o⟩
    | _ => cases ez
  | ex C pl s1 => rw [e] at q; exact q
  | bad => rw [e] at q; exact q
/-- a <= b < c as a test -/
theorem jt_chain {b1 b2 b3 : Bool} {op op' : CmpOp} {r r' : R2} {g g' : D → D → Option D} {pos : Pos} (ho : OpR X (compareOp op) r) (ho' : OpR X (compareOp op') r') (hg : OkR2 X.K r g) (hg' : OkR2 X.K r' g')
    (h1 : JE b1 X c E ρ e1 m1) (h2 : JE b2 X c E ρ e2 m2) (h3 : JE b3 X c E ρ e3 m3) (hm : lastMarks [op, op'] [e2, e3] = false := by with_unfolding_all rfl) :
    JT X c E ρ (.Compare e1 [op, op'] [e2, e3] pos) (mBnd (mBnd m1 fun x => mBnd m2 fun y => mBnd (mOf (g x y)) fun d => match d with
      | .bool true => mBnd m3 fun z => mOf (g' y z)
      | .bool false => mRet (.bool false)
      | _ => mBad) fun d => mOf (gBl d)) :=
  JT.of (pt_chain ho ho' h1 h2 h3 hm) fun σ H Q' ⟨ow, s, T, q'⟩ => by
    have q := contT_E (b := false) (ow := ow) q'
    show tChain r r' _ _ _ σ H _
    refine two_at T q fun dx dy s2 x y H2 k2 St2 rx ry q2 => ?_
    cases e : g dx dy with
    | none =>
      rw [e] at q2
      exact q2.elim
    | some d =>
      rw [e] at q2
      refine hg St2 rx ry e fun v H3 k3 rv => ?_
      have St3 := St2.move (.same k3) (c.W.same St2.ok k3)
      cases d with
      | bool k =>
        cases rv
        refine ⟨k, rfl, ?_⟩
        cases k with
        | true =>
          refine bnd_at (f := fun z => mOf (g' dy z)) (b := b3) (b' := false) St3 (Cont.move (show Cont false X.K c E ow H2 (mBnd m3 (fun z => mOf (g' dy z)) s2) _ from q2) (.same k3)) fun dz s4 z H4 k4 St4 rz q4 => ?_
          exact ok2_run hg' St4 ((ry.keepM (.same k3) St2).keepM k4 St3) rz.up q4
        | false => exact q2 _ H3 (.same k3) St3.ok (.inl (.bl false))
      | _ => exact q2.elim
variable {elt tg it tst : Expr} {scope : Scope} {own : List (Str × Nat)} {pos : Pos} {g : TG} {tgt : D → En → Option En} {ts : List Nat} {mi : Mo S (List D)} {me : D → Mo S D} {mt : D → Mo S Bool}
theorem lst_bnd {ml : Mo S (List D)} {k : D → Mo S (Fl α)} : (mBnd (mBnd ml fun l => mRet (.list l)) k) = mBnd ml fun l => k (.list l) := by
  rw [mBnd_assoc]
  exact mBnd_fun fun l => mBnd_ret
theorem bs_setLc1 (i : Nat) {y : Str} {py spos : Pos} {k : D → Mo S (Fl α)} (hc : X.calm = true) (nd : X.N.Nodup) (hy : X.N[i]? = some y) (hyl : X.env.scope.names.lookup y = some .local)
    (hsw : swapsWith (.ListComp elt [⟨tg, it, [], 0⟩] scope pos) (some (.Name y py)) spos.line X.env = pure true) (hi : JI X c E ρ tg it mi) (ok : BlkOk X.N X.env.scope scope own)
    (hg : ∀ (s : Shared) (H : Hp) (C : Addr) (cl : List (Str × Addr)) (fp : List Addr), PG (bk X scope s H C cl fp) tg g) (ht : TgOk X.K g tgt ts)
    (hv : ∀ j ∈ ts, j ∈ own.map (·.2)) (hno : ∀ x, tgt x (wipeE ρ (own.map (·.2))) = none → me x = mBad)
    (he : ∀ (s : Shared) (H : Hp) (C : Addr) (cl : List (Str × Addr)) (fp : List Addr) (c' : Cf S) (x : D) (ρ' : En), tgt x (wipeE ρ (own.map (·.2))) = some ρ' → JE false (bk X scope s H C cl fp) c' E0 ρ' elt (me x))
    (hr : ∀ d, JSs X c E ρf (ρ.set i (some (.v d))) rest (k d)) (hs : ∀ x, foldedSetIterable it X.env x = pure x := by intro _; rfl) :
    JSs X c E ρf ρ (.Assign [.Name y py] (.ListComp elt [⟨tg, it, [], 0⟩] scope pos) spos :: rest) (mBnd (mBnd (mBnd mi fun xs => mComp (fun x => elt1 (me x)) xs []) fun l => mRet (.list l)) k) := by
  rw [lst_bnd]
  exact bs_setLc i hc nd hy hyl hsw hi ok hg ht hv hno he hr hs
theorem bs_setLcif1 (i : Nat) {y : Str} {py spos : Pos} {k : D → Mo S (Fl α)} (hc : X.calm = true) (nd : X.N.Nodup) (hy : X.N[i]? = some y) (hyl : X.env.scope.names.lookup y = some .local)
    (hsw : swapsWith (.ListComp elt [⟨tg, it, [tst], 0⟩] scope pos) (some (.Name y py)) spos.line X.env = pure true) (hi : JI X c E ρ tg it mi) (ok : BlkOk X.N X.env.scope scope own)
    (hg : ∀ (s : Shared) (H : Hp) (C : Addr) (cl : List (Str × Addr)) (fp : List Addr), PG (bk X scope s H C cl fp) tg g) (ht : TgOk X.K g tgt ts)
    (hv : ∀ j ∈ ts, j ∈ own.map (·.2)) (hno : ∀ x, tgt x (wipeE ρ (own.map (·.2))) = none → mt x = mBad)
    (hq : ∀ (s : Shared) (H : Hp) (C : Addr) (cl : List (Str × Addr)) (fp : List Addr) (c' : Cf S) (x : D) (ρ' : En), tgt x (wipeE ρ (own.map (·.2))) = some ρ' → JT (bk X scope s H C cl fp) c' E0 ρ' tst (mt x))
    (he : ∀ (s : Shared) (H : Hp) (C : Addr) (cl : List (Str × Addr)) (fp : List Addr) (c' : Cf S) (x : D) (ρ' : En), tgt x (wipeE ρ (own.map (·.2))) = some ρ' → JE false (bk X scope s H C cl fp) c' E0 ρ' elt (me x))
    (hr : ∀ d, JSs X c E ρf (ρ.set i (some (.v d))) rest (k d)) (hs : ∀ x, foldedSetIterable it X.env x = pure x := by intro _; rfl) :
    JSs X c E ρf ρ (.Assign [.Name y py] (.ListComp elt [⟨tg, it, [tst], 0⟩] scope pos) spos :: rest) (mBnd (mBnd (mBnd mi fun xs => mComp (fun x => eltIf (mt x) (me x)) xs []) fun l => mRet (.list l)) k) := by
  rw [lst_bnd]
  exact bs_setLcif i hc nd hy hyl hsw hi ok hg ht hv hno hq he hr hs
end
end Cz
namespace Cz
open PySem PySem.Spec PyProof.Rows L2
section
variable {S : Type} [WCl S] {b b1 : Bool} {X : Cx} {E : XK} {ρ : En} {e : Expr}
/-- xs[::-1], a new list -/
def mRev (m : Mo S D) : Mo S (List D) := mBnd m fun d => match d with
    | .list ds => mRet ds.reverse
    | _ => mBad
theorem jf_rev1 {c : Cf S} {m : Mo S D} {k : Nat} {p1 p2 p3 pos : Pos} (h : JE b1 X c E ρ e m) : JF X c E ρ (.Subscript e (.Slice none none (some (.UnaryOp .USub (.Constant (.int 1) k p1) p2)) p3) pos) (mRev m) := jf_rev h
def mScut {K : PySem.W.Frag} (mh : Mo (Sc K) (Option Int)) : Mo (Sc K) D := mBnd mh fun u => fun s => .ok (.list (cutD (s.ns.map .int) none u)) s
theorem je_scut1 {K : PySem.W.Frag} {c : Cf (Sc K)} (i : Nat) {x : Str} {xp p2 pos : Pos} {hi : Option Expr} {mh : Mo (Sc K) (Option Int)} (hρ : ρ[i]? = some (some (.opq 0))) (hh : JO X c E ρ hi mh) (hK : X.K = K := by rfl)
    (hN : X.N[i]? = some x := by rfl) (hv : Vis X.env.scope x := by first | exact .inl rfl | exact .inr (.inl rfl) | exact .inr (.inr rfl)) (hd : (x == ("__debug__" : Str)) = false := by decide) (hcd : (x == ("__classdict__" : Str)) = false := by decide) :
    JE b X c E ρ (.Subscript (.Name x xp) (.Slice none hi none p2) pos) (mScut mh) := by
  subst hK
  exact je_scut i hρ hh hN hv hd hcd
end
end Cz
namespace Cz
open PySem PySem.Spec PyProof.Rows L2
theorem je_deck1 {S : Type} [WCl S] {b : Bool} {X : Cx} {E : XK} {ρ : En} {c : Cf S} {e1 e2 e3 : Expr} {ml : Mo S (List D)} {m2 m3 : Mo S D} {kn : Str} {k1 k2 k3 : Nat} {c1 c2 c3 pos : Pos} (h1 : kn ≠ "mixed") (h2 : kn ≠ "draws") (ho1 : JF X c E ρ e1 ml) (ho2 : JE false X c E ρ e2 m2) (ho3 : JE false X c E ρ e3 m3) :
    JE b X c E ρ (.Dict [some (.Constant (.str kn) k1 c1), some (.Constant (.str "mixed") k2 c2), some (.Constant (.str "draws") k3 c3)] [e1, e2, e3] pos) (mDeckD kn ml m2 m3) :=
  je_deck h1 h2 ho1 ho2 ho3 (pps_cons pe_str ho1 (pps_cons pe_str ho2 (pps_cons pe_str ho3 pps_nil)))
end Cz
namespace Cz
open PySem PySem.Spec PyProof.Rows L2
/-- the names written out -/
theorem JSs.at {S : Type} [WCl S] {α : Type} {X : Cx} {c : Cf S} {E : XK} {ρf : α → En} {ρ : En} {sts : List Stmt} {m : Mo S (Fl α)} (ρ2 : En) (h : JSs X c E ρf ρ2 sts m) (e : ρ = ρ2 := by rfl) : JSs X c E ρf ρ sts m := e ▸ h
end Cz
set_option Elab.async false
set_option linter.all false
set_option maxRecDepth 100000
set_option maxHeartbeats 2000000
/-! sorted of a tuple or list of ints; xs[::-1] of tuples too; calls by position and by name. -/
namespace Cz
open PySem PySem.Spec PyProof.Rows L2
/-! ### sorted -/
section
variable {prog : Program} {w : World} {A : Around} {E : Value → Shared → Prop} {s : Shared}
/-- sorted(t), t a tuple: behind a heap h1 that keeps all, the new list -/
theorem sorted_tupO {t : Addr} {vs : List Value} {ltv : Value → Value → Bool} {Q : Value → Shared → Prop} (O : SrtO.Swo ltv) (ht : IsTup s.heap t vs.toArray) (hz : vs.length ≤ sizeLine)
    (hS : 2 ≤ vs.length → ∀ (g : Heap) (a : Addr), SrtO.SortableO prog w A.in1.in1 { s with heap := g } a vs ltv)
    (h : ∀ (g g' : Heap) (out : List Value), SrtO.Srtd ltv out → SrtO.Stb ltv out vs → (∀ b o, s.heap.get? b = some o → g.get? b = some o) → (∀ b o, g.get? b = some o → g'.get? b = some o) →
      (∃ e, g'.get? g.objs.size = some (seqObj "list" out.toArray e)) → Q (.ref g.objs.size) { s with heap := g' }) : wpAny (model prog w) A (call (.builtin "sorted") [.ref t]) Q E s := by
  obtain ⟨o, ho, hc, n, hd⟩ := ht
  refine Calls.call_function_entry (kind_sorted) (plain_sorted) (entry_sorted) (args_sorted1 _) ?_
  unfold Builtin.«sorted»
  refine wpAny_bind (m := checkCount "sorted" 1 _ _) (wpAny_pure ?_)
  refine wpAny_bind (wpAny_collect_seq (T := "tuple") t (.inr rfl) ho hc hd (fun g k => ?_) (by simpa using hz))
  have et : vs.toArray.toList = vs := by simp
  rw [et]
  refine wpAny_bind (wpAny_newList (s := { s with heap := g }) ?_ hz)
  have hL : (g.push (seqObj "list" vs.toArray 0)).get? g.objs.size = some (seqObj "list" vs.toArray 0) := Heap.get?_push_size _ rfl
  show wpAny _ _ _ _ _ { s with heap := g.push (seqObj "list" vs.toArray 0) }
  refine wpAny_bind (wpAny_holding (wpAny_call_entry slot_list_sort (⟨_, hL, rfl⟩) entry_list_sort (SrtO.list_sort_ord (s := { s with heap := g.push (seqObj "list" vs.toArray 0) }) O hL hz (fun h2 => hS h2 _ _) fun out h1 h2 => ⟨_, rfl, ?_⟩) (args_list_sort _)))
  refine wpAny_pure ⟨_, rfl, h g _ out h1 h2 k (fun b o e => ?_) (sortedHeap_at hL)⟩
  rw [sortedHeap_old (Nat.ne_of_lt (Heap.lt_size e)) (Nat.lt_of_lt_of_le (Heap.lt_size e) (by rw [size_push']; omega))]
  exact Heap.get?_push_of_some _ e
end
section
variable {X : Cx}
def rSortedT (K : PySem.W.Frag) : List V → Hp → VK → Prop := fun vs H Q => ∃ (a : Addr) (ns : List Int), vs = [V.ref a] ∧ SqT K H a (ns.map V.int) ∧
  ∀ (ms : List Int) (l : Addr), ms.Perm ns → ms.Pairwise (· ≤ ·) → H l = none → Q (.ref l) (upd H l (.lst (ms.map V.int)))
theorem cr_sortedTup : CallR X (.builtin "sorted") (rSortedT X.K) := by
  intro pins s σ H vs us Q I r ⟨a, ns, e, hs, q⟩
  subst e
  obtain ⟨its, rv, hl, hz⟩ := I.tuple hs
  rw [Vals.ref1 r]
  have hi := rv.ints
  refine sorted_tupO SrtO.swo_int hl (by rw [← rv.length]; exact hz) (fun h2 g a' => SrtO.ints_sortable (a := a') (s := { s with heap := g }) hi h2) fun g g' out h1 h2 k k' he => ?_
  obtain ⟨k1, k2, k3⟩ := SrtO.ints_out hi h1 h2
  obtain ⟨ep, he'⟩ := he
  have hlen : ((out.map SrtO.iv).map V.int).length ≤ sizeLine := by rw [List.length_map, k2.length_eq, ← List.length_map (f := V.int)]; exact hz
  have I1 : L2.Inv X pins σ H { s with heap := g } := I.kept (t' := s.toks) k
  exact ⟨.ref g.objs.size, upd H g.objs.size (.lst ((out.map SrtO.iv).map V.int)), I1.laid (t' := s.toks) (o := .lst ((out.map SrtO.iv).map V.int)) k' (Nat.le_refl _) ⟨hlen, out, ep, vals_of_ints k1, he'⟩, rfl, q _ _ k2 k3 (I1.hok.fresh (Nat.le_refl _))⟩
def intsOfD : List D → Option (List Int)
  | [] => some []
  | .int i :: r => (intsOfD r).map (i :: ·)
  | _ :: _ => none
def sortI (ns : List Int) : List Int := ns.mergeSort fun a b => decide (a ≤ b)
theorem sortI_perm (ns : List Int) : (sortI ns).Perm ns := List.mergeSort_perm _ _
theorem sortI_sorted (ns : List Int) : (sortI ns).Pairwise (· ≤ ·) := by
  have h := List.pairwise_mergeSort (le := fun (a b : Int) => decide (a ≤ b)) (fun a b c h1 h2 => by simp only [decide_eq_true_eq] at *; omega) (fun a b => by simp only [Bool.or_eq_true, decide_eq_true_eq]; omega) ns
  exact h.imp fun h => of_decide_eq_true h
theorem sortI_eq {ns ms : List Int} (p : ms.Perm ns) (h : ms.Pairwise (· ≤ ·)) : ms = sortI ns :=
  List.Perm.eq_of_pairwise (fun a b _ _ h1 h2 => Int.le_antisymm h1 h2) h (sortI_sorted ns) (p.trans (sortI_perm ns).symm)
/-- equal when sorted: the same items -/
theorem sortI_iff {ns ms : List Int} : sortI ns = sortI ms ↔ ns.Perm ms :=
  ⟨fun h => (sortI_perm ns).symm.trans (h ▸ sortI_perm ms), fun p => sortI_eq ((sortI_perm ns).trans p) (sortI_sorted ns)⟩
def gSorted : List D → Option D
  | [.list ds] => (intsOfD ds).map fun ns => .list ((sortI ns).map .int)
  | [.tuple ds] => (intsOfD ds).map fun ns => .list ((sortI ns).map .int)
  | _ => none
theorem intsOfD_some : ∀ {ds : List D} {ns : List Int}, intsOfD ds = some ns → ds = ns.map .int
  | [], ns, h => by cases h; rfl
  | .int i :: r, ns, h => by
    cases e : intsOfD r with
    | none => rw [show intsOfD (.int i :: r) = (intsOfD r).map (i :: ·) from rfl, e] at h; cases h
    | some ms =>
      rw [show intsOfD (.int i :: r) = (intsOfD r).map (i :: ·) from rfl, e] at h
      cases h
      rw [intsOfD_some e]
      rfl
  | .bool _ :: _, _, h => by cases h
  | .none :: _, _, h => by cases h
  | .str _ :: _, _, h => by cases h
  | .list _ :: _, _, h => by cases h
  | .tuple _ :: _, _, h => by cases h
  | .dict _ :: _, _, h => by cases h
theorem ok_sorted {K : PySem.W.Frag} : OkRn K (fun xs H Q => rSortedI K xs H Q ∨ rSortedT K xs H Q) gSorted := by
  intro S _ c ow ρ σ H s xs ds d Q T rx e q
  match ds, rx with
  | [d0], rx =>
    obtain ⟨v, rfl, r⟩ := rx.one
    cases d0 with
    | list ys =>
      obtain ⟨p, vs, rfl, hp, r1⟩ := r.list
      cases ei : intsOfD ys with
      | none => rw [show gSorted [.list ys] = (intsOfD ys).map _ from rfl, ei] at e; cases e
      | some ns =>
        rw [show gSorted [.list ys] = (intsOfD ys).map _ from rfl, ei] at e
        cases e
        rw [intsOfD_some ei] at r1
        obtain rfl := r1.ints
        exact .inl ⟨p, ns, rfl, SqL.of hp, fun ns' l k1 k2 n => by
          obtain rfl := sortI_eq k1 k2
          exact q _ _ (same_new n) (rep_lst T n (Reps.of_ints _))⟩
    | tuple ys =>
      obtain ⟨p, vs, rfl, hp, r1⟩ := r.tuple
      cases ei : intsOfD ys with
      | none => rw [show gSorted [.tuple ys] = (intsOfD ys).map _ from rfl, ei] at e; cases e
      | some ns =>
        rw [show gSorted [.tuple ys] = (intsOfD ys).map _ from rfl, ei] at e
        cases e
        rw [intsOfD_some ei] at r1
        obtain rfl := r1.ints
        exact .inr ⟨p, ns, rfl, hp, fun ns' l k1 k2 n => by
          obtain rfl := sortI_eq k1 k2
          exact q _ _ (same_new n) (rep_lst T n (Reps.of_ints _))⟩
    | _ => cases e
  | [], _ => cases e
  | a :: _ :: _, _ => cases a <;> cases e
theorem cr_sortedLT : CallR X (.builtin "sorted") (fun xs H Q => rSortedI X.K xs H Q ∨ rSortedT X.K xs H Q) := callr_or cr_sortedI cr_sortedTup
end
end Cz
set_option Elab.async false
set_option linter.all false
set_option maxRecDepth 100000
set_option maxHeartbeats 2000000
namespace Cz
open PySem PySem.Spec PyProof.Rows L2
/-! ### xs[::-1], a list or a tuple -/
section
variable {prog : Program} {w : World} {A : Around} {E : Value → Shared → Prop} {s : Shared}
theorem adjR (n : Nat) : Builtin.Slice.sliceAdjust none none (-1) (n : Int) = ((n : Int) - 1, -1) := by
  unfold Builtin.Slice.sliceAdjust
  simp
theorem plcR (n : Nat) : Builtin.Slice.slicePlaces ((n : Int) - 1) (-1) (-1) = n := by
  unfold Builtin.Slice.slicePlaces
  simp
  split <;> omega
theorem pickR (xs : Array Value) : ((List.range xs.size).filterMap fun (k : Nat) => xs[((xs.size : Int) - 1 + (k : Int) * -1).toNat]?) = xs.toList.reverse := by
  have go : ∀ l : List Nat, (∀ k ∈ l, k < xs.size) → List.filterMap (fun (k : Nat) => xs[((xs.size : Int) - 1 + (k : Int) * -1).toNat]?) l = List.filterMap (fun k => xs[k]?) (l.map fun k => xs.size - 1 - k) := by
    intro l
    induction l with
    | nil => intro _; rfl
    | cons k r ih =>
      intro hl
      have h1 := hl k List.mem_cons_self
      have e1 : ((xs.size : Int) - 1 + (k : Int) * -1).toNat = xs.size - 1 - k := by omega
      simp only [List.filterMap_cons, List.map_cons, e1, ih fun z hz => hl z (List.mem_cons_of_mem _ hz)]
  have e := go (List.range xs.size) fun k hk => List.mem_range.mp hk
  rw [e, PySem.W.krv_range, List.filterMap_reverse, PySem.W.krv_all]
theorem sliceR {sl : Addr} {u : Tok} {n : Nat} {Q : Int × Int × Nat → Shared → Prop} (hs : s.heap.IsSliceOf sl .none .none (.int (-1) u)) (h : Q ((n : Int) - 1, -1, n) s) : wpAny (model prog w) A (Builtin.Slice.sliceApplied (.ref sl) (pure (n : Int))) Q E s := by
  obtain ⟨os, ho, _, hd⟩ := id hs
  unfold Builtin.Slice.sliceApplied
  refine wpAny_bind ?_
  · unfold Builtin.Slice.sliceFields
    refine wpAny_bind (wpAny_field ho hd (x := .none) rfl (wpAny_bind (wpAny_field ho hd (x := .none) rfl (wpAny_bind (wpAny_field ho hd (x := .int (-1) u) rfl (wpAny_pure ?_))))))
    refine wpAny_bind (slicePart_int ?_)
    have e0 : ¬ (((some (-1 : Int)).getD 1 == 0) = true) := by decide
    rw [if_neg e0]
    refine wpAny_bind (slicePart_none (wpAny_bind (slicePart_none (wpAny_bind (wpAny_pure ?_)))))
    show wpAny _ _ (match Builtin.Slice.sliceAdjust none none (-1) (n : Int) with | (a, b) => pure (a, (-1 : Int), Builtin.Slice.slicePlaces a b (-1))) _ _ s
    rw [adjR]
    show wpAny _ _ (pure ((n : Int) - 1, (-1 : Int), Builtin.Slice.slicePlaces ((n : Int) - 1) (-1) (-1))) _ _ s
    rw [plcR]
    exact wpAny_pure h
theorem itemR {t sl : Addr} {u : Tok} {items : Array Value} {Q : Value → Shared → Prop} (ht : IsTup s.heap t items) (hs : s.heap.IsSliceOf sl .none .none (.int (-1) u))
    (h : Q (.ref s.heap.objs.size) { s with heap := s.heap.push { cls := .type "tuple", data := .seq items.toList.reverse.toArray } }) (hz : items.size ≤ sizeLine) : wpAny (model prog w) A (getItem (.ref t) (.ref sl)) Q E s := by
  obtain ⟨os, ho, hc, hd⟩ := id hs
  have hT : s.TypeIs (.ref sl) "slice" := ⟨os, ho, hc⟩
  have hz' : sizeOk (.seq items.toList.reverse.toArray) := by
    show items.toList.reverse.toArray.size ≤ sizeLine
    simpa using hz
  unfold getItem
  try with_reducible refine wpAny_holding ?_; first | refine wpAny_bind (wpAny_pure ?_) | skip
  refine wpAny_bind (wpAny_sequenceKey (ht.typeIs) (by decide) ?_)
  refine wpAny_bind (wpAny_callSpecial?_slot (name := Str.ofString "__getitem__") ht.typeIs PyProof.Rows.slot_tuple_getitem (wpAny_call_entry PyProof.Rows.slot_tuple_getitem ht.typeIs PyProof.Rows.entry_tuple_getitem ?_ (PyProof.Rows.args_tuple_getitem _ _)))
  refine wpAny_bind (m := Builtin.Tuple.tupleItemsOf (.ref t)) (tupleItemsOf_ ht ?_)
  refine wpAny_bind (wpAny_typeOf hT ?_)
  rw [if_pos (show (Value.type "slice" == .type "slice") = true by decide)]
  refine wpAny_bind (sliceR (n := items.size) hs ?_)
  have e1 : ¬ (((((items.size : Int) - 1 == 0) && ((-1 : Int) == 1)) && items.size == items.size) = true) := by simp
  show wpAny _ _ (if ((((items.size : Int) - 1 == 0) && ((-1 : Int) == 1)) && items.size == items.size) = true then _ else _) _ _ s
  rw [if_neg e1]
  have e2 := pickR items
  rw [e2]
  first
    | exact wpAny_bind (m := Builtin.Tuple.tupleExact _) (wpAny_newObj_type (wpAny_pure ⟨_, rfl, wpAny_pure h⟩) hz')
    | exact wpAny_bind (m := Builtin.Tuple.tupleExact _) (wpAny_newObj_type (wpAny_bind (wpAny_pure (wpAny_pure ⟨_, rfl, wpAny_pure h⟩))) hz')
    | exact wpAny_bind (wpAny_bind (m := Builtin.Tuple.tupleExact _) (wpAny_newObj_type (wpAny_pure (wpAny_pure ⟨_, rfl, wpAny_pure h⟩)) hz'))
    | exact wpAny_bind (wpAny_bind (m := Builtin.Tuple.tupleExact _) (wpAny_newObj_type (wpAny_pure ⟨_, rfl, wpAny_pure h⟩) hz'))
end
def tRevA (K : PySem.W.Frag) (te : TE) : TE := fun σ H Q => te σ H fun x H1 => ∃ a xs, x = .ref a ∧ ((SqL K H1 a xs ∧ ∀ p, H1 p = none → Q (.ref p) (upd H1 p (.lst xs.reverse))) ∨ (SqT K H1 a xs ∧ ∀ p o, H1 p = none → o.dict = none → Q (.ref p) (upd H1 p (.frz o (.tup xs.reverse)))))
theorem pe_revA {X : Cx} {e : Expr} {te : TE} {k : Nat} {p1 p2 p3 pos : Pos} (he : PE X e te) : PE X (.Subscript e (.Slice none none (some (.UnaryOp .USub (.Constant (.int 1) k p1) p2)) p3) pos) (tRevA X.K te) := by
  refine ⟨fun pins s σ H Q I h => Subscript_ (thn (he.run pins s σ H _ I h) fun v s1 ⟨x, H1, I1, r1, q1⟩ => ?_)⟩
  obtain ⟨a, xs, rfl, q⟩ := q1
  cases r1
  have st : PO X (some (.UnaryOp .USub (.Constant (.int 1) k p1) p2)) (tPart (tUn (rU fun i => .int (-i)) (tC (.int 1)))) := po_some (pe_un un_neg pe_int)
  have nn := po_none (X := X)
  refine wpAny_Slice (thn (nn.run pins s1 σ H1 (fun o K2 => o = none ∧ K2 = H1) I1 ⟨rfl, rfl⟩) fun vl s2 ⟨l, K2, I2, pl, e2⟩ => ?_)
  obtain ⟨rfl, rfl⟩ := e2
  refine thn (nn.run pins s2 σ K2 (fun o K3 => o = none ∧ K3 = K2) I2 ⟨rfl, rfl⟩) fun vu s3 ⟨u, K3, I3, pu, e3⟩ => ?_
  obtain ⟨rfl, rfl⟩ := e3
  refine thn (st.run pins s3 σ K3 (fun o K4 => o = some (-1) ∧ K4 = K3) I3 ⟨1, rfl, -1, rfl, rfl, rfl⟩) fun vs s4 ⟨o, K4, I4, ps, e4⟩ => ?_
  obtain ⟨rfl, rfl⟩ := e4
  have I5 : L2.Inv X pins σ K4 { s4 with heap := s4.heap.push { cls := .type "slice", data := .fields #[vl, vu, vs] } } := I4.kept (t' := s4.toks) fun b ob q => Heap.get?_push_of_some _ q
  show wpAny (model X.prog X.w) X.A (subscriptTail e (.Slice none none (some (.UnaryOp .USub (.Constant (.int 1) k p1) p2)) p3) (.ref a) (.ref s4.heap.objs.size)) _ _ _
  rcases q with ⟨hx, q⟩ | ⟨hx, q⟩
  · obtain ⟨its, r, ht, hz⟩ := I5.list hx
    have hl := r.length
    refine tail_any (ops := [.ref a, .ref s4.heap.objs.size]) (ht.isList.typeIs) PySem.slot_list_getitem.lookup ?_ (by with_unfolding_all rfl)
    refine wpAny_getItem_list_slice ht.isList (Heap.IsSliceOf.new _ vl vu vs) pl pu ps (by decide) ?_ (by simp only [List.size_toArray] <;> omega)
    rw [PySem.W.krv_pick]
    exact ⟨.ref _, _, I5.laid (t' := s4.toks) (o := .lst xs.reverse) (fun b ob q => Heap.get?_push_of_some _ q) (Nat.le_refl _) ⟨by rw [List.length_reverse]; exact hz, _, 0, r.reverse, Heap.get?_push_size _ rfl⟩, rfl, q _ (I5.hok.fresh (Nat.le_refl _))⟩
  · obtain ⟨its, r, ht, hz⟩ := I5.tuple hx
    have hl := r.length
    cases pl
    cases pu
    cases ps with
    | int i u =>
      refine tail_any (ops := [.ref a, .ref s4.heap.objs.size]) ht.typeIs (PyProof.Rows.slot_tuple_getitem.lookup) ?_ (by with_unfolding_all rfl)
      refine itemR ht (Heap.IsSliceOf.new _ _ _ _) ?_ (by simp only [List.size_toArray] <;> omega)
      exact ⟨.ref _, _, laidT (t' := s4.toks) (us := its.reverse) I5 (fun b ob q => Heap.get?_push_of_some _ q) (Nat.le_refl _) (Heap.get?_push_size _ rfl) r.reverse (by rw [List.length_reverse]; exact hz), rfl, q _ _ (I5.hok.fresh (Nat.le_refl _)) rfl⟩
def gRev : D → Option D
  | .list ds => some (.list ds.reverse)
  | .tuple ds => some (.tuple ds.reverse)
  | _ => none
theorem je_rev {S : Type} [WCl S] {b b1 : Bool} {X : Cx} {c : Cf S} {E : XK} {ρ : En} {e : Expr} {m : Mo S D} {k : Nat} {p1 p2 p3 pos : Pos} (h : JE b1 X c E ρ e m) :
    JE b X c E ρ (.Subscript e (.Slice none none (some (.UnaryOp .USub (.Constant (.int 1) k p1) p2)) p3) pos) (mBnd m fun d => mOf (gRev d)) :=
  JE.of (pe_revA h) fun σ H Q ⟨ow, s, T, q⟩ => bnd_at (b := b1) T q fun d s1 v H1 k1 T1 r q1 => by
    obtain ⟨d', eg, q2⟩ := of_done T1 q1
    cases d with
    | list ds =>
      cases eg
      obtain ⟨p, xs, rfl, hp, rr⟩ := r.list
      exact ⟨p, xs, rfl, .inl ⟨SqL.of hp, fun p2 n => done_new T1 q2 n (rep_lst T1 n rr.rev)⟩⟩
    | tuple ds =>
      cases eg
      obtain ⟨p, xs, rfl, hp, rr⟩ := r.tuple
      exact ⟨p, xs, rfl, .inr ⟨hp, fun p2 o n dn => done_new T1 q2 n (rep_tup dn n rr.rev)⟩⟩
    | _ => cases eg
end Cz
namespace Cz
open PySem PySem.Spec PyProof.Rows L2
/-- a call by n positions and by the names ks behind them: the parameters in the order ix -/
def Cal.BN {S : Type} [WCl S] {P : Program} {w : World} {K : PySem.W.Frag} {mg : Str → Option Value} {base : Heap} {k : Nat} {x : Str} {ps : List Str} {pt : List (Option Nat)} {mf : List D → Mo S D} (C : Cal P w K mg base k x ps pt mf) (ks : List Str) (n : Nat) (ix : List Nat) : Prop := BindsK K C.fd ps ks n ix
end Cz
set_option Elab.async false
set_option linter.all false
set_option maxRecDepth 100000
set_option maxHeartbeats 4000000
/-! enumerate and zip of lists and tuples. -/
namespace Cz
open PySem PySem.Spec PyProof.Rows L2
/-! ### enumerate(x), x told by how its iterator begins -/
theorem meets_enum1 {v : Value} {o : Obj} {Hb : Heap → Prop} (B : Begins v o Hb) :
    Meets (Builtin.«enumerate.__new__» ⟨[.type "enumerate", v], []⟩) (fun _ R s => Hb s.heap ∧ R (.ok (.ret (.ref (s.heap.push o).objs.size)))
      { s with heap := (s.heap.push o).push { cls := .type "enumerate", data := .fields #[.none, .bool false, .ref s.heap.objs.size, rawInt 0, .none, .none] } }) :=
  .of_wp fun prog w A R s h => by
    obtain ⟨hp, g, d, tk, os⟩ := s
    obtain ⟨hb, h⟩ := h
    have hsub := sub_enumerate
    have go : ∀ {A' : Around} {E : Value → Shared → Prop} {Q : Value → Shared → Prop}, Q (.ref hp.objs.size) ⟨hp.push o, g, d, tk, os⟩ → wpAny (model prog w) A' (pyIter v) Q E ⟨hp, g, d, tk, os⟩ := fun q => B.iter prog w _ _ ⟨hp, g, d, tk, os⟩ _ hb q
    wp_walk using go
    refine wpAny_stack_any fun st => wpAny_pure ?_
    split
    · rename_i k _ _ _ _ _
      cases (k == Value.type "enumerate") <;> (wp_walk using go; exact ⟨_, rfl, h⟩)
    · wp_walk using go; exact ⟨_, rfl, h⟩
section
variable {prog : Program} {w : World} {A : Around} {E : Value → Shared → Prop} {s : Shared}
theorem enum1_call {v : Value} {o : Obj} {Hb : Heap → Prop} {Q : Value → Shared → Prop} (B : Begins v o Hb) (hb : Hb s.heap)
    (h : ∀ h', IsEnum h' (s.heap.objs.size + 1) s.heap.objs.size 0 .none → h'.get? s.heap.objs.size = some o → (∀ b u, s.heap.get? b = some u → h'.get? b = some u) → Q (.ref (s.heap.objs.size + 1)) { s with heap := h' }) :
    wpAny (model prog w) A (call (.type "enumerate") [v]) Q E s := by
  refine callType_new F.called_enumerate (by decide) (F.typeCall_enumerate_1 _) (F.newCall_enumerate_1 _) (fun x => F.args_object_init_2 x _) F.entry_enumerate_new (meets_enum1 B) ⟨hb, ?_⟩
  have hz : (s.heap.push o).objs.size = s.heap.objs.size + 1 := Heap.size_push ..
  show _ ∧ _
  rw [hz]
  have he : IsEnum ((s.heap.push o).push { cls := .type "enumerate", data := .fields #[.none, .bool false, .ref s.heap.objs.size, rawInt 0, .none, .none] }) (s.heap.objs.size + 1) s.heap.objs.size 0 .none := hz ▸ Heap.get?_push_size (s.heap.push o) (o := { cls := .type "enumerate", data := .fields #[.none, .bool false, .ref s.heap.objs.size, rawInt 0, .none, .none] }) rfl
  exact ⟨⟨_, he, rfl⟩, h _ he (Heap.get?_push_of_some _ (Heap.get?_push_size _ B.free)) fun b u x => Heap.get?_push_of_some _ (Heap.get?_push_of_some _ x)⟩
end
/-! ### lists and tuples alike -/
inductive SK | l | t
def SK.rd (K : PySem.W.Frag) (k : SK) (H : Hp) (a : Addr) (xs : List V) : Prop := match k with
  | .l => SqL K H a xs
  | .t => SqT K H a xs
def SK.obj (k : SK) (h : Heap) (a : Addr) (its : Array Value) : Prop := match k with
  | .l => h.IsList a its
  | .t => h.IsTuple a its
def SK.iter (k : SK) (h : Heap) (it a : Addr) (i : Nat) : Prop := match k with
  | .l => h.IsListIter it a i
  | .t => h.IsTupleIter it a i
def SK.itO (k : SK) (a : Addr) : Obj := match k with
  | .l => { cls := .type "list_iterator", data := .fields #[.ref a, .int 0 0] }
  | .t => { cls := .type "tuple_iterator", data := .fields #[.ref a, .int 0 0] }
theorem SK.begins (k : SK) (a : Addr) (its : Array Value) : Begins (.ref a) (k.itO a) fun h => k.obj h a its := match k with
  | .l => begins_list a its
  | .t => begins_tuple a its
theorem SK.iter0 {k : SK} {h : Heap} {it a : Addr} (e : h.get? it = some (k.itO a)) : k.iter h it a 0 := match k, e with
  | .l, e => ⟨_, e, rfl, rfl⟩
  | .t, e => ⟨_, e, rfl, rfl⟩
theorem SK.draws {prog : Program} {w : World} {A : Around} (hh : A.handled = none) (k : SK) {it a : Addr} (hne : a ≠ it) (its : Array Value) : Draws prog w A it [it, a] its.size (fun i v => its[i]? = some v) (fun i h => k.iter h it a i ∧ k.obj h a its) := match k with
  | .l => Draws.list hh it a hne its
  | .t => Draws.tuple hh it a hne its
theorem SK.of {X : Cx} {pins : List (Addr × Obj)} {σ : L2.St} {H : Hp} {s : Shared} {k : SK} {a : Addr} {xs : List V} (I : L2.Inv X pins σ H s) (h : k.rd X.K H a xs) : ∃ its : List Value, Vals xs its ∧ k.obj s.heap a its.toArray := match k, h with
  | .l, h => let ⟨its, r, p, _⟩ := I.list h; ⟨its, r, p.isList⟩
  | .t, h => let ⟨its, r, p, _⟩ := I.tuple h; ⟨its, r, p⟩
theorem SK.inj {X : Cx} {pins : List (Addr × Obj)} {σ : L2.St} {H : Hp} {s : Shared} {k : SK} {a : Addr} {xs ys : List V} (I : L2.Inv X pins σ H s) (h : k.rd X.K H a xs) (h' : k.rd X.K H a ys) : xs = ys := match k, h, h' with
  | .l, h, h' => I.list_inj h h'
  | .t, h, h' => I.tuple_inj h h'
theorem SK.at {k : SK} {h h' : Heap} {it a : Addr} {i : Nat} (st : k.iter h it a i) (q : ∀ o, h.get? it = some o → h'.get? it = some o) : k.iter h' it a i := match k, st with
  | .l, st => st.at fun o e => q o e
  | .t, st => st.at fun o e => q o e
theorem SK.itobj {k : SK} {h : Heap} {it a : Addr} {i : Nat} (st : k.iter h it a i) : ∃ o, h.get? it = some o ∧ (∀ v, o.data ≠ .cell v) ∧ o.cls ≠ .type "enumerate" ∧ o.cls ≠ .type "zip" ∧ o.cls ≠ .type "list" ∧ o.cls ≠ .type "tuple" := match k, st with
  | .l, ⟨o, e, c, d⟩ => ⟨o, e, (fun v z => by rw [d] at z; cases z), (by rw [c]; decide), (by rw [c]; decide), (by rw [c]; decide), (by rw [c]; decide)⟩
  | .t, ⟨o, e, c, d⟩ => ⟨o, e, (fun v z => by rw [d] at z; cases z), (by rw [c]; decide), (by rw [c]; decide), (by rw [c]; decide), (by rw [c]; decide)⟩
theorem SK.cls {k : SK} {h : Heap} {a : Addr} {its : Array Value} (p : k.obj h a its) : ∃ o, h.get? a = some o ∧ (o.cls = .type "list" ∨ o.cls = .type "tuple") := match k, p with
  | .l, ⟨o, e, c, _⟩ => ⟨o, e, .inl c⟩
  | .t, ⟨o, e, c, _⟩ => ⟨o, e, .inr c⟩
theorem SK.ne_it {k k' : SK} {h : Heap} {a b it : Addr} {its : Array Value} {i : Nat} (p : k.obj h a its) (st : k'.iter h it b i) : a ≠ it := fun z => by
  subst z
  obtain ⟨o, e, c⟩ := (SK.cls p)
  obtain ⟨o', e', _, _, _, c1, c2⟩ := SK.itobj st
  rw [e] at e'
  cases e'
  exact c.elim c1 c2
section
variable {prog : Program} {w : World} {A : Around} {E : Value → Shared → Prop} {s : Shared}
theorem SK.next_end {k : SK} {it a : Addr} {i : Nat} {its : Array Value} {Q : Value → Shared → Prop} (hh : A.handled = none) (st : k.iter s.heap it a i) (p : k.obj s.heap a its) (hx : its[i]? = none)
    (hE : ∀ h' e, Heap.ExtBut it s.heap h' → (∃ o, h'.get? e = some o ∧ o.cls = .type "StopIteration") → E (.ref e) { s with heap := h' }) : wpAny (model prog w) A (Builtin.SmallTypes.nextOf (.ref it)) Q E s := match k, st, p with
  | .l, st, p => wpAny_nextOf_list_end hh st p hx hE
  | .t, st, p => wpAny_nextOf_tuple_end hh st p hx hE
theorem enum_over {k : SK} {e it a : Addr} {i : Nat} {j : Int} {old : Value} {its : Array Value} {Q : Option Value → Shared → Prop} (hh : A.handled = none) (he : IsEnum s.heap e it j old) (st : k.iter s.heap it a i) (p : k.obj s.heap a its) (hx : its[i]? = none)
    (hQ : ∀ h', Heap.ExtBut it s.heap h' → Q none { s with heap := h' }) : wpAny (model prog w) A (pyNext (.ref e)) Q E s := by
  have T : s.TypeIs (.ref e) "enumerate" := ⟨_, he, rfl⟩
  unfold pyNext
  refine wpAny_bind (wpAny_attempt (wpAny_callSpecial?_slot (name := Str.ofString "__next__") T F.slot_enumerate_next (wpAny_call_entry F.slot_enumerate_next T F.entry_enumerate_next ?_ (F.args_enumerate_next_1 _))))
  show wpAny _ _ (field (.ref e) 2 >>= _) _ _ _
  refine wpAny_bind (wpAny_field he rfl (x := .ref it) rfl (wpAny_bind (SK.next_end (by exact hh) st p hx fun h' x hb ⟨o, ho, hc⟩ => ?_)))
  exact wpAny_bind (wpAny_isInstance (T := "StopIteration") (b := true) ⟨o, ho, hc⟩ isSubtype_stop (wpAny_pure (hQ _ hb)))
end
/-! ### enumerate, its turns: new pairs -/
def ItE (K : PySem.W.Frag) (k : SK) (a : Addr) : It :=
  ⟨fun i H => ∃ (xs : List V) (x : V), k.rd K H a xs ∧ xs[i]? = some x,
   fun i H v H' => ∃ T x o, v = .ref T ∧ H T = none ∧ o.dict = none ∧ H' = upd H T (.frz o (.tup [.int (i : Nat), x])) ∧ ∀ xs, k.rd K H a xs → xs[i]? = some x,
   fun i H => ∃ xs : List V, k.rd K H a xs ∧ xs.length ≤ i⟩
theorem turnE {P : Program} {w : World} {K : PySem.W.Frag} {elts : List Expr} {kk : Nat} {tpos : Pos} (k : SK) (a e it : Addr) :
    Turn P w K (.Tuple elts kk tpos) (ItE K k a) [e, it] e (fun i h => (∃ old, IsEnum h e it ((i : Nat) : Int) old) ∧ k.iter h it a i ∧ e ≠ it) where
  mem := List.mem_cons_self
  obj := fun i h ⟨⟨old, he⟩, hi, _⟩ b hb => by
    rcases List.mem_cons.mp hb with z | hb
    · rw [z]
      exact ⟨_, he, fun v q => nomatch q⟩
    · rw [List.mem_singleton.mp hb]
      obtain ⟨o, q, c, _⟩ := SK.itobj hi
      exact ⟨o, q, c⟩
  keep := fun i h h' ⟨⟨old, he⟩, hi, hne⟩ k => ⟨⟨old, k e (by simp) _ he⟩, SK.at hi fun o q => k it (by simp) o q, hne⟩
  item := by
    intro X hP hw hK hc i pins s σ H E I hf ⟨⟨old, he⟩, hit, hne⟩ ⟨xs, x, hq, hx⟩
    subst hP hw hK
    obtain ⟨its, rv, p⟩ := SK.of I hq
    obtain ⟨u, hu, ru⟩ := rv.get hx
    have hel : e < s.heap.objs.size := Heap.lt_size he
    have hil : it < s.heap.objs.size := by obtain ⟨o, q, _⟩ := SK.itobj hit; exact Heap.lt_size q
    have hai : a ≠ it := SK.ne_it p hit
    have hea : e ≠ a := fun z => by
      obtain ⟨o, q, c⟩ := (SK.cls p)
      rw [← z, he] at q
      cases q
      exact c.elim (fun z => absurd (Value.type.inj z) (by decide)) fun z => absurd (Value.type.inj z) (by decide)
    refine wpAny_pyNext_enum_itemD (SK.draws (by exact I.ok.hd hc) k hai its.toArray) he ⟨hit, p⟩ (by have := (List.getElem?_eq_some_iff.mp hu).1; simpa using this) hne (by simp [hne, hea]) fun y h' tk hy ho hst' hT hsz hk => ?_
    obtain rfl : y = u := by
      have : its.toArray[i]? = some u := by simpa using hu
      rw [this] at hy
      exact (Option.some.inj hy).symm
    refine ⟨_, rfl, wpAny_letOwnedTupleGo_enum (s := { s with heap := h', toks := tk + 1 }) ho fun h2 he2 sb => ?_⟩
    have hT2 : h2.get? s.heap.objs.size = some { cls := .type "tuple", data := .seq #[.int i tk, y] } := (sb.2 _ (Nat.ne_of_gt hel)).trans hT
    have new : ObjOk X.prog X.w (upd H s.heap.objs.size (.frz { cls := .type "tuple", data := .seq #[.int i tk, y] } (.tup [.int (i : Nat), x]))) h2 s.heap.objs.size (.frz { cls := .type "tuple", data := .seq #[.int i tk, y] } (.tup [.int (i : Nat), x])) :=
      ⟨hT2, by show 2 ≤ sizeLine; decide, [.int i tk, y], .cons ⟨_, rfl⟩ (.cons ru .nil), ⟨_, hT2, rfl, _, rfl⟩⟩
    have I1 := I.turnedNew (t' := tk + 1) (ch := [e, it]) (fun b ob hb q => (sb.2 b (fun z => hb (by simp [z]))).trans (hk b ob (fun z => hb (by simp [z])) (fun z => hb (by simp [z])) q)) hf (Nat.le_refl _) new
    refine ⟨.ref s.heap.objs.size, _, I1, rfl, ⟨_, x, _, rfl, I.hok.fresh (Nat.le_refl _), rfl, rfl, fun ys hy => by rw [SK.inj I hy hq]; exact hx⟩, ⟨⟨y, ?_⟩, SK.at hst'.1 fun o q => (sb.2 it (Ne.symm hne)).trans q, hne⟩, fun b hb => ?_⟩
    · rw [show ((i + 1 : Nat) : Int) = (i : Int) + 1 by omega]
      exact he2
    · have hb' : b < s.heap.objs.size := by
        rcases List.mem_cons.mp hb with z | z
        · rw [z]; exact hel
        · rw [List.mem_singleton.mp z]; exact hil
      rw [upd_ne (Nat.ne_of_lt hb')]
      exact (hf b hb).1
  done := by
    intro X hP hw hK hc i pins s σ H E I hf ⟨⟨old, he⟩, hit, hne⟩ ⟨xs, hq, hx⟩
    subst hP hw hK
    obtain ⟨its, rv, p⟩ := SK.of I hq
    obtain ⟨f0, f1, f2, f3, f4, f5⟩ := hf it (by simp)
    have hl := rv.length
    exact enum_over (by exact I.ok.hd hc) he hit p (by simp; omega) fun h' eb => ⟨rfl, I.turned (t' := s.toks) (fun b o hb q => eb b o hb q) f0 f1 f3 f4 f5⟩
  self := fun A i s Q E ⟨⟨_, he⟩, _⟩ h => wpAny_pyIter_enum he h
def iEn (K : PySem.W.Frag) (ta : TA) : TI := fun σ H R => ta σ H fun vs H1 => ∃ (k : SK) (a : Addr) (xs : List V), vs = [.ref a] ∧ k.rd K H1 a xs ∧ R (ItE K k a) H1
theorem pi_en {X : Cx} {e : Expr} {ta : TA} {p pos tpos : Pos} {elts : List Expr} {kk : Nat} (hg : Gl X "enumerate") (hm : X.mg "enumerate" = none) (ha : PA X [e] ta) (hs : starEach [e] X.env = [(false, eval e X.env)] := by rfl) :
    PI X (.Tuple elts kk tpos) (.Call (.Name "enumerate" p) [e] [] pos) (iEn X.K ta) := by
  refine ⟨fun pins s σ H R I h => Call_ (ld_blt I hg hm boot_enumerate (PyProof.Rows.callWith_type1 (thn (ha.run pos pins s σ H _ I h) fun us s1 ⟨vs, H1, I1, r1, k, a, xs, e1, hq, q⟩ => ?_) hs rfl))⟩
  subst e1
  cases r1 with
  | cons r rr =>
    cases rr
    cases r
    obtain ⟨its, rv, p'⟩ := SK.of I1 hq
    refine enum1_call (k.begins a its.toArray) p' fun h' he hit hk => wpAny_pyIter_enum he ?_
    have I2 : L2.Inv X pins σ H1 { s1 with heap := h' } := I1.kept (t' := s1.toks) hk
    refine ⟨s1.heap.objs.size + 1, [s1.heap.objs.size + 1, s1.heap.objs.size], _, _, H1, rfl, I2, turnE k a (s1.heap.objs.size + 1) s1.heap.objs.size, ⟨⟨.none, he⟩, SK.iter0 hit, Nat.succ_ne_self _⟩, fun b hb => ?_, q⟩
    have hle : s1.heap.objs.size ≤ b := by
      rcases List.mem_cons.mp hb with z | z
      · rw [z]; exact Nat.le_succ _
      · rw [List.mem_singleton.mp z]; exact Nat.le_refl _
    exact I1.fpOk hle (I1.hok.fresh hle)
section
variable {S : Type} [WCl S] {X : Cx} {c : Cf S} {E : XK} {ρ : En} {e : Expr} {m : Mo S D} {K : PySem.W.Frag} {ow : Ows} {H1 : Hp}
theorem SK.keep {k : SK} {H : Hp} {a : Addr} {xs : List V} (kp : Keep (c.Mw ow) H1 H) (n : k = .l → ∃ xs, H1 a = some (.lst xs) ∧ ¬ c.Mw ow a) (h : k.rd K H1 a xs) : k.rd K H a xs := match k, h, n with
  | .t, h, _ => SqT.keep kp h
  | .l, h, n => by
    obtain ⟨ys, hy, nn⟩ := n rfl
    have := SqL.of (K := K) (kp.st a _ hy (.inl nn) rfl)
    rcases h with h | ⟨o, its, n', hk, h1, h2, h3, h4, h5⟩
    · rcases h with h | ⟨o, h⟩
      · rw [hy] at h
        cases h
        exact this
      · rw [hy] at h
        cases h
    · exact .inr ⟨o, its, n', hk, h1, h2, h3, h4, h5⟩
def enumD : Nat → List D → List D
  | _, [] => []
  | i, d :: ds => .tuple [.int i, d] :: enumD (i + 1) ds
theorem enumD_len : ∀ (i : Nat) (ds : List D), (enumD i ds).length = ds.length
  | _, [] => rfl
  | i, d :: ds => by simp [enumD, enumD_len (i + 1) ds]
theorem enumD_at : ∀ (j i : Nat) (ds : List D), (enumD j ds)[i]? = ds[i]?.map fun d => .tuple [.int ((j + i : Nat) : Int), d]
  | j, _, [] => by simp [enumD]
  | j, 0, d :: ds => rfl
  | j, i + 1, d :: ds => by
    show (enumD (j + 1) ds)[i]? = _
    rw [enumD_at (j + 1) i ds, show j + 1 + i = j + (i + 1) by omega]
    rfl
def gEnum (d : D) : Option (List D) := (gSeq d).map (enumD 0)
theorem itd_enum {k : SK} {p : Addr} {xs : List V} {ds : List D} (n : k = .l → ∃ xs, H1 p = some (.lst xs) ∧ ¬ c.Mw ow p) (hp : k.rd K H1 p xs) (r : Reps K (c.Nn ow) H1 xs ds) : ItD K c ow H1 (ItE K k p) (enumD 0 ds) := by
  have key : ∀ {H}, Keep (c.Mw ow) H1 H → k.rd K H p xs := fun kp => SK.keep kp n hp
  refine ⟨fun i H kp hi => ?_, fun i H kp hi => ⟨xs, key kp, by rw [r.len]; rwa [enumD_len] at hi⟩, fun i H x H' kp y => ?_⟩
  · rw [enumD_len] at hi
    obtain ⟨v, e, _⟩ := r.get (List.getElem?_eq_getElem hi)
    exact ⟨xs, v, key kp, e⟩
  · obtain ⟨T, z, o, e1, e2, e3, e4, y⟩ := y
    subst e1 e4
    refine ⟨same_new e2, fun d hd N' w => ?_⟩
    rw [enumD_at] at hd
    cases hi : ds[i]? with
    | none => rw [hi] at hd; cases hd
    | some d' =>
      rw [hi] at hd
      cases hd
      obtain ⟨v, e, r1⟩ := (items_rep r kp w).get hi
      have ye := y xs (key kp)
      rw [e] at ye
      cases ye
      rw [Nat.zero_add]
      exact .tup ⟨o, upd_same, e3⟩ (.cons (.int _) (.cons (r1.keepS (same_new e2)) .nil))
/-- for i, x in enumerate(e): a list or a tuple -/
theorem ji_enum {p pos tpos : Pos} {elts : List Expr} {kk : Nat} (hg : Gl X "enumerate") (hm : X.mg "enumerate" = none) (h : JE false X c E ρ e m) (hs : starEach [e] X.env = [(false, eval e X.env)] := by rfl) :
    JI X c E ρ (.Tuple elts kk tpos) (.Call (.Name "enumerate" p) [e] [] pos) (mBnd (mAll [m]) fun ds => mOf (match ds with | [d] => gEnum d | _ => none)) :=
  JI.of (pi_en hg hm (JA.pa (.cons h .nil hs)) hs) fun σ H R ⟨ow, s, T, q⟩ => allI_at T q fun ds s2 vs H2 k T2 r l q2 => by
    match ds, l with
    | [d], _ =>
      obtain ⟨v, rfl, rx⟩ := r.one
      obtain ⟨es, e, q3⟩ := ofI_done q2
      cases d with
      | list ds =>
        cases e
        obtain ⟨p, xs, rfl, hp, r1⟩ := rx.list
        refine ⟨.l, p, xs, rfl, SqL.of hp, q3 _ H2 .refl T2.ok (itd_enum (fun _ => ⟨xs, hp, ?_⟩) (show SK.rd _ .l _ _ _ from SqL.of hp) r1)⟩
        cases rx.val with
        | lst n _ _ => exact fun z => n (c.MwN ow _ z)
      | tuple ds =>
        cases e
        obtain ⟨p, xs, rfl, hp, r1⟩ := rx.tuple
        exact ⟨.t, p, xs, rfl, hp, q3 _ H2 .refl T2.ok (itd_enum (fun z => nomatch z) (show SK.rd _ .t _ _ _ from hp) r1)⟩
      | _ => cases e
end
end Cz
set_option Elab.async false
set_option linter.all false
set_option maxRecDepth 100000
set_option maxHeartbeats 4000000
namespace Cz
open PySem PySem.Spec PyProof.Rows L2
/-! ### zip of two lists or of two tuples -/
section
variable {prog : Program} {w : World} {A : Around} {E : Value → Shared → Prop} {s : Shared}
theorem SK.zip_item {k : SK} {z TI TO i1 i2 l1 l2 : Addr} {k1 k2 : Nat} {xs ys : Array Value} {x y a b : Value} {Q : Option Value → Shared → Prop} (D : ZipApart z TI TO i1 i2 l1 l2) (hz : IsZip s.heap z TI TO .none) (hTI : IsPair s.heap TI (.ref i1) (.ref i2)) (hTO : IsPair s.heap TO a b)
    (h1 : k.iter s.heap i1 l1 k1) (h2 : k.iter s.heap i2 l2 k2) (p1 : k.obj s.heap l1 xs) (p2 : k.obj s.heap l2 ys) (hx : xs[k1]? = some x) (hy : ys[k2]? = some y)
    (hQ : ∀ h', IsZip h' z TI TO (rawInt s.heap.objs.size) → IsPair h' TO x y → k.iter h' i1 l1 (k1 + 1) → k.iter h' i2 l2 (k2 + 1) → IsPair h' s.heap.objs.size x y → (∀ c o, c ≠ z → c ≠ TO → c ≠ i1 → c ≠ i2 → s.heap.get? c = some o → h'.get? c = some o) → Q (some (.ref s.heap.objs.size)) { s with heap := h' }) :
    wpAny (model prog w) A (pyNext (.ref z)) Q E s := match k, h1, h2, p1, p2, hQ with
  | .l, h1, h2, p1, p2, hQ => wpAny_pyNext_zip_item D hz hTI hTO h1 h2 p1 p2 hx hy fun h' a1 a2 a3 a4 a5 _ a7 => hQ h' a1 a2 a3 a4 a5 a7
  | .t, h1, h2, p1, p2, hQ => RZ.pyNext_zipT_item D hz hTI hTO h1 h2 p1 p2 hx hy fun h' a1 a2 a3 a4 a5 _ a7 => hQ h' a1 a2 a3 a4 a5 a7
theorem SK.zip_end {k : SK} {z TI TO i1 i2 l1 l2 : Addr} {k1 k2 : Nat} {xs ys : Array Value} {a b : Value} {Q : Option Value → Shared → Prop} (hh : A.handled = none) (D : ZipApart z TI TO i1 i2 l1 l2) (hz : IsZip s.heap z TI TO .none) (hTI : IsPair s.heap TI (.ref i1) (.ref i2)) (hTO : IsPair s.heap TO a b)
    (h1 : k.iter s.heap i1 l1 k1) (h2 : k.iter s.heap i2 l2 k2) (p1 : k.obj s.heap l1 xs) (p2 : k.obj s.heap l2 ys) (he : xs[k1]? = none ∨ ys[k2]? = none)
    (hQ : ∀ h', (∀ c o, c ≠ z → c ≠ TO → c ≠ i1 → c ≠ i2 → s.heap.get? c = some o → h'.get? c = some o) → Q none { s with heap := h' }) : wpAny (model prog w) A (pyNext (.ref z)) Q E s := match k, h1, h2, p1, p2 with
  | .l, h1, h2, p1, p2 => wpAny_pyNext_zip_end hh D hz hTI hTO h1 h2 p1 p2 he hQ
  | .t, h1, h2, p1, p2 => RZ.pyNext_zipT_end hh D hz hTI hTO h1 h2 p1 p2 he hQ
end
def ItZ (K : PySem.W.Frag) (k : SK) (a b : Addr) : It :=
  ⟨fun i H => ∃ (xs ys : List V) (x y : V), k.rd K H a xs ∧ k.rd K H b ys ∧ xs[i]? = some x ∧ ys[i]? = some y,
   fun i H v H' => ∃ T x y o, v = .ref T ∧ H T = none ∧ o.dict = none ∧ H' = upd H T (.frz o (.tup [x, y])) ∧ (∀ xs, k.rd K H a xs → xs[i]? = some x) ∧ ∀ ys, k.rd K H b ys → ys[i]? = some y,
   fun i H => ∃ xs ys : List V, k.rd K H a xs ∧ k.rd K H b ys ∧ (xs.length ≤ i ∨ ys.length ≤ i)⟩
theorem five {α : Type} {P : α → Prop} {a b c d e : α} (h : P a ∧ P b ∧ P c ∧ P d ∧ P e) : ∀ x ∈ [a, b, c, d, e], P x := fun x hx => by
  simp only [List.mem_cons, List.not_mem_nil, or_false] at hx
  obtain ⟨h1, h2, h3, h4, h5⟩ := h
  rcases hx with rfl | rfl | rfl | rfl | rfl <;> assumption
theorem turnZ {P : Program} {w : World} {K : PySem.W.Frag} {elts : List Expr} {kk : Nat} {tpos : Pos} {k : SK} {a b z TI TO i1 i2 : Addr} (D : ZipApart z TI TO i1 i2 a b) :
    Turn P w K (.Tuple elts kk tpos) (ItZ K k a b) [z, TI, TO, i1, i2] z (fun i h => IsZip h z TI TO .none ∧ IsPair h TI (.ref i1) (.ref i2) ∧ (∃ x y, IsPair h TO x y) ∧ k.iter h i1 a i ∧ k.iter h i2 b i) where
  mem := List.mem_cons_self
  obj := fun i h ⟨hz, hTI, ⟨x, y, hTO⟩, h1, h2⟩ => five (P := fun b => ∃ o, h.get? b = some o ∧ ∀ v, o.data ≠ .cell v) ⟨⟨_, hz, fun v q => nomatch q⟩, ⟨_, hTI, fun v q => nomatch q⟩, ⟨_, hTO, fun v q => nomatch q⟩,
    (let ⟨o, q, c, _⟩ := SK.itobj h1; ⟨o, q, c⟩), (let ⟨o, q, c, _⟩ := SK.itobj h2; ⟨o, q, c⟩)⟩
  keep := fun i h h' ⟨hz, hTI, ⟨x, y, hTO⟩, h1, h2⟩ k => ⟨k z (by simp) _ hz, k TI (by simp) _ hTI, ⟨x, y, k TO (by simp) _ hTO⟩, SK.at h1 fun o q => k i1 (by simp) o q, SK.at h2 fun o q => k i2 (by simp) o q⟩
  item := by
    intro X hP hw hK hc i pins s σ H E I hf ⟨hz, hTI, ⟨x0, y0, hTO⟩, h1, h2⟩ ⟨xs, ys, x, y, hqx, hqy, hx, hy⟩
    subst hP hw hK
    obtain ⟨its, rv, p1⟩ := SK.of I hqx
    obtain ⟨its2, rv2, p2⟩ := SK.of I hqy
    obtain ⟨u, hu, ru⟩ := rv.get hx
    obtain ⟨u2, hu2, ru2⟩ := rv2.get hy
    have zl : z < s.heap.objs.size := Heap.lt_size hz
    refine SK.zip_item D hz hTI hTO h1 h2 p1 p2 (x := u) (y := u2) (by simpa using hu) (by simpa using hu2) fun h' z' TO' h1' h2' hT hk => ⟨_, rfl, wpAny_letOwnedTupleGo_zip (s := { s with heap := h' }) z' fun g z2 sb => ?_⟩
    have hT2 : g.get? s.heap.objs.size = some { cls := .type "tuple", data := .seq #[u, u2] } := (sb.2 _ (Nat.ne_of_gt zl)).trans hT
    have new : ObjOk X.prog X.w (upd H s.heap.objs.size (.frz { cls := .type "tuple", data := .seq #[u, u2] } (.tup [x, y]))) g s.heap.objs.size (.frz { cls := .type "tuple", data := .seq #[u, u2] } (.tup [x, y])) :=
      ⟨hT2, by show 2 ≤ sizeLine; decide, [u, u2], .cons ru (.cons ru2 .nil), ⟨_, hT2, rfl, _, rfl⟩⟩
    have nn : ∀ {c}, c ∉ [z, TI, TO, i1, i2] → c ≠ z ∧ c ≠ TO ∧ c ≠ i1 ∧ c ≠ i2 := fun h => ⟨fun q => h (by simp [q]), fun q => h (by simp [q]), fun q => h (by simp [q]), fun q => h (by simp [q])⟩
    have I1 := I.turnedNew (t' := s.toks) (ch := [z, TI, TO, i1, i2]) (fun c o hb q => (sb.2 c (nn hb).1).trans (hk c o (nn hb).1 (nn hb).2.1 (nn hb).2.2.1 (nn hb).2.2.2 q)) hf (Nat.le_refl _) new
    refine ⟨.ref s.heap.objs.size, _, I1, rfl, ⟨_, x, y, _, rfl, I.hok.fresh (Nat.le_refl _), rfl, rfl, fun l hl => by rw [SK.inj I hl hqx]; exact hx, fun l hl => by rw [SK.inj I hl hqy]; exact hy⟩,
      ⟨z2, (sb.2 _ D.TIz).trans (hk _ _ D.TIz D.TITO D.TIi1 D.TIi2 hTI), ⟨u, u2, (sb.2 _ D.TOz).trans TO'⟩, SK.at h1' fun o q => (sb.2 _ D.i1z).trans q, SK.at h2' fun o q => (sb.2 _ D.i2z).trans q⟩, fun c hcm => ?_⟩
    have lt : c < s.heap.objs.size := five (P := fun c => c < s.heap.objs.size) ⟨zl, Heap.lt_size hTI, Heap.lt_size hTO, (let ⟨_, e, _⟩ := SK.itobj h1; Heap.lt_size e), (let ⟨_, e, _⟩ := SK.itobj h2; Heap.lt_size e)⟩ c hcm
    rw [upd_ne (Nat.ne_of_lt lt)]
    exact (hf c hcm).1
  done := by
    intro X hP hw hK hc i pins s σ H E I hf ⟨hz, hTI, ⟨x0, y0, hTO⟩, h1, h2⟩ ⟨xs, ys, hqx, hqy, hend⟩
    subst hP hw hK
    obtain ⟨its, rv, p1⟩ := SK.of I hqx
    obtain ⟨its2, rv2, p2⟩ := SK.of I hqy
    have l1 := rv.length
    have l2 := rv2.length
    have he : its.toArray[i]? = none ∨ its2.toArray[i]? = none := hend.imp (fun q => by simp; omega) fun q => by simp; omega
    exact SK.zip_end (I.ok.hd hc) D hz hTI hTO h1 h2 p1 p2 he fun h' hk => ⟨rfl, I.turnedL (t' := s.toks) (ch := [z, TI, TO, i1, i2]) (fun c o hb q =>
      hk c o (fun q' => hb (by simp [q'])) (fun q' => hb (by simp [q'])) (fun q' => hb (by simp [q'])) (fun q' => hb (by simp [q'])) q) hf⟩
  self := fun A i s Q E st h => wpAny_pyIter_zip st.1 h
def iZp (K : PySem.W.Frag) (ta : TA) : TI := fun σ H R => ta σ H fun vs H1 => ∃ (k : SK) (a b : Addr) (xs ys : List V), vs = [.ref a, .ref b] ∧ k.rd K H1 a xs ∧ k.rd K H1 b ys ∧ R (ItZ K k a b) H1
theorem pi_zp {X : Cx} {e e2 : Expr} {ta : TA} {p pos tpos : Pos} {elts : List Expr} {kk : Nat} (hg : Gl X "zip") (hm : X.mg "zip" = none) (ha : PA X [e, e2] ta)
    (hs : starEach [e, e2] X.env = (false, eval e X.env) :: starEach [e2] X.env := by rfl) (hpl : (backTo pos (starEach [e2] X.env)).any (·.1) = false := by rfl) :
    PI X (.Tuple elts kk tpos) (.Call (.Name "zip" p) [e, e2] [] pos) (iZp X.K ta) := by
  refine ⟨fun pins s σ H R I h => Call_ (ld_blt I hg hm PyProof.Rows.boot_zip (PyProof.Rows.callWith_type1 (thn (ha.run pos pins s σ H _ I h) fun us s1 ⟨vs, H1, I1, r1, k, a, b, xs, ys, ex, hqx, hqy, q⟩ => ?_) hs hpl))⟩
  subst ex
  cases r1 with
  | cons r rr =>
    cases rr with
    | cons r' rr =>
      cases rr
      cases r
      cases r'
      obtain ⟨its, rv, p1⟩ := SK.of I1 hqx
      obtain ⟨its2, rv2, p2⟩ := SK.of I1 hqy
      have la : a < s1.heap.objs.size := let ⟨o, e, _⟩ := SK.cls p1; Heap.lt_size e
      have lb : b < s1.heap.objs.size := let ⟨o, e, _⟩ := SK.cls p2; Heap.lt_size e
      refine zip_begins2 (k.begins a its.toArray) (k.begins b its2.toArray) p1 p2 fun h' hz hTI hTO h1 h2 hsz hk => wpAny_pyIter_zip hz ?_
      have I2 : L2.Inv X pins σ H1 { s1 with heap := h' } := I1.kept (t' := s1.toks) hk
      refine ⟨s1.heap.objs.size + 4, [s1.heap.objs.size + 4, s1.heap.objs.size + 2, s1.heap.objs.size + 3, s1.heap.objs.size, s1.heap.objs.size + 1], _, _, H1, rfl, I2, turnZ (PySem.W.ktu_apart s1.heap.objs.size a b la lb), ⟨hz, hTI, ⟨_, _, hTO⟩, SK.iter0 h1, SK.iter0 h2⟩, ?_, q⟩
      have fr : ∀ j, FpOk X pins H1 (s1.heap.objs.size + j) := fun j => I1.fpOk (Nat.le_add_right _ _) (I1.hok.fresh (Nat.le_add_right _ _))
      exact five (P := FpOk X pins H1) ⟨fr 4, fr 2, fr 3, fr 0, fr 1⟩
section
variable {S : Type} [WCl S] {X : Cx} {c : Cf S} {E : XK} {ρ : En} {e e' : Expr} {m m' : Mo S D} {K : PySem.W.Frag} {ow : Ows} {H1 : Hp}
def zipD : List D → List D → List D
  | d :: ds, e :: es => .tuple [d, e] :: zipD ds es
  | _, _ => []
theorem zipD_at : ∀ (i : Nat) (ds es : List D), (zipD ds es)[i]? = match ds[i]?, es[i]? with
    | some d, some e => some (.tuple [d, e])
    | _, _ => none
  | _, [], es => by simp [zipD]
  | _, d :: ds, [] => by
    simp [zipD]

  | 0, d :: ds, e :: es => rfl
  | i + 1, d :: ds, e :: es => zipD_at i ds es
theorem zipD_len : ∀ (ds es : List D), (zipD ds es).length = min ds.length es.length
  | [], es => by simp [zipD]
  | d :: ds, [] => by simp [zipD]
  | d :: ds, e :: es => by simp [zipD, zipD_len ds es]
def gZip : List D → Option (List D)
  | [.list ds, .list es] => some (zipD ds es)
  | [.tuple ds, .tuple es] => some (zipD ds es)
  | _ => none
theorem itd_zip {k : SK} {p p' : Addr} {xs ys : List V} {ds es : List D} (n : k = .l → ∃ xs, H1 p = some (.lst xs) ∧ ¬ c.Mw ow p) (n' : k = .l → ∃ xs, H1 p' = some (.lst xs) ∧ ¬ c.Mw ow p') (hp : k.rd K H1 p xs) (hp' : k.rd K H1 p' ys) (r : Reps K (c.Nn ow) H1 xs ds) (r' : Reps K (c.Nn ow) H1 ys es) :
    ItD K c ow H1 (ItZ K k p p') (zipD ds es) := by
  have key : ∀ {H}, Keep (c.Mw ow) H1 H → k.rd K H p xs := fun kp => SK.keep kp n hp
  have key' : ∀ {H}, Keep (c.Mw ow) H1 H → k.rd K H p' ys := fun kp => SK.keep kp n' hp'
  refine ⟨fun i H kp hi => ?_, fun i H kp hi => ⟨xs, ys, key kp, key' kp, by rw [r.len, r'.len]; rw [zipD_len] at hi; omega⟩, fun i H x H' kp y => ?_⟩
  · rw [zipD_len] at hi
    obtain ⟨v, e, _⟩ := r.get (List.getElem?_eq_getElem (show i < ds.length by omega))
    obtain ⟨v', e', _⟩ := r'.get (List.getElem?_eq_getElem (show i < es.length by omega))
    exact ⟨xs, ys, v, v', key kp, key' kp, e, e'⟩
  · obtain ⟨T, z, z', o, e1, e2, e3, e4, y1, y2⟩ := y
    subst e1 e4
    refine ⟨same_new e2, fun d hd N' w => ?_⟩
    rw [zipD_at] at hd
    cases hi : ds[i]? with
    | none => rw [hi] at hd; cases hd
    | some d1 =>
      cases hj : es[i]? with
      | none => rw [hi, hj] at hd; cases hd
      | some d2 =>
        rw [hi, hj] at hd
        cases hd
        obtain ⟨v, e, q1⟩ := (items_rep r kp w).get hi
        obtain ⟨v', e', q2⟩ := (items_rep r' kp w).get hj
        have ye := y1 xs (key kp)
        have ye' := y2 ys (key' kp)
        rw [e] at ye
        rw [e'] at ye'
        cases ye
        cases ye'
        exact .tup ⟨o, upd_same, e3⟩ (.cons (q1.keepS (same_new e2)) (.cons (q2.keepS (same_new e2)) .nil))
/-- for x, y in zip(e, e'): two lists or two tuples -/
theorem ji_zip {p pos tpos : Pos} {elts : List Expr} {kk : Nat} (hg : Gl X "zip") (hm : X.mg "zip" = none) (h : JE false X c E ρ e m) (h' : JE false X c E ρ e' m') (hs2 : starEach [e'] X.env = [(false, eval e' X.env)] := by rfl)
    (hs : starEach [e, e'] X.env = (false, eval e X.env) :: starEach [e'] X.env := by rfl) (hpl : (backTo pos (starEach [e'] X.env)).any (·.1) = false := by rfl) :
    JI X c E ρ (.Tuple elts kk tpos) (.Call (.Name "zip" p) [e, e'] [] pos) (mBnd (mAll [m, m']) fun ds => mOf (gZip ds)) :=
  JI.of (pi_zp hg hm (JA.pa (.cons h (.cons h' .nil hs2) hs)) hs hpl) fun σ H R ⟨ow, s, T, q⟩ => allI_at T q fun ds s2 vs H2 k T2 r l q2 => by
    match ds, l with
    | [d, d'], _ =>
      obtain ⟨v, v', rfl, rx, rx'⟩ := r.two
      obtain ⟨es, e, q3⟩ := ofI_done q2
      cases d with
      | list ds =>
        cases d' with
        | list ds' =>
          cases e
          obtain ⟨p, xs, rfl, hp, r1⟩ := rx.list
          obtain ⟨p', ys, rfl, hp', r1'⟩ := rx'.list
          refine ⟨.l, p, p', xs, ys, rfl, SqL.of hp, SqL.of hp', q3 _ H2 .refl T2.ok (itd_zip (fun _ => ⟨xs, hp, ?_⟩) (fun _ => ⟨ys, hp', ?_⟩) (show SK.rd _ .l _ _ _ from SqL.of hp) (show SK.rd _ .l _ _ _ from SqL.of hp') r1 r1')⟩
          · cases rx.val with
            | lst n _ _ => exact fun z => n (c.MwN ow _ z)
          · cases rx'.val with
            | lst n _ _ => exact fun z => n (c.MwN ow _ z)
        | _ => cases e
      | tuple ds =>
        cases d' with
        | tuple ds' =>
          cases e
          obtain ⟨p, xs, rfl, hp, r1⟩ := rx.tuple
          obtain ⟨p', ys, rfl, hp', r1'⟩ := rx'.tuple
          exact ⟨.t, p, p', xs, ys, rfl, hp, hp', q3 _ H2 .refl T2.ok (itd_zip (fun z => nomatch z) (fun z => nomatch z) (show SK.rd _ .t _ _ _ from hp) (show SK.rd _ .t _ _ _ from hp') r1 r1')⟩
        | _ => cases e
      | _ => cases e
end
end Cz
set_option Elab.async false
set_option linter.all false
set_option maxRecDepth 100000
set_option maxHeartbeats 2000000
/-! while; x += e; two items of a list of one's own exchanged; new lists from calls, from list(e), from a list so many times. -/
namespace Cz
open PySem PySem.Spec PyProof.Rows L2
section
variable {S : Type} [WCl S] {α β γ : Type} {b b1 : Bool} {X : Cx} {K : PySem.W.Frag} {c : Cf S} {E : XK} {ρ : En} {ρf : α → En} {e e1 e2 : Expr} {m m1 m2 : Mo S D} {ml : Mo S (List D)} {ow : Ows} {σ : L2.St} {H H1 : Hp} {s : S} {Q : VK} {Dn : Ends} {sts rest : List Stmt}
/-! ### x += e, x -= e: ints -/
def gIAdd : D → D → Option D
  | .int i, .int j => some (.int (i + j))
  | _, _ => none
def gISub : D → D → Option D
  | .int i, .int j => some (.int (i - j))
  | _, _ => none
def OkI (ti : TIp) (g : D → D → Option D) : Prop := ∀ (x y z : D) (v w : V) (H : Hp) (Q : VK) (K : PySem.W.Frag) (N : Addr → Prop), Rep K N H v x → Rep K N H w y → g x y = some z → (∀ v' H', H' = H → Rep K N H' v' z → Q v' H') → ti v w H Q
theorem ok_iadd : OkI (ipI fun i j => i + j) gIAdd := fun x y z v w H Q K N rx ry e q => by
  cases x with
  | int i =>
    cases y with
    | int j =>
      cases e
      cases rx
      cases ry
      exact ⟨i, j, rfl, rfl, q _ _ rfl (.int _)⟩
    | _ => cases e
  | _ => cases e
theorem ok_isub : OkI (ipI fun i j => i - j) gISub := fun x y z v w H Q K N rx ry e q => by
  cases x with
  | int i =>
    cases y with
    | int j =>
      cases e
      cases rx
      cases ry
      exact ⟨i, j, rfl, rfl, q _ _ rfl (.int _)⟩
    | _ => cases e
  | _ => cases e
theorem bs_aug (i : Nat) {x : Str} {d0 : D} {op : Operator} {ti : TIp} {g : D → D → Option D} {pos pos' : Pos} {k : D → Mo S (Fl α)} (nd : X.N.Nodup) (hρ : ρ[i]? = some (some (.v d0))) (hop : PIp X op ti) (hg : OkI ti g) (he : JE false X c E ρ e m) (hr : ∀ d, JSs X c E ρf (ρ.set i (some (.v d))) rest (k d))
    (hi : X.N[i]? = some x := by rfl) (hx : Loc X.env.scope x := by first | exact .inl rfl | exact .inr rfl) (hf : X.fn x = true ∨ X.env.scope.names.lookup x = some .local := by first | exact .inl rfl | exact .inr rfl | assumption) :
    JSs X c E ρf ρ (.AugAssign (.Name x pos') op e pos :: rest) (mBnd m fun d => mBnd (mOf (g d0 d)) k) :=
  JSs.of (pss_cons (ps_aug nd hi hx he hop hf) (pss_ex hr)) fun Dn σ H ⟨ow, s, T, q⟩ => by
    obtain ⟨v0, e0, r0⟩ := T.sl i _ hρ
    refine ⟨v0, join_some e0, bndS_at (b := false) T q fun d s1 v H1 k1 T1 r q1 => ?_⟩
    cases eg : g d0 d with
    | none => rw [eg] at q1; exact q1.elim
    | some z =>
      rw [eg] at q1
      exact hg d0 d z v0 v H1 _ X.K (c.Nn ow) (r0.keepM k1) r.val eg fun v' H' eH rz => by
        subst eH
        exact ⟨z, ow, s1, T1.setV rz, q1⟩
/-! ### xs[e1], xs[e2] = e -/
theorem bs_swp (i : Nat) {x : Str} {ds : List D} {xp xp2 tp tp2 tpos pos : Pos} {kk : Nat} {k : List D → Mo S (Fl α)} (hc : X.calm = true) (hρ : ρ[i]? = some (some (.own ds))) (he : JE false X c E ρ e m) (h1 : JE false X c E ρ e1 m1) (h2 : ∀ es, JE false X c E (ρ.set i (some (.own es))) e2 m2)
    (hr : ∀ es, JSs X c E ρf (ρ.set i (some (.own es))) rest (k es)) (hN : X.N[i]? = some x := by rfl)
    (hv : Vis X.env.scope x := by first | exact .inl rfl | exact .inr (.inl rfl) | exact .inr (.inr rfl)) (hd : (x == ("__debug__" : Str)) = false := by decide) (hcd : (x == ("__classdict__" : Str)) = false := by decide)
    (ha : ∀ v, assign (.Subscript (.Name x xp) e1 tp) X.env v = (do
      let ov ← holding [v] (eval (.Name x xp) X.env)
      let iv ← holding [v, ov] (eval e1 X.env)
      standAt tp
      holding [v, ov, iv] (setItem ov iv v)
      release [v, ov, iv] []) := by intro _; rfl)
    (ha2 : ∀ v, assign (.Subscript (.Name x xp2) e2 tp2) X.env v = (do
      let ov ← holding [v] (eval (.Name x xp2) X.env)
      let iv ← holding [v, ov] (eval e2 X.env)
      standAt tp2
      holding [v, ov, iv] (setItem ov iv v)
      release [v, ov, iv] []) := by intro _; rfl)
    (g1 : (assignEach (.Subscript (.Name x xp) e1 tp :: [.Subscript (.Name x xp2) e2 tp2]) X.env).map (·.2) = assign (.Subscript (.Name x xp) e1 tp) X.env :: (assignEach [.Subscript (.Name x xp2) e2 tp2] X.env).map (·.2) := by rfl)
    (g2 : (assignEach (.Subscript (.Name x xp2) e2 tp2 :: []) X.env).map (·.2) = assign (.Subscript (.Name x xp2) e2 tp2) X.env :: (assignEach [] X.env).map (·.2) := by rfl)
    (hn : (assignEach [.Subscript (.Name x xp) e1 tp, .Subscript (.Name x xp2) e2 tp2] X.env).length = 2 := by rfl) (hst : (assignEach [.Subscript (.Name x xp) e1 tp, .Subscript (.Name x xp2) e2 tp2] X.env).findIdx? (·.1) = none := by rfl)
    (hs : swapsWithSole [.Tuple [.Subscript (.Name x xp) e1 tp, .Subscript (.Name x xp2) e2 tp2] kk tpos] e pos.line X.env = pure false := by rfl) (hw : swappedStores [.Tuple [.Subscript (.Name x xp) e1 tp, .Subscript (.Name x xp2) e2 tp2] kk tpos] e X.env = pure none := by rfl)
    (hb : (assignEach [.Tuple [.Subscript (.Name x xp) e1 tp, .Subscript (.Name x xp2) e2 tp2] kk tpos] X.env).map (·.2) = [assign (.Tuple [.Subscript (.Name x xp) e1 tp, .Subscript (.Name x xp2) e2 tp2] kk tpos) X.env] := by rfl) :
    JSs X c E ρf ρ (.Assign [.Tuple [.Subscript (.Name x xp) e1 tp, .Subscript (.Name x xp2) e2 tp2] kk tpos] e pos :: rest)
      (mBnd m fun d => mT2 d fun a z => mBnd m1 fun j => mBnd (mOf (gSetI ds j a)) fun es => mBnd m2 fun j' => mBnd (mOf (gSetI es j' z)) k) := by
  have h2' : PE X e2 (fun σ H Q => ∃ es, tE false X.K c E (ρ.set i (some (.own es))) m2 σ H Q) := ⟨fun pins s σ H Q I ⟨es, q⟩ => (h2 es).run pins s σ H Q I q⟩
  refine JSs.of (pss_cons (ps_asg he (pg_tup hc (pgs_cons (pg_sub (pe_var hN hv hd hcd) h1 set_list ha) (pgs_cons (pg_sub (pe_var hN hv hd hcd) h2' set_list ha2) pgs_nil g2) g1) hn hst) hs hw hb) (pss_ex hr)) fun Dn σ H ⟨ow, s, T, q⟩ => bndS_at (b := false) T q fun d s1 v H1 k1 T1 rv q1 => ?_
  cases d with
  | tuple l =>
    match l, rv, q1 with
    | [a, z], rv, q1 =>
      obtain ⟨pt, xs, rfl, hpt, rr⟩ := rv.tuple
      cases rr with
      | cons ra rr =>
        cases rr with
        | cons rz rr =>
          cases rr
          refine ⟨pt, _, rfl, hpt, rfl, _, _, rfl, ?_⟩
          have q1 : ContS X.K c E ρf ow H1 ((mBnd m1 fun j => mBnd (mOf (gSetI ds j a)) fun es => mBnd m2 fun j' => mBnd (mOf (gSetI es j' z)) k) s1) Dn := q1
          obtain ⟨p, ys, f1, ho, hp, r⟩ := own_at hρ T1
          refine ⟨_, f1, bndS_at (b := false) T1 q1 fun j s2 w H2 k2 T2 rj q2 => ?_⟩
          cases eg : gSetI ds j a with
          | none => rw [eg] at q2; exact q2.elim
          | some es =>
            rw [eg] at q2
            obtain ⟨jj, l, rfl, hl, rfl⟩ := gSetI_inv eg
            obtain ⟨p', ys', f1', ho', hp', r'⟩ := own_at hρ T2
            rw [f1] at f1'
            cases f1'
            have ch := T2.chg hρ ho' hp' (r'.setAt l (ra.keepM k2))
            refine ⟨p, ys', jj, l, rfl, rj.int, hp', by rw [r'.len]; exact hl, _, _, rfl, ?_⟩
            have hρ3 : (ρ.set i (some (DV.own (ds.set l a))))[i]? = some (some (.own (ds.set l a))) := by
              have hi : i < ρ.length := (List.getElem?_eq_some_iff.mp hρ).1
              rw [List.getElem?_set_self hi]
            refine ⟨_, f1, _, bndS_at (b := false) ch.1 (ContS.move q2 ch.2) fun j' s3 w' H3 k3 T3 rj' q3 => ?_⟩
            cases eg' : gSetI (ds.set l a) j' z with
            | none => rw [eg'] at q3; exact q3.elim
            | some es' =>
              rw [eg'] at q3
              obtain ⟨jj', l', rfl, hl', rfl⟩ := gSetI_inv eg'
              obtain ⟨p3, ys3, f3, ho3, hp3, r3⟩ := own_at hρ3 T3
              rw [f1] at f3
              cases f3
              have ch3 := T3.chg hρ3 ho3 hp3 (r3.setAt l' ((rz.keepM k2).keepW ch.2.kp |>.keepM k3))
              have e4 : (ρ.set i (some (DV.own (ds.set l a)))).set i (some (DV.own ((ds.set l a).set l' z))) = ρ.set i (some (DV.own ((ds.set l a).set l' z))) := List.set_set ..
              rw [e4] at ch3
              exact ⟨p, ys3, jj', l', rfl, rj'.int, hp3, by rw [r3.len]; exact hl', rfl, _, ow, s3, ch3.1, ContS.move q3 ch3.2⟩
    | [], _, q1 => exact q1.elim
    | [_], _, q1 => exact q1.elim
    | _ :: _ :: _ :: _, _, q1 => exact q1.elim
  | _ => exact q1.elim
end
end Cz
set_option Elab.async false
set_option linter.all false
set_option maxRecDepth 100000
set_option maxHeartbeats 4000000
/-! New lists from calls, from list(e), from a list so many times; range downwards; extend; dict comprehensions, d[k] of a dict that is read. -/
namespace Cz
open PySem PySem.Spec PyProof.Rows L2
/-! ### data with no list and no dict in it -/
mutual
def noL : D → Bool
  | .list _ => false
  | .dict _ => false
  | .tuple ds => noLs ds
  | _ => true
def noLs : List D → Bool
  | [] => true
  | d :: ds => noL d && noLs ds
end
theorem Rep.noL {K : PySem.W.Frag} {N N' : Addr → Prop} {H : Hp} {v : V} {d : D} (h : Rep K N H v d) : Cz.noL d = true → Rep K N' H v d := by
  refine Rep.rec (motive_1 := fun v d _ => Cz.noL d = true → Rep K N' H v d) (motive_2 := fun vs ds _ => Cz.noLs ds = true → Reps K N' H vs ds) (motive_3 := fun _ _ _ => True) ?_ ?_ ?_ ?_ ?_ ?_ ?_ ?_ ?_ ?_ ?_ h
  · exact fun _ => .non
  · exact fun b _ => .bl b
  · exact fun i _ => .int i
  · exact fun x _ => .str x
  · exact fun _ _ _ _ f => by simp [Cz.noL] at f
  · exact fun h r ih f => .tup h (ih (by simpa [Cz.noL] using f))
  · exact fun _ _ _ _ f => by simp [Cz.noL] at f
  · exact fun _ => .nil
  · exact fun _ _ a b f => by
      rw [Cz.noLs, Bool.and_eq_true] at f
      exact .cons (a f.1) (b f.2)
  · trivial
  · exact fun _ _ _ _ => trivial
theorem Agr.noL {S : Type} {W : Wd S} {K : PySem.W.Frag} {N N' : Addr → Prop} {H : Hp} : ∀ {pt : List (Option Nat)} {vs : List V} {ds : List D}, Agr W K N H pt vs ds → noLs ds = true → Agr W K N' H pt vs ds
  | _, _, _, .nil, _ => .nil
  | _, _, _, .dat h r, f => by
    rw [noLs, Bool.and_eq_true] at f
    exact .dat (h.noL f.1) (Agr.noL r f.2)
  | _, _, _, .opq h r, f => .opq h (Agr.noL r f)
def gNoL (ds : List D) : Option (List D) := if noLs ds = true then some ds else none
def gFlatL : D → Option (List D)
  | .list ds => if ds.all flatD = true then some ds else none
  | _ => none
section
variable {S : Type} [WCl S] {α β γ : Type} {b b1 : Bool} {X : Cx} {K : PySem.W.Frag} {c : Cf S} {E : XK} {ρ : En} {ρf : α → En} {e e1 e2 : Expr} {m m1 m2 : Mo S D} {ml : Mo S (List D)} {ow : Ows} {σ : L2.St} {H H1 : Hp} {s : S} {Q : VK} {Dn : Ends} {sts rest : List Stmt}
theorem gF_at {R : List V → Hp → Prop} : ∀ {gs : List (AG S)} {f : List D → Mo S (List D)} {H : Hp} {s : S}, GOk ρ gs → Stt K c ow ρ σ H s → ContF K c E ow H (mBnd (mG gs) f s) Q →
    (∀ ds s2 vs H2, Keep c.W.M H H2 → Stt K c ow ρ σ H2 s2 → Agr c.W K (c.Nn ow) H2 (ptOf gs) vs ds → ContF K c E ow H2 (f ds s2) Q → R vs H2) → tG K c E ρ gs σ H R
  | [], f, H, s, go, T, q, k => k [] s [] H .refl T .nil q
  | .inl m :: gs, f, H, s, go, T, q, k => by
    have e : mBnd (mG (.inl m :: gs)) f = mBnd m fun d => mBnd (mG gs) fun ds => f (d :: ds) := by
      show mBnd (mBnd m fun d => mBnd (mG gs) fun ds => mRet (d :: ds)) f = _
      rw [mBnd_assoc]
      refine mBnd_fun fun d => ?_
      rw [mBnd_assoc]
      exact mBnd_fun fun ds => mBnd_ret
    rw [e] at q
    refine bndF0_at (b := false) T q fun d s1 v H1 k1 T1 r1 q1 => ?_
    refine gF_at (f := fun ds => f (d :: ds)) (R := fun vs H2 => R (v :: vs) H2) (fun i n z => go i n (List.mem_cons_of_mem _ z)) T1 q1 fun ds s2 vs H2 k2 T2 r2 q2 => ?_
    exact k (d :: ds) s2 (v :: vs) H2 (k1.trans k2) T2 (.dat (r1.val.keepM k2) r2) q2
  | .inr (i, n) :: gs, f, H, s, go, T, q, k => by
    obtain ⟨a, ea, en⟩ := T.sl i _ (go i n List.mem_cons_self)
    refine ⟨_, join_some ea, ?_⟩
    exact gF_at (f := f) (R := fun vs H2 => R (.ref a :: vs) H2) (fun i n z => go i n (List.mem_cons_of_mem _ z)) T q fun ds s2 vs H2 k2 T2 r2 q2 => k ds s2 (.ref a :: vs) H2 k2 T2 (.opq en r2) q2
/-- a list that a def makes of what holds no list: it is new -/
theorem sp_new {mf : List D → Mo S D} {pt : List (Option Nat)} {ds : List D} {vs : List V} (T : Stt K c ow ρ σ H s) (r : Agr c.W K (c.Nn ow) H pt vs ds) (hn : noLs ds = true) (q : ContF K c E ow H (mBnd (mf ds) (fun d => mOf (gFlatL d)) s) Q) : spD K pt mf vs H Q E := by
  refine ⟨c.W, fun a => H a ≠ none, ds, s, c.hW, T.ok, fun a z => z, r.noL hn, ?_⟩
  unfold mBnd at q
  cases e : mf ds s with
  | ok d s' =>
    rw [e] at q
    intro v H' k o rv
    have q : ContF K c E ow H (mOf (gFlatL d) s') Q := q
    cases d with
    | list l =>
      by_cases f : l.all flatD = true
      · have e2 : gFlatL (.list l) = some l := if_pos f
        rw [e2] at q
        cases rv with
        | @lst a xs _ n h rr =>
          have np : H a = none := by
            cases z : H a with
            | none => rfl
            | some o => exact absurd (.inr (by show H a ≠ none; rw [z]; exact Option.some_ne_none _)) n
          exact q a xs H' np k o h (rr.anyN f)
      · have e2 : gFlatL (.list l) = none := if_neg f
        rw [e2] at q
        exact q.elim
    | _ => exact q.elim
  | ex C pl s' =>
    rw [e] at q
    refine fun dx H' k o x => q dx H' k o ?_
    cases pl with
    | none => exact x
    | some fd =>
      obtain ⟨a, v, e1, e2, e3⟩ := x
      refine ⟨a, v, e1, e2, e3.sub fun a z => ?_⟩
      rcases z with z | z
      · exact .inl z
      · exact .inr (T.bl a z)
  | bad => rw [e] at q; exact q.elim
theorem jf_call {k : Nat} {f : Addr} {fd : FuncData} {ps : List Str} {pt : List (Option Nat)} {mf : List D → Mo S D} {x : Str} {es : List Expr} {gs : List (AG S)} {p pos : Pos} (G : Gn X.prog X.w X.K X.mg X.base k f fd ps (spD X.K pt mf)) (O : Xok X E k)
    (gl : Gl X x) (hm : X.mg x = some (.ref f)) (hk : PySem.W.keepIn X.K (.ref f) = true) (hb : L2.Binds X.K fd ps []) (h : JG X c E ρ (e :: es) gs) (hp : ptOf gs = pt := by rfl)
    (hdb : (x == ("__debug__" : Str)) = false := by decide) (he : starEach (e :: es) X.env = (false, eval e X.env) :: starEach es X.env := by rfl) (hpl : (backTo pos (starEach es X.env)).any (·.1) = false := by rfl) :
    JF X c E ρ (.Call (.Name x p) (e :: es) [] pos) (mBnd (mG gs) fun ds => mBnd (mOf (gNoL ds)) fun ds => mBnd (mf ds) fun d => mOf (gFlatL d)) := by
  have P : PE X (.Call (.Name x p) (e :: es) [] pos) (fun σ H Q => tG X.K c E ρ gs σ H fun vs H1 => spD X.K pt mf vs H1 Q E) := by
    refine ⟨fun pins s σ H Q I q => wpAny_Call_Name_kw (ld_glob I gl hm ?_ hdb)⟩
    refine PySem.W.callWith_K (h₀ := X.base) I.ok.mod.kin hk (thn (h.pa.run pos pins s σ H _ I q) fun us s1 ⟨vs, H1, I1, r, q1⟩ => ?_) he hpl
    have e := hb s1 us I1.kIn (by rw [List.append_nil, ← r.length]; exact G.len _ _ _ _ q1)
    rw [List.append_nil] at e
    exact ⟨I1.kIn, run_gn (args := ⟨us, []⟩) (ws := []) (ks := []) G O I1 r e q1⟩
  refine JF.of P fun σ H Q ⟨ow, s, T, q⟩ => gF_at h.gok T q fun ds s2 vs H2 k2 T2 r2 q2 => ?_
  rw [hp] at r2
  by_cases f : noLs ds = true
  · have e2 : gNoL ds = some ds := if_pos f
    rw [e2] at q2
    exact sp_new T2 r2 f q2
  · have e2 : gNoL ds = none := if_neg f
    rw [e2] at q2
    exact q2.elim
/-- list(e), a list or a tuple -/
theorem jf_listOf {b1 : Bool} {p pos : Pos} (gl : Gl X "list") (hm : X.mg "list" = none) (h : JE b1 X c E ρ e m) (he : starEach [e] X.env = (false, eval e X.env) :: starEach [] X.env := by rfl) (hpl : (backTo pos (starEach [] X.env)).any (·.1) = false := by rfl) :
    JF X c E ρ (.Call (.Name "list" p) [e] [] pos) (mBnd (mAll [m]) fun ds => mOf (match ds with | [d] => gSeq d | _ => none)) :=
  JF.of (pe_callTy call_list_of gl hm boot_list (JA.cons h .nil he).pa (by decide) (by decide) he hpl) fun σ H Q ⟨ow, s, T, q⟩ => allF_at (b := b1) T q fun ds s2 vs H2 k T2 r l q2 => by
    match ds, l with
    | [d], _ =>
      obtain ⟨v, rfl, rx⟩ := r.one
      cases d with
      | list ds =>
        obtain ⟨p, xs, rfl, hp, r1⟩ := rx.list
        exact ⟨p, xs, rfl, .inl (SqL.of hp), fun l n => ofF_done T2 q2 n fun ds' z => by cases z; exact r1⟩
      | tuple ds =>
        obtain ⟨p, xs, rfl, hp, r1⟩ := rx.tuple
        exact ⟨p, xs, rfl, .inr hp, fun l n => ofF_done T2 q2 n fun ds' z => by cases z; exact r1⟩
      | _ => exact q2.elim
/-! ### range downwards -/
def dDown (hi : Int) (n : Nat) : List D := (List.range n).map fun i => .int (hi + (i : Nat) * -1)
theorem itd_down {hi : Int} {n : Nat} : ItD K c ow H1 (Itc hi (-1) n) (dDown hi n) := by
  refine ⟨fun i H k h => show i < n by simpa [dDown] using h, fun i H k h => show n ≤ i by simpa [dDown] using h, fun i H x H' k y => ?_⟩
  obtain ⟨e1, e2⟩ := y
  subst e1
  refine ⟨fun _ _ h => h, fun d hd N' w => ?_⟩
  unfold dDown at hd
  rw [List.getElem?_map] at hd
  cases hj : (List.range n)[i]? with
  | none => rw [hj] at hd; cases hd
  | some j =>
    rw [hj] at hd
    obtain ⟨h1, h2⟩ := List.getElem?_eq_some_iff.mp hj
    have hij : i = j := by simpa using h2
    subst hij
    have hd := Option.some.inj hd
    rw [e2, ← hd]
    exact .int _
def gDown : List D → Option (List D)
  | [.int i, .int j, .int c] => if c = -1 ∧ -(2 ^ 62) ≤ i ∧ i < 2 ^ 62 ∧ -(2 ^ 62) ≤ j ∧ j < 2 ^ 62 then some (dDown i (i - j).toNat) else none
  | _ => none
theorem ji_range3 {a a' a2 tg : Expr} {p pos : Pos} {m' m2 : Mo S D} (gl : Gl X "range") (hm : X.mg "range" = none) (h : JE false X c E ρ a m) (h' : JE false X c E ρ a' m') (h2 : JE false X c E ρ a2 m2)
    (hs : starEach [a, a', a2] X.env = (false, eval a X.env) :: starEach [a', a2] X.env := by rfl) (hs2 : starEach [a', a2] X.env = (false, eval a' X.env) :: starEach [a2] X.env := by rfl) (hs3 : starEach [a2] X.env = (false, eval a2 X.env) :: starEach [] X.env := by rfl) (hpl : (backTo pos (starEach [a', a2] X.env)).any (·.1) = false := by rfl) :
    JI X c E ρ tg (.Call (.Name "range" p) [a, a', a2] [] pos) (mBnd (mAll [m, m', m2]) fun ds => mOf (gDown ds)) :=
  JI.of (pi_range3 gl hm (JA.pa (.cons h (.cons h' (.cons h2 .nil hs3) hs2) hs)) hs hpl) fun σ H R ⟨ow, s, T, q⟩ => allI_at T q fun ds s2 vs H2 k T2 r l q2 => by
    match ds, l with
    | [d, d', d2], _ =>
      cases r with
      | cons r r' =>
        obtain ⟨v', v2, e2, q1, q3'⟩ := r'.two
        subst e2
        cases d with
        | int i =>
          cases d' with
          | int j =>
            cases d2 with
            | int cc =>
              by_cases hb : cc = -1 ∧ -(2 ^ 62) ≤ i ∧ i < 2 ^ 62 ∧ -(2 ^ 62) ≤ j ∧ j < 2 ^ 62
              · have eg : gDown [.int i, .int j, .int cc] = some (dDown i (i - j).toNat) := if_pos hb
                obtain ⟨es, e, q3⟩ := ofI_done q2
                have e : gDown [.int i, .int j, .int cc] = some es := e
                rw [eg] at e
                cases e
                obtain ⟨rfl, b1, b2, b3, b4⟩ := hb
                exact ⟨i, j, -1, _, by rw [r.int, q1.int, q3'.int], RgC.neg b1 b2 b3 b4, q3 _ H2 .refl T2.ok itd_down⟩
              · obtain ⟨es, e, q3⟩ := ofI_done q2
                have eg : gDown [.int i, .int j, .int cc] = none := if_neg hb
                have e : gDown [.int i, .int j, .int cc] = some es := e
                rw [eg] at e
                cases e
            | _ => obtain ⟨es, e, q3⟩ := ofI_done q2; cases e
          | _ => obtain ⟨es, e, q3⟩ := ofI_done q2; cases e
        | _ => obtain ⟨es, e, q3⟩ := ofI_done q2; cases e
end
end Cz
set_option Elab.async false
set_option linter.all false
set_option maxRecDepth 100000
set_option maxHeartbeats 4000000
/-! Dict comprehensions, d[k] of a dict that is read. -/
namespace Cz
open PySem PySem.Spec PyProof.Rows L2
/-! ### a dict under way: its keys beside their data -/
structure RepA (K : PySem.W.Frag) (N : Addr → Prop) (H : Hp) (kvs : List (L2.Key × V)) (acc : List (L2.Key × D)) : Prop where
  ks : kvs.map (·.1) = acc.map (·.1)
  vs : Reps K N H (kvs.map (·.2)) (acc.map (·.2))
def putD (acc : List (L2.Key × D)) (k : L2.Key) (d : D) : List (L2.Key × D) :=
  if (acc.any fun p => decide (p.1 = k)) = true then acc.map (fun p => if p.1 = k then (p.1, d) else p) else acc ++ [(k, d)]
def dctD (acc : List (L2.Key × D)) : List (D × D) := acc.map fun p => (kD p.1, p.2)
section
variable {K : PySem.W.Frag} {N : Addr → Prop} {H : Hp}
theorem RepA.len {kvs : List (L2.Key × V)} {acc : List (L2.Key × D)} (r : RepA K N H kvs acc) : kvs.length = acc.length := by simpa using congrArg List.length r.ks
theorem RepA.repk : ∀ {kvs : List (L2.Key × V)} {acc : List (L2.Key × D)}, RepA K N H kvs acc → Repk K N H kvs (dctD acc)
  | [], [], _ => .nil
  | [], _ :: _, r => by have := r.len; simp at this
  | _ :: _, [], r => by have := r.len; simp at this
  | (k, v) :: kvs, (k', d) :: acc, r => by
    have e := r.ks
    simp only [List.map_cons, List.cons.injEq] at e
    obtain ⟨rfl, e⟩ := e
    cases r.vs with
    | cons h r' => exact .cons h (RepA.repk ⟨e, r'⟩)
theorem RepA.any {kvs : List (L2.Key × V)} {acc : List (L2.Key × D)} (r : RepA K N H kvs acc) (k : L2.Key) : (kvs.any fun p => decide (p.1 = k)) = acc.any fun p => decide (p.1 = k) := by
  have e1 : (kvs.any fun p => decide (p.1 = k)) = (kvs.map (·.1)).any fun z => decide (z = k) := by rw [List.any_map]; rfl
  have e2 : (acc.any fun p => decide (p.1 = k)) = (acc.map (·.1)).any fun z => decide (z = k) := by rw [List.any_map]; rfl
  rw [e1, e2, r.ks]
theorem RepA.upd {k : L2.Key} {v : V} {d : D} (hv : Rep K N H v d) : ∀ {kvs : List (L2.Key × V)} {acc : List (L2.Key × D)}, RepA K N H kvs acc → RepA K N H (kvs.map fun p => if p.1 = k then (p.1, v) else p) (acc.map fun p => if p.1 = k then (p.1, d) else p)
  | [], [], _ => ⟨rfl, .nil⟩
  | [], _ :: _, r => by have := r.len; simp at this
  | _ :: _, [], r => by have := r.len; simp at this
  | (k1, v1) :: kvs, (k2, d1) :: acc, r => by
    have e := r.ks
    simp only [List.map_cons, List.cons.injEq] at e
    obtain ⟨rfl, e⟩ := e
    cases r.vs with
    | cons h r' =>
      have ih := RepA.upd (k := k) hv (⟨e, r'⟩ : RepA K N H kvs acc)
      by_cases q : k1 = k
      · refine ⟨?_, ?_⟩
        · simp only [List.map_cons, if_pos q]
          exact congrArg _ ih.ks
        · simp only [List.map_cons, if_pos q]
          exact .cons hv ih.vs
      · refine ⟨?_, ?_⟩
        · simp only [List.map_cons, if_neg q]
          exact congrArg _ ih.ks
        · simp only [List.map_cons, if_neg q]
          exact .cons h ih.vs
theorem RepA.put {kvs : List (L2.Key × V)} {acc : List (L2.Key × D)} (r : RepA K N H kvs acc) (k : L2.Key) {v : V} {d : D} (hv : Rep K N H v d) : RepA K N H (L2.putK kvs k v) (putD acc k d) := by
  unfold L2.putK putD
  rw [r.any k]
  split
  · exact r.upd hv
  · refine ⟨?_, ?_⟩
    · rw [List.map_append, List.map_append, r.ks]
      rfl
    · rw [List.map_append, List.map_append]
      exact r.vs.app (.cons hv .nil)
end
def keyD : D → Option L2.Key
  | .int i => some (.inl i)
  | .str x => some (.inr x)
  | _ => none
theorem keyD_kV {K : PySem.W.Frag} {N : Addr → Prop} {H : Hp} {v : V} {d : D} {k : L2.Key} (h : Rep K N H v d) (e : keyD d = some k) : v = kV k := by
  cases h with
  | int i => cases e; rfl
  | str x => cases e; rfl
  | _ => cases e
section
variable {S : Type} [WCl S] {α β γ : Type} {b b1 : Bool} {X : Cx} {K : PySem.W.Frag} {c : Cf S} {E : XK} {ρ : En} {ρf : α → En} {e e1 e2 : Expr} {m m1 m2 : Mo S D} {ml : Mo S (List D)} {ow : Ows} {σ : L2.St} {H H1 : Hp} {s : S} {Q : VK} {Dn : Ends} {sts rest : List Stmt}
def mDcm (f : D → Mo S (L2.Key × D)) : List D → List (L2.Key × D) → Mo S D
  | [], acc => mRet (.dict (dctD acc))
  | x :: xs, acc => mBnd (mNo (f x)) fun p => if acc.length < sizeLine then mDcm f xs (putD acc p.1 p.2) else mBad
where
  mNo (m : Mo S (L2.Key × D)) : Mo S (L2.Key × D) := fun s => match m s with
    | .ok p s' => .ok p s'
    | _ => .bad
def mKv (mk mv : Mo S D) : Mo S (L2.Key × D) := mBnd mk fun k => mBnd (mOf (keyD k)) fun k => mBnd mv fun d => mRet (k, d)
/-- what a dict comprehension's reading asks, from what it is to do -/
theorem dc_run {g : TG} {tgt : D → En → Option En} {ts : List Nat} {vs : List Nat} {mi : Mo S (List D)} {fk fv : D → Mo S D} (ht : TgOk K g tgt ts) (hv : ∀ j ∈ ts, j ∈ vs) (hno : ∀ x, tgt x (wipeE ρ vs) = none → fk x = mBad)
    (T : Stt K c ow ρ σ H s) (q : Cont b K c E ow H (mBnd mi (fun xs => mDcm (fun x => mKv (fk x) (fv x)) xs []) s) Q) : tDc (tI K c E ρ mi) g tYes (teB K tgt (wipeE ρ vs) fk) (teB K tgt (wipeE ρ vs) fv) vs σ H Q := by
  refine ⟨ow, s, T, ?_⟩
  unfold mBnd at q
  cases e : mi s with
  | ex C pl s1 => rw [e] at q; exact q
  | bad => rw [e] at q; exact q
  | ok ds s1 =>
    rw [e] at q
    intro J H1 k1 o1 D1 p n
    have T1 := T.move k1 o1
    have q1 : Cont b K c E ow H1 (mDcm (fun x => mKv (fk x) (fv x)) ds [] s1) Q := Cont.move q k1
    have nM : ¬ c.W.M p := fun z => T1.fresh n (.inl z)
    have kN : Keep c.W.M H1 (upd H1 p (.dK [])) := Keep.same (same_new n)
    refine ⟨fun i mm H => mm = ds.length - i ∧ i ≤ ds.length ∧ ∃ acc vacc s', Stt K (c.blk p) ow (wipeE ρ vs) (wipe σ vs) H s' ∧ Keep c.W.M H1 H ∧ H p = some (.dK vacc) ∧ RepA K ((c.blk p).Nn ow) H vacc acc ∧ Cont b K c E ow H1 (mDcm (fun x => mKv (fk x) (fv x)) (ds.drop i) acc s') Q,
      ⟨ds.length, rfl, Nat.zero_le _, [], [], s1, T1.blk n vs, kN, upd_same, ⟨rfl, .nil⟩, q1⟩, ?_⟩
    rintro i mm H ⟨rfl, hi, acc, vacc, s', T', k', hp, ra, q'⟩
    by_cases hlt : i < ds.length
    · have hd : ds[i]? = some ds[i] := List.getElem?_eq_getElem hlt
      rw [List.drop_eq_getElem_cons hlt] at q'
      refine .inr ⟨D1.go i H (k'.mono fun _ z => .inl z) hlt, fun H' => ∃ acc vacc s', Stt K (c.blk p) ow (wipeE ρ vs) (wipe σ vs) H' s' ∧ Keep c.W.M H1 H' ∧ H' p = some (.dK vacc) ∧ RepA K ((c.blk p).Nn ow) H' vacc acc ∧ Cont b K c E ow H1 (mDcm (fun x => mKv (fk x) (fv x)) (ds.drop (i + 1)) acc s') Q,
        fun H' z => ⟨ds.length - (i + 1), by omega, rfl, hlt, z⟩, fun x H' y => ?_⟩
      obtain ⟨sm, rp⟩ := D1.yl i H x H' (k'.mono fun _ z => .inl z) y
      have T2 := T'.move (.same sm) (c.W.same T'.ok sm)
      have rx : Rep K ((c.blk p).Nn ow) H' x ds[i] := rp _ hd _ fun a z => (Cf.blkN.mp z).imp id fun z => by rw [z]; exact n
      have q' : Cont b K c E ow H1 (mBnd (mDcm.mNo (mKv (fk ds[i]) (fv ds[i]))) (fun p => if acc.length < sizeLine then mDcm (fun x => mKv (fk x) (fv x)) (ds.drop (i + 1)) (putD acc p.1 p.2) else mBad) s') Q := q'
      have bad : ∀ {o : Out S (L2.Key × D)}, mKv (fk ds[i]) (fv ds[i]) s' = o → (∀ p s2, o ≠ .ok p s2) → False := fun {o} eo no => by
        unfold mBnd mDcm.mNo at q'
        rw [eo] at q'
        cases o with
        | ok p s2 => exact no p s2 rfl
        | ex _ _ _ => exact q'.elim
        | bad => exact q'.elim
      cases et : tgt ds[i] (wipeE ρ vs) with
      | none =>
        refine (bad (o := .bad) ?_ fun _ _ z => by cases z).elim
        unfold mKv
        rw [hno _ et]
        rfl
      | some ρ' =>
        refine ht T2 rx et fun σ2 T3 hl hs => ⟨wipe_same hl hs hv, ?_⟩
        unfold tYes
        dsimp only
        rw [if_pos rfl]
        refine ⟨c.blk p, ds[i], ρ', et, ow, s', T3, ?_⟩
        cases ek : fk ds[i] s' with
        | ex C pl s2 => exact (bad (o := .ex C pl s2) (by unfold mKv mBnd; rw [ek]) fun _ _ z => by cases z).elim
        | bad => exact (bad (o := .bad) (by unfold mKv mBnd; rw [ek]) fun _ _ z => by cases z).elim
        | ok dk s2 =>
          intro vk H3 k3 o3 rk
          cases ekk : keyD dk with
          | none =>
            refine (bad (o := .bad) ?_ fun _ _ z => by cases z).elim
            have e0 : mKv (fk ds[i]) (fv ds[i]) s' = mBnd (mOf (keyD dk)) (fun k => mBnd (fv ds[i]) fun d => mRet (k, d)) s2 := by
              unfold mKv
              conv => lhs; unfold mBnd
              rw [ek]
              rfl
            rw [e0, ekk]
            rfl
          | some k =>
            have T4 := T3.move k3 o3
            refine ⟨c.blk p, ds[i], ρ', et, ow, s2, T4, ?_⟩
            have e3 : mKv (fk ds[i]) (fv ds[i]) s' = mBnd (fv ds[i]) (fun d => mRet (k, d)) s2 := by
              unfold mKv
              conv => lhs; unfold mBnd
              rw [ek]
              show mBnd (mOf (keyD dk)) _ s2 = _
              rw [ekk]
              rfl
            cases ev : fv ds[i] s2 with
            | ex C pl s3 => exact (bad (o := .ex C pl s3) (by rw [e3]; unfold mBnd; rw [ev]) fun _ _ z => by cases z).elim
            | bad => exact (bad (o := .bad) (by rw [e3]; unfold mBnd; rw [ev]) fun _ _ z => by cases z).elim
            | ok dv s3 =>
              intro vv H4 k4 o4 rv
              have e4 : mKv (fk ds[i]) (fv ds[i]) s' = .ok (k, dv) s3 := by rw [e3]; unfold mBnd; rw [ev]; rfl
              have q2 : Cont b K c E ow H1 ((if acc.length < sizeLine then mDcm (fun x => mKv (fk x) (fv x)) (ds.drop (i + 1)) (putD acc k dv) else mBad) s3) Q := by
                unfold mBnd mDcm.mNo at q'
                rw [e4] at q'
                exact q'
              by_cases hz : acc.length < sizeLine
              · rw [if_pos hz] at q2
                have hp4 : H4 p = some (.dK vacc) := k4.st p _ (k3.st p _ (sm _ _ hp) (.inl nM) rfl) (.inl nM) rfl
                have T5 := T4.move k4 o4
                have r5 : RepA K ((c.blk p).Nn ow) H4 vacc acc := ⟨ra.ks, (((ra.vs.keepS sm).keepM (c := c.blk p) k3).keepM (c := c.blk p) k4)⟩
                have r6 := r5.put k rv.val
                have kk : Keep (fun a => a = p) H4 (upd H4 p (.dK (L2.putK vacc k vv))) := Keep.at_ rfl hp4 rfl
                have sub : ∀ a, a = p → (c.blk p).Nn ow a := fun a z => Cf.blkN.mpr (.inr z)
                refine ⟨vacc, k, keyD_kV rk.val ekk, hp4, by rw [ra.len]; exact hz, putD acc k dv, L2.putK vacc k vv, s3, ((T2.move k3 o3).move k4 o4).chgB (.inr rfl) nM rfl hp4 rfl rfl, ?_, upd_same, ⟨r6.ks, ?_⟩, q2⟩
                · exact Keep.over (((k'.trans (.same sm)).trans k3).trans k4) n
                · exact Reps.keep sub (fun _ z => z) kk _ _ r6.vs
              · rw [if_neg hz] at q2
                exact q2.elim
    · have hi' : i = ds.length := by omega
      subst hi'
      rw [List.drop_length] at q'
      have q' : ∀ v H', Keep c.W.M H1 H' → c.W.ok s' H' → RepX b K c ow H' v (.dict (dctD acc)) → Q v H' := q'
      refine .inl ⟨D1.st _ H (k'.mono fun _ z => .inl z) (Nat.le_refl _), q' _ H k' T'.ok (.inl (.dic (T1.fresh n) hp ?_))⟩
      have r1 := ra.repk
      exact Repk.keep (M := fun _ => False) (N := (c.blk p).Nn ow) (fun _ z => z.elim) (fun a z => Cf.blkN.mpr (.inl z)) Keep.refl _ _ r1
end
section
variable {S : Type} [WCl S] {b : Bool} {X : Cx} {c : Cf S} {E : XK} {ρ : En} {kx vx tg it : Expr} {scope : Scope} {own : List (Str × Nat)} {pos : Pos} {g : TG} {tgt : D → En → Option En} {ts : List Nat} {mi : Mo S (List D)} {fk fv : D → Mo S D}
/-- {k: v for tg in it} -/
theorem je_dc (hc : X.calm = true) (nd : X.N.Nodup) (hi : JI X c E ρ tg it mi) (ok : BlkOk X.N X.env.scope scope own) (hg : ∀ (s : Shared) (H : Hp) (C : Addr) (cl : List (Str × Addr)) (fp : List Addr), PG (bk X scope s H C cl fp) tg g) (ht : TgOk X.K g tgt ts)
    (hv : ∀ j ∈ ts, j ∈ own.map (·.2)) (hno : ∀ x, tgt x (wipeE ρ (own.map (·.2))) = none → fk x = mBad)
    (hk : ∀ (s : Shared) (H : Hp) (C : Addr) (cl : List (Str × Addr)) (fp : List Addr) (c' : Cf S) (x : D) (ρ' : En), tgt x (wipeE ρ (own.map (·.2))) = some ρ' → JE false (bk X scope s H C cl fp) c' E0 ρ' kx (fk x))
    (he : ∀ (s : Shared) (H : Hp) (C : Addr) (cl : List (Str × Addr)) (fp : List Addr) (c' : Cf S) (x : D) (ρ' : En), tgt x (wipeE ρ (own.map (·.2))) = some ρ' → JE false (bk X scope s H C cl fp) c' E0 ρ' vx (fv x))
    (hs : ∀ x, foldedSetIterable it X.env x = pure x := by intro _; rfl) : JE b X c E ρ (.DictComp kx vx [⟨tg, it, [], 0⟩] scope pos) (mBnd mi fun xs => mDcm (fun x => mKv (fk x) (fv x)) xs []) :=
  JE.of (pe_dc hc nd hi ok hg (fun _ _ _ _ _ => pts_nil) (peB hk) (peB he) hs) fun σ H Q ⟨ow, s, T, q⟩ => dc_run ht hv hno T q
end
/-! ### d[k] -/
def isKey : D → L2.Key → Bool
  | .int i, .inl j => decide (i = j)
  | .str x, .inr y => decide (x = y)
  | _, _ => false
def lookD : List (D × D) → L2.Key → Option D
  | [], _ => none
  | (kd, d) :: r, k => if isKey kd k = true then some d else lookD r k
theorem isKey_k (k k' : L2.Key) : isKey (kD k) k' = decide (k = k') := by
  cases k with
  | inl i => cases k' with
    | inl j => simp [isKey, kD]
    | inr y => simp [isKey, kD]
  | inr x => cases k' with
    | inl j => simp [isKey, kD]
    | inr y => simp [isKey, kD]
theorem Repk.look {K : PySem.W.Frag} {N : Addr → Prop} {H : Hp} {k : L2.Key} {d : D} : ∀ {kvs : List (L2.Key × V)} {es : List (D × D)}, Repk K N H kvs es → lookD es k = some d → ∃ v, L2.valV kvs k = some v ∧ Rep K N H v d
  | _, _, .nil, e => by cases e
  | _, _, .cons (k := k') (v := v) h r, e => by
    unfold lookD at e
    rw [isKey_k] at e
    by_cases q : k' = k
    · rw [decide_eq_true q, if_pos rfl] at e
      cases e
      exact ⟨v, L2.valV_pos q, h⟩
    · rw [decide_eq_false q, if_neg Bool.false_ne_true] at e
      obtain ⟨v', e1, h1⟩ := Repk.look r e
      exact ⟨v', by rw [L2.valV_neg q]; exact e1, h1⟩
def gDix : D → D → Option D
  | .dict es, y => (keyD y).bind (lookD es)
  | _, _ => none
theorem je_dix {S : Type} [WCl S] {b b1 : Bool} {X : Cx} {c : Cf S} {E : XK} {ρ : En} {o i : Expr} {m1 m2 : Mo S D} {pos : Pos} (hu : X.A.units + 1 < cLine) (ho : JE b1 X c E ρ o m1) (hi : JE false X c E ρ i m2) (hs : NoSl i) :
    JE b X c E ρ (.Subscript o i pos) (mBnd m1 fun x => mBnd m2 fun y => mOf (gDix x y)) :=
  JE.of (pe_dget hu ho hi hs) fun σ H Q ⟨ow, s, T, q⟩ => bnd_at (b := b1) T q fun x s1 v H1 k1 T1 rx q1 => bnd_at (b := false) T1 q1 fun y s2 w H2 k2 T2 ry q2 => by
    obtain ⟨d, eg, q3⟩ := of_done T2 q2
    have rx2 := rx.keepM k2 T1
    cases x with
    | dict es =>
      have eg : (keyD y).bind (lookD es) = some d := eg
      cases ek : keyD y with
      | none => rw [ek] at eg; cases eg
      | some k =>
        rw [ek] at eg
        obtain ⟨p, kvs, rfl, hp, rk⟩ := rx2.dict
        obtain ⟨v, e1, rv⟩ := Repk.look rk eg
        refine ⟨p, v, rfl, .inl ⟨kvs, k, .inl hp, keyD_kV ry.val ek, e1.symm⟩, q3 _ _ .refl T2.ok (.inl rv)⟩
    | _ => cases eg
end Cz
namespace Cz
open PySem PySem.Spec PyProof.Rows L2
def gEnumL : List D → Option (List D)
  | [d] => gEnum d
  | _ => none
def gSeqL : List D → Option (List D)
  | [d] => gSeq d
  | _ => none
section
variable {S : Type} [WCl S] {b1 : Bool} {X : Cx} {c : Cf S} {E : XK} {ρ : En} {e : Expr} {m : Mo S D}
theorem ji_en {p pos tpos : Pos} {elts : List Expr} {kk : Nat} (hg : Gl X "enumerate") (hm : X.mg "enumerate" = none) (h : JE false X c E ρ e m) (hs : starEach [e] X.env = [(false, eval e X.env)] := by rfl) :
    JI X c E ρ (.Tuple elts kk tpos) (.Call (.Name "enumerate" p) [e] [] pos) (mBnd (mAll [m]) fun ds => mOf (gEnumL ds)) := ji_enum hg hm h hs
theorem jf_lo {b1 : Bool} {p pos : Pos} (gl : Gl X "list") (hm : X.mg "list" = none) (h : JE b1 X c E ρ e m) (he : starEach [e] X.env = (false, eval e X.env) :: starEach [] X.env := by rfl) (hpl : (backTo pos (starEach [] X.env)).any (·.1) = false := by rfl) :
    JF X c E ρ (.Call (.Name "list" p) [e] [] pos) (mBnd (mAll [m]) fun ds => mOf (gSeqL ds)) := jf_listOf gl hm h he hpl
end
end Cz
theorem L2.Room.un1 {k : Nat} {A : PySem.Around} (r : L2.Room k A) : A.units + 1 < PySem.cLine := by have := r.un; omega
set_option linter.all false
/-! Rules as functions: L x y; all kinds below n. -/
namespace Rl
def Bij (n : Nat) (f : Nat → Nat) : Prop := (∀ x, x < n → f x < n) ∧ ∀ x, x < n → ∀ y, y < n → f x = f y → x = y
theorem pig : ∀ (n : Nat) (f : Nat → Nat), Bij n f → ∀ y, y < n → ∃ x, x < n ∧ f x = y
  | 0, _, _, y, hy => absurd hy (Nat.not_lt_zero y)
  | n + 1, f, ⟨h1, h2⟩, y, hy => by
    by_cases hn : f n = y
    · exact ⟨n, Nat.lt_succ_self n, hn⟩
    · -- swap the values n and f n
      let s : Nat → Nat := fun v => if v = f n then n else if v = n then f n else v
      let g : Nat → Nat := fun x => s (f x)
      have fn := h1 n (Nat.lt_succ_self n)
      have gb : Bij n g := by
        refine ⟨fun x hx => ?_, fun x hx z hz e => ?_⟩
        · have a := h1 x (by omega)
          have ne : f x ≠ f n := fun e => by have := h2 x (by omega) n (by omega) e; omega
          show (if f x = f n then n else if f x = n then f n else f x) < n
          rw [if_neg ne]
          by_cases q : f x = n
          · rw [if_pos q]
            have : f n ≠ n := fun z => ne (by rw [q, z])
            omega
          · rw [if_neg q]; omega
        · have nx : f x ≠ f n := fun e => by have := h2 x (by omega) n (by omega) e; omega
          have nz : f z ≠ f n := fun e => by have := h2 z (by omega) n (by omega) e; omega
          have e : (if f x = f n then n else if f x = n then f n else f x) = (if f z = f n then n else if f z = n then f n else f z) := e
          rw [if_neg nx, if_neg nz] at e
          refine h2 x (by omega) z (by omega) ?_
          by_cases qx : f x = n
          · by_cases qz : f z = n
            · rw [qx, qz]
            · rw [if_pos qx, if_neg qz] at e
              exact absurd e.symm nz
          · by_cases qz : f z = n
            · rw [if_neg qx, if_pos qz] at e
              exact absurd e nx
            · rw [if_neg qx, if_neg qz] at e
              exact e
      -- what goes to y
      let y' := s y
      have hy' : y' < n := by
        show (if y = f n then n else if y = n then f n else y) < n
        rw [if_neg (Ne.symm hn)]
        by_cases q : y = n
        · rw [if_pos q]
          have : f n ≠ n := fun z => hn (by rw [z, q])
          omega
        · rw [if_neg q]; omega
      obtain ⟨x, hx, e⟩ := pig n g gb y' hy'
      refine ⟨x, by omega, ?_⟩
      have nx : f x ≠ f n := fun e => by have := h2 x (by omega) n (by omega) e; omega
      have e : (if f x = f n then n else if f x = n then f n else f x) = (if y = f n then n else if y = n then f n else y) := e
      rw [if_neg nx, if_neg (Ne.symm hn)] at e
      by_cases qx : f x = n
      · by_cases qz : y = n
        · rw [qx, qz]
        · rw [if_pos qx, if_neg qz] at e
          exact absurd e hn
      · by_cases qz : y = n
        · rw [if_neg qx, if_pos qz] at e
          exact absurd e nx
        · rw [if_neg qx, if_neg qz] at e
          exact e
/-- the inverse -/
def iv (n : Nat) (f : Nat → Nat) (y : Nat) : Nat := ((List.range n).find? fun z => f z == y).getD 0
theorem iv_spec {n : Nat} {f : Nat → Nat} (h : Bij n f) {y : Nat} (hy : y < n) : iv n f y < n ∧ f (iv n f y) = y := by
  obtain ⟨x, hx, e⟩ := pig n f h y hy
  unfold iv
  cases q : (List.range n).find? fun z => f z == y with
  | none =>
    rw [List.find?_eq_none] at q
    exact absurd (by simpa using e) (q x (by simpa using hx))
  | some z =>
    have h1 := List.find?_some q
    have h2 := List.mem_of_find?_eq_some q
    exact ⟨by simpa using h2, by simpa using h1⟩
theorem iv_lt {n : Nat} {f : Nat → Nat} (h : Bij n f) {y : Nat} (hy : y < n) : iv n f y < n := (iv_spec h hy).1
theorem iv_at {n : Nat} {f : Nat → Nat} (h : Bij n f) {y : Nat} (hy : y < n) : f (iv n f y) = y := (iv_spec h hy).2
theorem iv_eq {n : Nat} {f : Nat → Nat} (h : Bij n f) {z y : Nat} (hz : z < n) (e : f z = y) : iv n f y = z := by
  have hy : y < n := by rw [← e]; exact h.1 z hz
  exact h.2 _ (iv_lt h hy) _ hz (by rw [iv_at h hy, e])
theorem Bij.id {n : Nat} : Bij n fun x => x := ⟨fun _ h => h, fun _ _ _ _ e => e⟩
theorem Bij.comp {n : Nat} {f g : Nat → Nat} (hf : Bij n f) (hg : Bij n g) : Bij n fun x => f (g x) := ⟨fun x h => hf.1 _ (hg.1 x h), fun x hx y hy e => hg.2 x hx y hy (hf.2 _ (hg.1 x hx) _ (hg.1 y hy) e)⟩
theorem Bij.iv {n : Nat} {f : Nat → Nat} (h : Bij n f) : Bij n (iv n f) := ⟨fun x hx => iv_lt h hx, fun x hx y hy e => by rw [← iv_at h hx, e, iv_at h hy]⟩
theorem Bij.congr {n : Nat} {f g : Nat → Nat} (h : Bij n f) (e : ∀ x, x < n → g x = f x) : Bij n g := ⟨fun x hx => by rw [e x hx]; exact h.1 x hx, fun x hx y hy q => h.2 x hx y hy (by rw [← e x hx, ← e y hy]; exact q)⟩
theorem iv_congr {n : Nat} {f g : Nat → Nat} (e : ∀ x, x < n → g x = f x) (y : Nat) : Rl.iv n g y = Rl.iv n f y := by
  unfold Rl.iv
  congr 1
  have key : ∀ l : List Nat, (∀ z ∈ l, z < n) → l.find? (fun z => g z == y) = l.find? (fun z => f z == y) := fun l => by
    induction l with
    | nil => intro _; rfl
    | cons a l ih =>
      intro hl
      rw [List.find?_cons, List.find?_cons, e a (hl a List.mem_cons_self), ih fun z hz => hl z (List.mem_cons_of_mem _ hz)]
  exact key _ fun z hz => by simpa using hz
/-- what y's turn from the right makes of x -/
def Rt (n : Nat) (L : Nat → Nat → Nat) (y x : Nat) : Nat := iv n (L (L x y)) x
structure Ru (n : Nat) (L : Nat → Nat → Nat) : Prop where
  b : ∀ x, x < n → Bij n (L x)
  y : ∀ x, x < n → ∀ y, y < n → ∀ z, z < n → L x (L y z) = L (L x y) (L (Rt n L y x) z)
  r : ∀ y, y < n → Bij n fun x => Rt n L y x
section
variable {n : Nat} {L : Nat → Nat → Nat}
theorem Ru.lt (h : Ru n L) {x y : Nat} (hx : x < n) (hy : y < n) : L x y < n := (h.b x hx).1 y hy
theorem Ru.rlt (h : Ru n L) {x y : Nat} (hx : x < n) (hy : y < n) : Rt n L y x < n := iv_lt (h.b _ (h.lt hx hy)) hx
/-- L_u v = x -/
theorem Ru.uv (h : Ru n L) {x y : Nat} (hx : x < n) (hy : y < n) : L (L x y) (Rt n L y x) = x := iv_at (h.b _ (h.lt hx hy)) hx
theorem Ru.back (h : Ru n L) {x y : Nat} (hx : x < n) (hy : y < n) : Rt n L (Rt n L y x) (L x y) = y := by
  show iv n (L (L (L x y) (Rt n L y x))) (L x y) = y
  rw [h.uv hx hy]
  exact iv_eq (h.b x hx) hy rfl
/-- the row's order tells the row -/
theorem Ru.tell (h : Ru n L) {p q r p' q' r' : Nat} (hp : p < n) (hq : q < n) (hr : r < n) (hq' : q' < n) (hr' : r' < n) (e1 : p = p') (e2 : L p q = L p' q') (e3 : L p (L q r) = L p' (L q' r')) : p = p' ∧ q = q' ∧ r = r' := by
  subst e1
  have a := (h.b p hp).2 q hq q' hq' e2
  subst a
  exact ⟨rfl, rfl, (h.b q hq).2 r hr r' hr' ((h.b p hp).2 _ (h.lt hq hr) _ (h.lt hq hr') e3)⟩
theorem Ru.ex01 (h : Ru n L) {x y z : Nat} (hx : x < n) (hy : y < n) (hz : z < n) : L (L x y) (Rt n L y x) = x ∧ L (L x y) (L (Rt n L y x) z) = L x (L y z) := ⟨h.uv hx hy, (h.y x hx y hy z hz).symm⟩
theorem Ru.ex12 (h : Ru n L) {x y z : Nat} (hx : x < n) (hy : y < n) (hz : z < n) : L x (L (L y z) (Rt n L z y)) = L x y := by rw [h.uv hy hz]
theorem Ru.three (h : Ru n L) {x y z a b b' c a' b'' e f d e' e'' f' : Nat} (hx : x < n) (hy : y < n) (hz : z < n)
    (h1 : a = L x y) (h2 : b = Rt n L y x) (h3 : b' = L b z) (h4 : c = Rt n L z b) (h5 : a' = L a b') (h6 : b'' = Rt n L b' a)
    (g1 : e = L y z) (g2 : f = Rt n L z y) (g3 : d = L x e) (g4 : e' = Rt n L e x) (g5 : e'' = L e' f) (g6 : f' = Rt n L f e') : a' = d ∧ b'' = e'' ∧ c = f' := by
  have la : a < n := h1 ▸ h.lt hx hy
  have lb : b < n := h2 ▸ h.rlt hx hy
  have lb' : b' < n := h3 ▸ h.lt lb hz
  have lc : c < n := h4 ▸ h.rlt lb hz
  have la' : a' < n := h5 ▸ h.lt la lb'
  have lb'' : b'' < n := h6 ▸ h.rlt la lb'
  have le : e < n := g1 ▸ h.lt hy hz
  have lf : f < n := g2 ▸ h.rlt hy hz
  have ld : d < n := g3 ▸ h.lt hx le
  have le' : e' < n := g4 ▸ h.rlt hx le
  have le'' : e'' < n := g5 ▸ h.lt le' lf
  have lf' : f' < n := g6 ▸ h.rlt le' lf
  -- the way that begins at the left
  have A1 : L a b = x := by rw [h1, h2]; exact h.uv hx hy
  have A2 : L a (L b z) = L x (L y z) := by rw [h1, h2]; exact (h.y x hx y hy z hz).symm
  have A3 : L b' c = b := by rw [h3, h4]; exact h.uv lb hz
  have A4 : a' = L x (L y z) := by rw [h5, h3, A2]
  have A5 : L a' b'' = a := by rw [h5, h6]; exact h.uv la lb'
  have A6 : L a' (L b'' c) = L a (L b' c) := by rw [h5, h6]; exact (h.y a la b' lb' c lc).symm
  rw [A3, A1] at A6
  -- the other one
  have B1 : L e f = y := by rw [g1, g2]; exact h.uv hy hz
  have B2 : d = L x (L y z) := by rw [g3, g1]
  have B3 : L d e' = x := by rw [g3, g4]; exact h.uv hx le
  have B4 : L d (L e' f) = L x (L e f) := by rw [g3, g4]; exact (h.y x hx e le f lf).symm
  rw [B1] at B4
  have B5 : L e'' f' = e' := by rw [g5, g6]; exact h.uv le' lf
  refine h.tell la' lb'' lc le'' lf' (A4.trans B2.symm) ?_ ?_
  · rw [A5, g5, B4, h1]
  · rw [A6, B5, B3]
/-! ### the mirror -/
theorem Ru.mrt (h : Ru n L) {x y : Nat} (hx : x < n) (hy : y < n) : Rt n (Rt n L) y x = L y x := by
  have q := h.back hy hx
  exact iv_eq (h.r _ (h.rlt hy hx)) (h.lt hy hx) q
theorem Ru.mirror (h : Ru n L) : Ru n (Rt n L) where
  b := h.r
  y := fun x hx y hy z hz => by
    rw [h.mrt hx hy]
    exact (h.three hz hy hx rfl rfl rfl rfl rfl rfl rfl rfl rfl rfl rfl rfl).2.2
  r := fun y hy => (h.b y hy).congr fun x hx => h.mrt hx hy
/-! ### kinds by lots -/
theorem Ru.of_lots {lot : Nat → Nat} (hb : ∀ x, x < n → Bij n (L x)) (hl : ∀ x, x < n → ∀ y, y < n → lot (L x y) = lot y) (hd : ∀ x, x < n → ∀ x', x' < n → lot x = lot x' → ∀ y, y < n → L x y = L x' y)
    (hc : ∀ x, x < n → ∀ y, y < n → ∀ z, z < n → L x (L y z) = L y (L x z)) : Ru n L := by
  have lt : ∀ {x y}, x < n → y < n → L x y < n := fun hx hy => (hb _ hx).1 _ hy
  have rlt : ∀ {x y}, x < n → y < n → Rt n L y x < n := fun hx hy => iv_lt (hb _ (lt hx hy)) hx
  have uv : ∀ {x y}, x < n → y < n → L (L x y) (Rt n L y x) = x := fun hx hy => iv_at (hb _ (lt hx hy)) hx
  have lv : ∀ {x y}, x < n → y < n → lot (Rt n L y x) = lot x := fun {x y} hx hy => by
    have := hl _ (lt hx hy) _ (rlt hx hy)
    rw [uv hx hy] at this
    exact this.symm
  refine ⟨hb, fun x hx y hy z hz => ?_, fun y hy => ⟨fun x hx => rlt hx hy, fun x hx x' hx' e => ?_⟩⟩
  · rw [hd _ (rlt hx hy) _ hx (lv hx hy) z hz, hd _ (lt hx hy) _ hy (hl x hx y hy) _ (lt hx hz)]
    exact hc x hx y hy z hz
  · have e : Rt n L y x = Rt n L y x' := e
    have a := uv hx hy
    have b := uv hx' hy
    rw [e, hd _ (lt hx hy) _ (lt hx' hy) (by rw [hl x hx y hy, hl x' hx' y hy]) _ (rlt hx' hy), b] at a
    exact a.symm
theorem Ru.alike {t : Nat → Nat} (h : Bij n t) : Ru n fun _ => t := Ru.of_lots (lot := fun _ => 0) (fun _ _ => h) (fun _ _ _ _ => rfl) (fun _ _ _ _ _ _ _ => rfl) fun _ _ _ _ _ _ => rfl
theorem Ru.congr {L' : Nat → Nat → Nat} (h : Ru n L) (e : ∀ x, x < n → ∀ y, y < n → L' x y = L x y) : Ru n L' := by
  have er : ∀ x, x < n → ∀ y, y < n → Rt n L' y x = Rt n L y x := fun x hx y hy => by
    show iv n (L' (L' x y)) x = iv n (L (L x y)) x
    rw [e x hx y hy]
    exact iv_congr (fun z hz => e _ (h.lt hx hy) z hz) x
  refine ⟨fun x hx => (h.b x hx).congr (e x hx), fun x hx y hy z hz => ?_, fun y hy => (h.r y hy).congr fun x hx => er x hx y hy⟩
  rw [er x hx y hy, e y hy z hz, e x hx _ (h.lt hy hz), e x hx y hy, e _ (h.rlt hx hy) z hz, e _ (h.lt hx hy) _ (h.lt (h.rlt hx hy) hz)]
  exact h.y x hx y hy z hz
/-! ### renamed -/
theorem Ru.rename (h : Ru n L) {p : Nat → Nat} (hp : Bij n p) : Ru n fun x y => p (L (iv n p x) (iv n p y)) := by
  have q := hp.iv
  have lt : ∀ {x y}, x < n → y < n → L (iv n p x) (iv n p y) < n := fun hx hy => h.lt (q.1 _ hx) (q.1 _ hy)
  have qp : ∀ {x}, x < n → iv n p (p x) = x := fun hx => iv_eq hp hx rfl
  have hb : ∀ x, x < n → Bij n fun y => p (L (iv n p x) (iv n p y)) := fun x hx => hp.comp ((h.b _ (q.1 x hx)).comp q)
  have rt : ∀ x, x < n → ∀ y, y < n → Rt n (fun x y => p (L (iv n p x) (iv n p y))) y x = p (Rt n L (iv n p y) (iv n p x)) := fun x hx y hy => by
    refine iv_eq (hb _ (hp.1 _ (lt hx hy))) (hp.1 _ (h.rlt (q.1 x hx) (q.1 y hy))) ?_
    show p (L (iv n p (p (L (iv n p x) (iv n p y)))) (iv n p (p (Rt n L (iv n p y) (iv n p x))))) = x
    rw [qp (lt hx hy), qp (h.rlt (q.1 x hx) (q.1 y hy)), h.uv (q.1 x hx) (q.1 y hy)]
    exact iv_at hp hx
  refine ⟨hb, fun x hx y hy z hz => ?_, fun y hy => (hp.comp ((h.r _ (q.1 y hy)).comp q)).congr fun x hx => rt x hx y hy⟩
  rw [rt x hx y hy]
  rw [qp (lt hy hz), qp (lt hx hy), qp (h.rlt (q.1 x hx) (q.1 y hy)), qp (h.lt (h.rlt (q.1 x hx) (q.1 y hy)) (q.1 z hz))]
  rw [h.y _ (q.1 x hx) _ (q.1 y hy) _ (q.1 z hz)]
end
/-! ### crossed -/
def cross (n : Nat) (L1 L2 : Nat → Nat → Nat) (f g : Nat → Nat) (x y : Nat) : Nat :=
  if x < n then (if y < n then L1 x y else n + g (y - n)) else if y < n then f y else n + L2 (x - n) (y - n)
def Kp (n : Nat) (L : Nat → Nat → Nat) (f : Nat → Nat) : Prop := ∀ x, x < n → ∀ y, y < n → f (L x y) = L (f x) (f y)
/-- two permutations beside one another -/
def sm (n : Nat) (f g : Nat → Nat) (y : Nat) : Nat := if y < n then f y else n + g (y - n)
theorem Bij.sm {n m : Nat} {f g : Nat → Nat} (hf : Bij n f) (hg : Bij m g) : Bij (n + m) (sm n f g) := by
  refine ⟨fun x hx => ?_, fun x hx y hy e => ?_⟩
  · unfold Rl.sm
    split
    · rename_i h; have := hf.1 x h; omega
    · rename_i h; have := hg.1 (x - n) (by omega); omega
  · unfold Rl.sm at e
    by_cases h1 : x < n
    · rw [if_pos h1] at e
      by_cases h2 : y < n
      · rw [if_pos h2] at e
        exact hf.2 x h1 y h2 e
      · rw [if_neg h2] at e
        have := hf.1 x h1
        omega
    · rw [if_neg h1] at e
      by_cases h2 : y < n
      · rw [if_pos h2] at e
        have := hf.1 y h2
        omega
      · rw [if_neg h2] at e
        have := hg.2 (x - n) (by omega) (y - n) (by omega) (by omega)
        omega
theorem sm_l {n : Nat} {f g : Nat → Nat} {y : Nat} (h : y < n) : sm n f g y = f y := if_pos h
theorem sm_r {n : Nat} {f g : Nat → Nat} {y : Nat} : sm n f g (n + y) = n + g y := by
  unfold sm
  rw [if_neg (by omega)]
  congr 2
  omega
section
variable {n m : Nat} {L1 L2 : Nat → Nat → Nat} {f g : Nat → Nat}
theorem cr_l {x : Nat} (h : x < n) : cross n L1 L2 f g x = sm n (L1 x) g := by
  funext y
  unfold cross sm
  rw [if_pos h]
theorem cr_r {x : Nat} : cross n L1 L2 f g (n + x) = sm n f (L2 x) := by
  funext y
  unfold cross sm
  rw [if_neg (by omega), show n + x - n = x by omega]
theorem Ru.cross (h1 : Ru n L1) (h2 : Ru m L2) (hf : Bij n f) (hg : Bij m g) (kf : Kp n L1 f) (kg : Kp m L2 g) : Ru (n + m) (cross n L1 L2 f g) := by
  have hb : ∀ x, x < n + m → Bij (n + m) (Rl.cross n L1 L2 f g x) := fun x hx => by
    by_cases h : x < n
    · rw [cr_l h]; exact (h1.b x h).sm hg
    · have e : x = n + (x - n) := by omega
      rw [e, cr_r]; exact hf.sm (h2.b (x - n) (by omega))
  have cases2 : ∀ {P : Nat → Prop}, (∀ x, x < n → P x) → (∀ x, x < m → P (n + x)) → ∀ x, x < n + m → P x := fun {P} a b x hx => by
    by_cases h : x < n
    · exact a x h
    · have e : x = n + (x - n) := by omega
      rw [e]; exact b _ (by omega)
  have r11 : ∀ x, x < n → ∀ y, y < n → Rt (n + m) (Rl.cross n L1 L2 f g) y x = Rt n L1 y x := fun x hx y hy => by
    refine iv_eq (hb _ ?_) (by have := h1.rlt hx hy; omega) ?_
    · rw [cr_l hx, sm_l hy]; have := h1.lt hx hy; omega
    · rw [cr_l hx, sm_l hy, cr_l (h1.lt hx hy), sm_l (h1.rlt hx hy)]
      exact h1.uv hx hy
  have r12 : ∀ x, x < n → ∀ y, y < m → Rt (n + m) (Rl.cross n L1 L2 f g) (n + y) x = iv n f x := fun x hx y hy => by
    refine iv_eq (hb _ ?_) (by have := iv_lt hf hx; omega) ?_
    · rw [cr_l hx, sm_r]; have := hg.1 y hy; omega
    · rw [cr_l hx, sm_r, cr_r, sm_l (iv_lt hf hx)]
      exact iv_at hf hx
  have r21 : ∀ x, x < m → ∀ y, y < n → Rt (n + m) (Rl.cross n L1 L2 f g) y (n + x) = n + iv m g x := fun x hx y hy => by
    refine iv_eq (hb _ ?_) (by have := iv_lt hg hx; omega) ?_
    · rw [cr_r, sm_l hy]; have := hf.1 y hy; omega
    · rw [cr_r, sm_l hy, cr_l (hf.1 y hy), sm_r, iv_at hg hx]
  have r22 : ∀ x, x < m → ∀ y, y < m → Rt (n + m) (Rl.cross n L1 L2 f g) (n + y) (n + x) = n + Rt m L2 y x := fun x hx y hy => by
    refine iv_eq (hb _ ?_) (by have := h2.rlt hx hy; omega) ?_
    · rw [cr_r, sm_r]; have := h2.lt hx hy; omega
    · rw [cr_r, sm_r, cr_r, sm_r, h2.uv hx hy]
  refine ⟨hb, cases2 (fun x hx => cases2 (fun y hy => cases2 (fun z hz => ?_) fun z hz => ?_) fun y hy => cases2 (fun z hz => ?_) fun z hz => ?_) (fun x hx => cases2 (fun y hy => cases2 (fun z hz => ?_) fun z hz => ?_) fun y hy => cases2 (fun z hz => ?_) fun z hz => ?_), cases2 (fun y hy => ?_) fun y hy => ?_⟩
  · rw [r11 x hx y hy, cr_l hx, cr_l hy, sm_l hz, sm_l (h1.lt hy hz), sm_l hy, cr_l (h1.lt hx hy), cr_l (h1.rlt hx hy), sm_l hz, sm_l (h1.lt (h1.rlt hx hy) hz)]
    exact h1.y x hx y hy z hz
  · rw [r11 x hx y hy, cr_l hx, cr_l hy, sm_r, sm_r, sm_l hy, cr_l (h1.lt hx hy), cr_l (h1.rlt hx hy), sm_r, sm_r]
  · rw [r12 x hx y hy, cr_l hx, cr_r, sm_l hz, sm_l (hf.1 z hz), sm_r, cr_r, cr_l (iv_lt hf hx), sm_l hz, sm_l (h1.lt (iv_lt hf hx) hz), kf _ (iv_lt hf hx) z hz, iv_at hf hx]
  · rw [r12 x hx y hy, cr_l hx, cr_r, sm_r, sm_r, sm_r, cr_r, cr_l (iv_lt hf hx), sm_r, sm_r, kg y hy z hz]
  · rw [r21 x hx y hy, cr_r, cr_l hy, sm_l hz, sm_l (h1.lt hy hz), sm_l hy, cr_l (hf.1 y hy), cr_r, sm_l hz, sm_l (hf.1 z hz), kf y hy z hz]
  · rw [r21 x hx y hy, cr_r, cr_l hy, sm_r, sm_r, sm_l hy, cr_l (hf.1 y hy), cr_r, sm_r, sm_r, kg _ (iv_lt hg hx) z hz, iv_at hg hx]
  · rw [r22 x hx y hy, cr_r, cr_r, sm_l hz, sm_l (hf.1 z hz), sm_r, cr_r, cr_r, sm_l hz, sm_l (hf.1 z hz)]
  · rw [r22 x hx y hy, cr_r, cr_r, sm_r, sm_r, sm_r, cr_r, cr_r, sm_r, sm_r, h2.y x hx y hy z hz]
  · refine ((h1.r y hy).sm hg.iv).congr (cases2 (fun x hx => ?_) fun x hx => ?_)
    · rw [sm_l hx]; exact r11 x hx y hy
    · rw [sm_r]; exact r21 x hx y hy
  · refine (hf.iv.sm (h2.r y hy)).congr (cases2 (fun x hx => ?_) fun x hx => ?_)
    · rw [sm_l hx]; exact r12 x hx y hy
    · rw [sm_r]; exact r22 x hx y hy
end
/-! ### rows -/
def rdT (L : Nat → Nat → Nat) (t : Nat → Nat) : List Nat → Nat → Nat
  | [] => t
  | x :: r => rdT L (fun i => t (L x i)) r
def rdO (L : Nat → Nat → Nat) (t : Nat → Nat) : List Nat → List Nat
  | [] => []
  | x :: r => t x :: rdO L (fun i => t (L x i)) r
def wrT (n : Nat) (L : Nat → Nat → Nat) (t : Nat → Nat) : List Nat → Nat → Nat
  | [] => t
  | y :: o => wrT n L (fun i => t (L (iv n t y) i)) o
def wrR (n : Nat) (L : Nat → Nat → Nat) (t : Nat → Nat) : List Nat → List Nat
  | [] => []
  | y :: o => iv n t y :: wrR n L (fun i => t (L (iv n t y) i)) o
section
variable {n : Nat} {L : Nat → Nat → Nat}
theorem rdT_bij (h : Ru n L) : ∀ (r : List Nat) {t : Nat → Nat}, Bij n t → (∀ x ∈ r, x < n) → Bij n (rdT L t r)
  | [], t, ht, _ => ht
  | x :: r, t, ht, hr => rdT_bij h r (ht.comp (h.b x (hr x List.mem_cons_self))) fun z hz => hr z (List.mem_cons_of_mem _ hz)
theorem rdO_lt (h : Ru n L) : ∀ (r : List Nat) {t : Nat → Nat}, Bij n t → (∀ x ∈ r, x < n) → ∀ y ∈ rdO L t r, y < n
  | [], t, ht, _, y, hy => by cases hy
  | x :: r, t, ht, hr, y, hy => by
    have hx := hr x List.mem_cons_self
    rcases List.mem_cons.mp hy with e | e
    · rw [e]; exact ht.1 x hx
    · exact rdO_lt h r (ht.comp (h.b x hx)) (fun z hz => hr z (List.mem_cons_of_mem _ hz)) y e
theorem rdO_len : ∀ (r : List Nat) (t : Nat → Nat), (rdO L t r).length = r.length
  | [], _ => rfl
  | x :: r, t => by simp [rdO, rdO_len r]
theorem wrR_len : ∀ (r : List Nat) (t : Nat → Nat), (wrR n L t r).length = r.length
  | [], _ => rfl
  | x :: r, t => by simp [wrR, wrR_len r]
theorem wrR_lt (h : Ru n L) : ∀ (o : List Nat) {t : Nat → Nat}, Bij n t → (∀ y ∈ o, y < n) → ∀ x ∈ wrR n L t o, x < n
  | [], t, ht, _, y, hy => by cases hy
  | y :: o, t, ht, ho, x, hx => by
    have hy := ho y List.mem_cons_self
    rcases List.mem_cons.mp hx with e | e
    · rw [e]; exact iv_lt ht hy
    · exact wrR_lt h o (ht.comp (h.b _ (iv_lt ht hy))) (fun z hz => ho z (List.mem_cons_of_mem _ hz)) x e
theorem wr_rd (h : Ru n L) : ∀ (r : List Nat) {t : Nat → Nat}, Bij n t → (∀ x ∈ r, x < n) → wrR n L t (rdO L t r) = r
  | [], t, ht, _ => rfl
  | x :: r, t, ht, hr => by
    have hx := hr x List.mem_cons_self
    have e : iv n t (t x) = x := iv_eq ht hx rfl
    show iv n t (t x) :: wrR n L (fun i => t (L (iv n t (t x)) i)) (rdO L (fun i => t (L x i)) r) = x :: r
    rw [e, wr_rd h r (ht.comp (h.b x hx)) fun z hz => hr z (List.mem_cons_of_mem _ hz)]
theorem rd_wr (h : Ru n L) : ∀ (o : List Nat) {t : Nat → Nat}, Bij n t → (∀ y ∈ o, y < n) → rdO L t (wrR n L t o) = o
  | [], t, ht, _ => rfl
  | y :: o, t, ht, ho => by
    have hy := ho y List.mem_cons_self
    show t (iv n t y) :: rdO L (fun i => t (L (iv n t y) i)) (wrR n L (fun i => t (L (iv n t y) i)) o) = y :: o
    rw [iv_at ht hy, rd_wr h o (ht.comp (h.b _ (iv_lt ht hy))) fun z hz => ho z (List.mem_cons_of_mem _ hz)]
theorem rdO_app : ∀ (r s : List Nat) (t : Nat → Nat), rdO L t (r ++ s) = rdO L t r ++ rdO L (rdT L t r) s
  | [], s, t => rfl
  | x :: r, s, t => by
    show t x :: rdO L (fun i => t (L x i)) (r ++ s) = t x :: (rdO L (fun i => t (L x i)) r ++ _)
    rw [rdO_app r s]
    rfl
theorem rdT_app : ∀ (r s : List Nat) (t : Nat → Nat), rdT L t (r ++ s) = rdT L (rdT L t r) s
  | [], s, t => rfl
  | x :: r, s, t => rdT_app r s _
theorem rdO_map : ∀ (s : List Nat) (t u : Nat → Nat), rdO L (fun i => t (u i)) s = (rdO L u s).map t
  | [], t, u => rfl
  | x :: s, t, u => by
    show t (u x) :: rdO L (fun i => t (u (L x i))) s = t (u x) :: (rdO L (fun i => u (L x i)) s).map t
    rw [rdO_map s t fun i => u (L x i)]
theorem rdT_map : ∀ (s : List Nat) (t u : Nat → Nat), rdT L (fun i => t (u i)) s = fun i => t (rdT L u s i)
  | [], t, u => rfl
  | x :: s, t, u => by
    show rdT L (fun i => t (u (L x i))) s = fun i => t (rdT L (fun i => u (L x i)) s i)
    exact rdT_map s t fun i => u (L x i)
end
end Rl
set_option linter.all false
/-! Lots that are turned on by steps; the finite ones; lists of drawn places. -/
namespace Rl
def near (n : Nat) (lot : Nat → Nat) (a : Nat) : List Nat := (List.range n).filter fun z => lot z == a
def lotL (n : Nat) (lot : Nat → Nat) (st : Nat → Nat → Nat) (x y : Nat) : Nat := (near n lot (lot y)).getD (((near n lot (lot y)).idxOf y + st (lot x) (lot y)) % (near n lot (lot y)).length) 0
section
variable {n : Nat} {lot : Nat → Nat} {st : Nat → Nat → Nat}
theorem near_nd (a : Nat) : (near n lot a).Nodup := List.Pairwise.filter _ List.nodup_range
theorem near_mem {a z : Nat} : z ∈ near n lot a ↔ z < n ∧ lot z = a := by unfold near; simp
theorem near_self {y : Nat} (h : y < n) : y ∈ near n lot (lot y) := near_mem.mpr ⟨h, rfl⟩
theorem near_pos {y : Nat} (h : y < n) : (near n lot (lot y)).idxOf y < (near n lot (lot y)).length := List.idxOf_lt_length_iff.mpr (near_self h)
/-- on by s places -/
def on (A : List Nat) (s z : Nat) : Nat := A.getD ((A.idxOf z + s) % A.length) 0
theorem on_at {A : List Nat} (nd : A.Nodup) {s z : Nat} (h : z ∈ A) : on A s z ∈ A ∧ A.idxOf (on A s z) = (A.idxOf z + s) % A.length := by
  have h0 : 0 < A.length := by
    cases A with
    | nil => cases h
    | cons _ _ => exact Nat.zero_lt_succ _
  have h1 : (A.idxOf z + s) % A.length < A.length := Nat.mod_lt _ h0
  unfold on
  rw [List.getD_eq_getElem?_getD, List.getElem?_eq_getElem h1]
  exact ⟨List.getElem_mem h1, nd.idxOf_getElem _ h1⟩
theorem idx_inj {A : List Nat} {x y : Nat} (hx : x ∈ A) (hy : y ∈ A) (e : A.idxOf x = A.idxOf y) : x = y := by
  have a := List.getElem_idxOf (List.idxOf_lt_length_iff.mpr hx)
  have b := List.getElem_idxOf (List.idxOf_lt_length_iff.mpr hy)
  rw [← a, ← b]
  congr 1
theorem mod_inj {i j s k : Nat} (hi : i < k) (hj : j < k) (e : (i + s) % k = (j + s) % k) : i = j := by
  have a := Nat.sub_mod_eq_zero_of_mod_eq e
  have b := Nat.sub_mod_eq_zero_of_mod_eq e.symm
  have c : i + s - (j + s) = i - j := by omega
  have d : j + s - (i + s) = j - i := by omega
  rw [c, Nat.mod_eq_of_lt (by omega)] at a
  rw [d, Nat.mod_eq_of_lt (by omega)] at b
  omega
theorem lotL_eq {x y : Nat} : lotL n lot st x y = on (near n lot (lot y)) (st (lot x) (lot y)) y := rfl
theorem Ru.lots : Ru n (lotL n lot st) := by
  have mem : ∀ x y, y < n → lotL n lot st x y < n ∧ lot (lotL n lot st x y) = lot y := fun x y hy => near_mem.mp (on_at (near_nd _) (near_self hy)).1
  refine Ru.of_lots (lot := lot) (fun x hx => ⟨fun y hy => (mem x y hy).1, fun y hy z hz e => ?_⟩) (fun x hx y hy => (mem x y hy).2) (fun x hx x' hx' e y hy => by rw [lotL_eq, lotL_eq, e]) fun x hx y hy z hz => ?_
  · have l : lot y = lot z := by rw [← (mem x y hy).2, e, (mem x z hz).2]
    have h1 := (on_at (s := st (lot x) (lot y)) (near_nd (n := n) (lot := lot) _) (near_self hy)).2
    have h2 := (on_at (s := st (lot x) (lot z)) (near_nd (n := n) (lot := lot) _) (near_self hz)).2
    rw [lotL_eq, lotL_eq] at e
    rw [e] at h1
    rw [← l] at h2 h1
    have zy : z ∈ near n lot (lot y) := near_mem.mpr ⟨hz, l.symm⟩
    refine idx_inj (near_self hy) zy (mod_inj (s := st (lot x) (lot y)) (near_pos hy) (List.idxOf_lt_length_iff.mpr zy) ?_)
    rw [← h1, ← h2]
  · have key : ∀ u v : Nat, lotL n lot st u (lotL n lot st v z) ∈ near n lot (lot z) ∧ (near n lot (lot z)).idxOf (lotL n lot st u (lotL n lot st v z)) = ((near n lot (lot z)).idxOf z + st (lot v) (lot z) + st (lot u) (lot z)) % (near n lot (lot z)).length := fun u v => by
      have m := mem v z hz
      have a := on_at (s := st (lot v) (lot z)) (near_nd (n := n) (lot := lot) _) (near_self hz)
      have b := on_at (s := st (lot u) (lot z)) (near_nd (n := n) (lot := lot) _) a.1
      rw [lotL_eq (x := u), m.2]
      refine ⟨b.1, ?_⟩
      have e := b.2
      rw [a.2] at e
      rw [show lotL n lot st v z = on (near n lot (lot z)) (st (lot v) (lot z)) z from rfl, e, Nat.mod_add_mod]
    have a := key x y
    have b := key y x
    exact idx_inj a.1 b.1 (by rw [a.2, b.2]; congr 1; omega)
end
/-! ### the finite ones -/
def unitL (n u : Nat) (x y : Nat) : Nat := if x % 2 = 1 then u * y % n else y
instance {n : Nat} {f : Nat → Nat} : Decidable (Bij n f) := inferInstanceAs (Decidable (_ ∧ _))
def RuD (n : Nat) (L : Nat → Nat → Nat) : Prop := (∀ x, x < n → Bij n (L x)) ∧ (∀ x, x < n → ∀ y, y < n → ∀ z, z < n → L x (L y z) = L (L x y) (L (Rt n L y x) z)) ∧ ∀ y, y < n → Bij n fun x => Rt n L y x
instance {n : Nat} {L : Nat → Nat → Nat} : Decidable (RuD n L) := inferInstanceAs (Decidable (_ ∧ _ ∧ _))
theorem Ru.of_dec {n : Nat} {L : Nat → Nat → Nat} (h : decide (RuD n L) = true) : Ru n L := by
  obtain ⟨a, b, c⟩ := of_decide_eq_true h
  exact ⟨a, b, c⟩
theorem ru_unit4 : Ru 4 (unitL 4 3) := Ru.of_dec (by decide +kernel)
theorem ru_unit6 : Ru 6 (unitL 6 5) := Ru.of_dec (by decide +kernel)
theorem ru_unit8a : Ru 8 (unitL 8 3) := Ru.of_dec (by decide +kernel)
theorem ru_unit8b : Ru 8 (unitL 8 5) := Ru.of_dec (by decide +kernel)
theorem ru_unit8c : Ru 8 (unitL 8 7) := Ru.of_dec (by decide +kernel)
/-- rules of four kinds, as lists of their left turns -/
def fourL (M : List (List Nat)) (x y : Nat) : Nat := (M.getD x []).getD y 0
def fours : List (List (List Nat)) := [[[0, 1, 3, 2], [2, 3, 1, 0], [3, 2, 0, 1], [1, 0, 2, 3]], [[1, 0, 2, 3], [3, 2, 0, 1], [2, 3, 1, 0], [0, 1, 3, 2]], [[0, 1, 2, 3], [0, 1, 2, 3], [0, 1, 3, 2], [1, 0, 3, 2]], [[1, 0, 2, 3], [1, 0, 2, 3], [0, 1, 3, 2], [1, 0, 3, 2]], [[1, 0, 3, 2], [2, 3, 0, 1], [2, 3, 0, 1], [1, 0, 3, 2]], [[3, 0, 1, 2], [1, 2, 3, 0], [3, 0, 1, 2], [1, 2, 3, 0]]]
theorem ru_four : ∀ M ∈ fours, Ru 4 (fourL M) := by
  intro M hM
  have h : ∀ M ∈ fours, decide (RuD 4 (fourL M)) = true := by decide +kernel
  exact Ru.of_dec (h M hM)
/-! ### a drawn permutation: places taken out of a list -/
theorem perm_bij {n : Nat} {l : List Nat} (hl : l.length = n) (nd : l.Nodup) (hm : ∀ x ∈ l, x < n) : Bij n fun i => l.getD i 0 := by
  have at_ : ∀ i, i < n → ∃ h : i < l.length, l.getD i 0 = l[i] := fun i hi => ⟨by omega, by rw [List.getD_eq_getElem?_getD, List.getElem?_eq_getElem (by omega)]; rfl⟩
  refine ⟨fun x hx => ?_, fun x hx y hy e => ?_⟩
  · obtain ⟨h, e⟩ := at_ x hx
    show l.getD x 0 < n
    rw [e]
    exact hm _ (List.getElem_mem h)
  · obtain ⟨h1, e1⟩ := at_ x hx
    obtain ⟨h2, e2⟩ := at_ y hy
    have e : l.getD x 0 = l.getD y 0 := e
    rw [e1, e2] at e
    exact (List.getElem_inj nd).mp e
theorem tab_of {n : Nat} {l : List Nat} (hl : l.length = n) : l = (List.range n).map fun i => l.getD i 0 := by
  refine List.ext_getElem (by simp [hl]) fun i h1 h2 => ?_
  rw [List.getElem_map, List.getElem_range, List.getD_eq_getElem?_getD, List.getElem?_eq_getElem h1]
  rfl
end Rl
namespace Rl
theorem erase_perm : ∀ (A : List Nat) (v : Nat) (h : v < A.length), (A[v] :: A.eraseIdx v).Perm A
  | a :: A, 0, _ => .refl _
  | a :: A, v + 1, h => by
    have h' : v < A.length := by simpa using h
    have ih := erase_perm A v h'
    show (A[v] :: a :: A.eraseIdx v).Perm (a :: A)
    exact (List.Perm.swap a _ _).trans (ih.cons a)
theorem erase_map {α β : Type} (f : α → β) : ∀ (A : List α) (v : Nat), (A.map f).eraseIdx v = (A.eraseIdx v).map f
  | [], _ => rfl
  | _ :: _, 0 => rfl
  | a :: A, v + 1 => by simp [List.eraseIdx, erase_map f A v]
end Rl
set_option linter.all false
/-! Meetings: a meeting exchanges two items of the order, and of the right order; orders with the same items, right orders with the same items. -/
namespace Rl
section
variable {n : Nat} {L : Nat → Nat → Nat}
theorem rdO_congr (h : Ru n L) : ∀ (r : List Nat) {t u : Nat → Nat}, (∀ x ∈ r, x < n) → (∀ i, i < n → t i = u i) → rdO L t r = rdO L u r
  | [], t, u, _, _ => rfl
  | x :: r, t, u, hr, e => by
    have hx := hr x List.mem_cons_self
    show t x :: rdO L (fun i => t (L x i)) r = u x :: rdO L (fun i => u (L x i)) r
    rw [e x hx, rdO_congr h r (fun z hz => hr z (List.mem_cons_of_mem _ hz)) fun i hi => e _ (h.lt hx hi)]
theorem rdO_congrL {L' : Nat → Nat → Nat} (h : Ru n L) (q : ∀ x, x < n → ∀ y, y < n → L' x y = L x y) : ∀ (r : List Nat) {t : Nat → Nat}, (∀ x ∈ r, x < n) → rdO L' t r = rdO L t r
  | [], t, _ => rfl
  | x :: r, t, hr => by
    have hx := hr x List.mem_cons_self
    have hr' : ∀ z ∈ r, z < n := fun z hz => hr z (List.mem_cons_of_mem _ hz)
    show t x :: rdO L' (fun i => t (L' x i)) r = t x :: rdO L (fun i => t (L x i)) r
    rw [rdO_congrL h q r hr', rdO_congr h r hr' fun i hi => congrArg t (q x hx i hi)]
theorem wr_app : ∀ (p o : List Nat) (t : Nat → Nat), wrR n L t (p ++ o) = wrR n L t p ++ wrR n L (wrT n L t p) o
  | [], o, t => rfl
  | y :: p, o, t => by
    show iv n t y :: wrR n L (fun i => t (L (iv n t y) i)) (p ++ o) = iv n t y :: (wrR n L (fun i => t (L (iv n t y) i)) p ++ _)
    rw [wr_app p o]
    rfl
/-- the rows a ++ [x, y] ++ b and, met, a ++ [u, v] ++ b: their orders -/
theorem met_order (h : Ru n L) {a b : List Nat} {x y : Nat} {t : Nat → Nat} (ha : ∀ z ∈ a, z < n) (hb : ∀ z ∈ b, z < n) (hx : x < n) (hy : y < n) :
    ∃ (c d : Nat) (q : List Nat), rdO L t (a ++ x :: y :: b) = rdO L t a ++ c :: d :: q ∧ rdO L t (a ++ L x y :: Rt n L y x :: b) = rdO L t a ++ d :: c :: q := by
  refine ⟨rdT L t a x, rdT L t a (L x y), rdO L (fun i => rdT L t a (L x (L y i))) b, ?_, ?_⟩
  · rw [rdO_app]
    rfl
  · rw [rdO_app]
    show _ ++ rdT L t a (L x y) :: rdT L t a (L (L x y) (Rt n L y x)) :: rdO L (fun i => rdT L t a (L (L x y) (L (Rt n L y x) i))) b = _
    rw [h.uv hx hy, rdO_congr h b hb fun i hi => by rw [← h.y x hx y hy i hi]]
/-- the right order -/
def rO (n : Nat) (L : Nat → Nat → Nat) (r : List Nat) : List Nat := rdO (Rt n L) (fun i => i) r.reverse
theorem met_right (h : Ru n L) {a b : List Nat} {x y : Nat} (ha : ∀ z ∈ a, z < n) (hb : ∀ z ∈ b, z < n) (hx : x < n) (hy : y < n) :
    ∃ (p q : List Nat) (c d : Nat), p.length = b.length ∧ rO n L (a ++ x :: y :: b) = p ++ c :: d :: q ∧ rO n L (a ++ L x y :: Rt n L y x :: b) = p ++ d :: c :: q := by
  obtain ⟨c, d, q, e1, e2⟩ := met_order (L := Rt n L) (t := fun i => i) h.mirror (a := b.reverse) (b := a.reverse) (x := y) (y := x) (fun z hz => hb z (List.mem_reverse.mp hz)) (fun z hz => ha z (List.mem_reverse.mp hz)) hy hx
  rw [h.mrt hy hx] at e2
  have r1 : (a ++ x :: y :: b).reverse = b.reverse ++ y :: x :: a.reverse := by simp
  have r2 : (a ++ L x y :: Rt n L y x :: b).reverse = b.reverse ++ Rt n L y x :: L x y :: a.reverse := by simp
  exact ⟨rdO (Rt n L) (fun i => i) b.reverse, q, c, d, by rw [rdO_len, List.length_reverse], by unfold rO; rw [r1, e1], by unfold rO; rw [r2, e2]⟩
/-- two neighbours of the order are exchanged: so are two of the right order -/
theorem exch (h : Ru n L) {p l : List Nat} {c d : Nat} (ho : ∀ z ∈ p ++ c :: d :: l, z < n) :
    (rO n L (wrR n L (fun i => i) (p ++ c :: d :: l))).Perm (rO n L (wrR n L (fun i => i) (p ++ d :: c :: l))) := by
  have hr := wrR_lt h _ Bij.id ho
  have e0 := rd_wr h _ Bij.id ho
  rw [wr_app] at hr e0 ⊢
  generalize ea : wrR n L (fun i => i) p = a at hr e0 ⊢
  generalize eb : wrR n L (wrT n L (fun i => i) p) (c :: d :: l) = s at hr e0 ⊢
  have ls : s.length = l.length + 2 := by rw [← eb, wrR_len]; rfl
  match s, ls with
  | x :: y :: b, ls =>
    have ha : ∀ z ∈ a, z < n := fun z hz => hr z (List.mem_append_left _ hz)
    have hb : ∀ z ∈ b, z < n := fun z hz => hr z (List.mem_append_right _ (List.mem_cons_of_mem _ (List.mem_cons_of_mem _ hz)))
    have hx : x < n := hr x (by simp)
    have hy : y < n := hr y (by simp)
    obtain ⟨c', d', q, e1, e2⟩ := met_order h (t := fun i => i) (a := a) (b := b) ha hb hx hy
    have la : (rdO L (fun i => i) a).length = p.length := by rw [rdO_len, ← ea, wrR_len]
    rw [e0] at e1
    obtain ⟨g1, g2⟩ := List.append_inj e1 la.symm
    simp only [List.cons.injEq] at g2
    obtain ⟨rfl, rfl, rfl⟩ := g2
    rw [← g1] at e2
    have hr2 : ∀ z ∈ a ++ L x y :: Rt n L y x :: b, z < n := fun z hz => by
      simp only [List.mem_append, List.mem_cons] at hz
      rcases hz with z1 | rfl | rfl | z1
      · exact ha z z1
      · exact h.lt hx hy
      · exact h.rlt hx hy
      · exact hb z z1
    have e3 := wr_rd h _ Bij.id hr2
    rw [e2] at e3
    rw [e3]
    obtain ⟨p', q', i, j, _, k1, k2⟩ := met_right h ha hb hx hy
    rw [k1, k2]
    exact List.Perm.append_left _ (List.Perm.swap _ _ _)
theorem exch_all (h : Ru n L) {o o' : List Nat} (e : o.Perm o') : ∀ p : List Nat, (∀ z ∈ p ++ o, z < n) → (rO n L (wrR n L (fun i => i) (p ++ o))).Perm (rO n L (wrR n L (fun i => i) (p ++ o'))) := by
  induction e with
  | nil => exact fun p _ => List.Perm.refl _
  | cons x e ih =>
    intro p hp
    have := ih (p ++ [x]) (by simpa using hp)
    simpa using this
  | swap x y l => exact fun p hp => exch h hp
  | trans e1 e2 ih1 ih2 =>
    exact fun p hp => (ih1 p hp).trans (ih2 p fun z hz => hp z (((List.Perm.append_left p e1).mem_iff).mpr hz))
theorem right_of_left (h : Ru n L) {r s : List Nat} (hr : ∀ z ∈ r, z < n) (hs : ∀ z ∈ s, z < n) (e : (rdO L (fun i => i) r).Perm (rdO L (fun i => i) s)) : (rO n L r).Perm (rO n L s) := by
  have := exch_all h e [] (rdO_lt h r Bij.id hr)
  simpa only [List.nil_append, wr_rd h r Bij.id hr, wr_rd h s Bij.id hs] using this
theorem rO_rO (h : Ru n L) {r : List Nat} (hr : ∀ z ∈ r, z < n) : rO n (Rt n L) r.reverse = rdO L (fun i => i) r := by
  unfold rO
  rw [List.reverse_reverse]
  exact rdO_congrL h (fun x hx y hy => h.mrt hy hx) r hr
/-- equal heaps just where the right heaps are equal -/
theorem right_iff (h : Ru n L) {r s : List Nat} (hr : ∀ z ∈ r, z < n) (hs : ∀ z ∈ s, z < n) : (rdO L (fun i => i) r).Perm (rdO L (fun i => i) s) ↔ (rO n L r).Perm (rO n L s) := by
  refine ⟨right_of_left h hr hs, fun e => ?_⟩
  have := right_of_left h.mirror (r := r.reverse) (s := s.reverse) (fun z hz => hr z (List.mem_reverse.mp hz)) (fun z hz => hs z (List.mem_reverse.mp hz)) e
  rw [rO_rO h hr, rO_rO h hs] at this
  exact this
/-- equal numbers of each kind: the same items -/
theorem counts_iff {a b : List Nat} (ha : ∀ z ∈ a, z < n) (hb : ∀ z ∈ b, z < n) : (∀ y, y < n → a.count y = b.count y) ↔ a.Perm b := by
  refine ⟨fun e => List.perm_iff_count.mpr fun y => ?_, fun p y _ => p.count_eq y⟩
  by_cases hy : y < n
  · exact e y hy
  · rw [List.count_eq_zero.mpr fun z => hy (ha y z), List.count_eq_zero.mpr fun z => hy (hb y z)]
end
end Rl
set_option Elab.async false
set_option linter.all false
set_option maxRecDepth 100000
set_option maxHeartbeats 2000000
/-! Mirrors on data: what each operation comes to. -/
namespace Cz
open PySem PySem.Spec PyProof.Rows L2
/-! ### data: kinds, tuples of kinds -/
def dn (n : Nat) : D := .int n
def tD (l : List Nat) : D := .tuple (l.map dn)
def pD (n : Nat) (f : Nat → Nat) : D := .tuple ((List.range n).map fun i => dn (f i))
/-- a list of n left turns -/
def ruD (n : Nat) (L : Nat → Nat → Nat) : D := .list ((List.range n).map fun x => pD n (L x))
theorem dn_lit (n : Nat) : (PyData.int (OfNat.ofNat n : Nat)) = dn n := rfl
section
variable {S α β γ : Type}
/-! ### steps -/
theorem bnd_ret {a : α} {f : α → Mo S β} : mBnd (mRet a) f = f a := rfl
theorem of_some {a : α} : (mOf (some a) : Mo S α) = mRet a := rfl
theorem all_nil : (mAll [] : Mo S (List D)) = mRet [] := rfl
theorem all_cons {m : Mo S D} {ms : List (Mo S D)} : mAll (m :: ms) = mBnd m fun d => mBnd (mAll ms) fun ds => mRet (d :: ds) := rfl
theorem g_nil : (mG [] : Mo S (List D)) = mRet [] := rfl
theorem g_inl {m : Mo S D} {r : List (AG S)} : mG (.inl m :: r) = mBnd m fun d => mBnd (mG r) fun ds => mRet (d :: ds) := rfl
theorem g_inr {p : Nat × Nat} {r : List (AG S)} : mG (.inr p :: r) = mG r := rfl
theorem and_t {m : Mo S D} : mAnd (mRet (.bool true)) m = m := rfl
theorem and_f {m : Mo S D} : mAnd (mRet (.bool false)) m = mRet (.bool false) := rfl
theorem or_t {m : Mo S D} : mOr (mRet (.bool true)) m = mRet (.bool true) := rfl
theorem or_f {m : Mo S D} : mOr (mRet (.bool false)) m = m := rfl
theorem elt1_ret {d : D} : elt1 (mRet d : Mo S D) = mRet (some d) := rfl
theorem eltIf_t {m : Mo S D} : eltIf (mRet true) m = elt1 m := rfl
theorem eltIf_f {m : Mo S D} : eltIf (mRet false) m = mRet none := rfl
theorem it_t {a b : α} : (if true = true then a else b) = a := rfl
theorem it_f {a b : α} : (if false = true then a else b) = b := rfl
theorem bndF_nx {a : β} {k : β → Mo S (Fl α)} : mBndF (mRet (.nx a)) k = k a := rfl
theorem bndF_rt {d : D} {k : β → Mo S (Fl α)} : mBndF (mRet (.rt d)) k = mRet (.rt d) := rfl
theorem fin_rt {d : D} : mFin (mRet (.rt d) : Mo S (Fl Unit)) = mRet d := rfl
theorem fin_nx : mFin (mRet (.nx ()) : Mo S (Fl Unit)) = mRet .none := rfl
theorem t2_at {τ : Type} {x y : D} {k : D → D → Mo S τ} : mT2 (.tuple [x, y]) k = k x y := rfl
theorem t3_at {τ : Type} {x y z : D} {k : D → D → D → Mo S τ} : mT3 (.tuple [x, y, z]) k = k x y z := rfl
theorem part_n {n : Nat} : mPart (mRet (dn n) : Mo S D) = mRet (some (n : Int)) := rfl
/-! ### operations -/
theorem add_n {a b : Nat} : gAdd (dn a) (dn b) = some (dn (a + b)) := by show some (PyData.int ((a : Int) + (b : Int))) = some (PyData.int ((a + b : Nat) : Int)); rw [Int.natCast_add]
theorem sub_n {a b : Nat} (h : b ≤ a) : gSub (dn a) (dn b) = some (dn (a - b)) := by show some (PyData.int ((a : Int) - (b : Int))) = some (PyData.int ((a - b : Nat) : Int)); rw [Int.natCast_sub h]
theorem mod_n {a b : Nat} (h : 0 < b) : gMod (dn a) (dn b) = some (dn (a % b)) := by
  show (if (0 : Int) < (b : Int) then some (PyData.int ((a : Int) % (b : Int))) else none) = some (PyData.int ((a % b : Nat) : Int))
  rw [if_pos (by omega), Int.natCast_emod]
theorem fdv_n {a b : Nat} (h : 0 < b) (h2 : b < 1073741824) : gFdv (dn a) (dn b) = some (dn (a / b)) := by
  show (if (0 : Int) < (b : Int) ∧ (b : Int) < 1073741824 then some (PyData.int ((a : Int) / (b : Int))) else none) = some (PyData.int ((a / b : Nat) : Int))
  rw [if_pos ⟨by omega, by omega⟩, Int.natCast_ediv]
theorem bits_n {a : Nat} (h : a < 2 ^ 64) : (Builtin.Int.intBits (a : Int) : Int) ≤ 64 := by
  have : Builtin.Int.intBits (a : Int) ≤ 64 := by
    unfold Builtin.Int.intBits
    split
    · omega
    · rename_i h0
      have := (Nat.log2_lt (n := (a : Int).natAbs) (k := 64) (by simpa using h0)).mpr (by simpa using h)
      omega
  omega
theorem mul_n {a b : Nat} (h : a < 2 ^ 64) (h2 : b < 2 ^ 64) : gMulT (dn a) (dn b) = some (dn (a * b)) := by
  show (if (Builtin.Int.intBits (a : Int) : Int) + (Builtin.Int.intBits (b : Int) : Int) ≤ 134217728 then some (PyData.int ((a : Int) * (b : Int))) else none) = some (PyData.int ((a * b : Nat) : Int))
  have := bits_n h
  have := bits_n h2
  rw [if_pos (by omega), Int.natCast_mul]
theorem lt_n {a b : Nat} : gLt (dn a) (dn b) = some (.bool (decide (a < b))) := by show some (PyData.bool (decide ((a : Int) < (b : Int)))) = _; congr 2; simp
theorem le_n {a b : Nat} : gLe (dn a) (dn b) = some (.bool (decide (a ≤ b))) := by show some (PyData.bool (decide ((a : Int) ≤ (b : Int)))) = _; congr 2; simp
theorem gt_n {a b : Nat} : gGt (dn a) (dn b) = some (.bool (decide (b < a))) := by show some (PyData.bool (decide ((b : Int) < (a : Int)))) = _; congr 2; simp
theorem ge_n {a b : Nat} : gGe (dn a) (dn b) = some (.bool (decide (b ≤ a))) := by show some (PyData.bool (decide ((b : Int) ≤ (a : Int)))) = _; congr 2; simp
theorem beq_n {a b : Nat} : ((a : Int) == (b : Int)) = decide (a = b) := by
  by_cases h : a = b
  · subst h; simp
  · rw [decide_eq_false h]
    simp
    omega
theorem eq_n {a b : Nat} : gEq (dn a) (dn b) = some (.bool (decide (a = b))) := by
  show (if _ then some (PyData.bool ((a : Int) == (b : Int))) else none) = _
  rw [if_pos ⟨rfl, rfl⟩, beq_n]
theorem ne_n {a b : Nat} : gNe (dn a) (dn b) = some (.bool (!decide (a = b))) := by
  show (if _ then some (PyData.bool (!((a : Int) == (b : Int)))) else none) = _
  rw [if_pos ⟨rfl, rfl⟩, beq_n]
theorem bl_b {k : Bool} : gBl (.bool k) = some k := rfl
theorem tru_b {k : Bool} : gTru (.bool k) = some k := rfl
theorem not_b {k : Bool} : gNot (.bool k) = some (.bool (!k)) := rfl
theorem isN_n : gIsN .none .none = some (.bool true) := rfl
theorem isB_b {a b : Bool} : gIsB (.bool a) (.bool b) = some (.bool (decide (a = b))) := rfl
theorem isNB_b {a b : Bool} : gIsNotB (.bool a) (.bool b) = some (.bool (!decide (a = b))) := rfl
theorem int_n {a : Nat} : gInt [dn a] = some (dn a) := rfl
theorem isi_int {a : Nat} : gIsi "int" (dn a) = some (.bool true) := rfl
theorem isi_bool {a : Nat} : gIsi "bool" (dn a) = some (.bool false) := by
  show (kitB "int" "bool").map _ = _
  rw [show kitB "int" "bool" = some false by decide +kernel]
  rfl
theorem isi_tup {l : List D} : gIsi "tuple" (.tuple l) = some (.bool true) := rfl
theorem seq_t {l : List D} : gSeq (.tuple l) = some l := rfl
theorem seq_l {l : List D} : gSeq (.list l) = some l := rfl
theorem len_t {l : List D} : gLen [.tuple l] = some (dn l.length) := rfl
theorem len_l {l : List D} : gLen [.list l] = some (dn l.length) := rfl
theorem tupOf_l {l : List D} : gTupOf [.list l] = some (.tuple l) := rfl
theorem tupOf_t {l : List D} : gTupOf [.tuple l] = some (.tuple l) := rfl
theorem tupD_le {l : List D} (h : l.length ≤ 1000) : gTupD l = some (.tuple l) := if_pos (by have : sizeLine = 16777216 := rfl; omega)
theorem small_le {l : List D} (h : l.length ≤ 1000) : gSmall l = some l := if_pos (by have : sizeLine = 16777216 := rfl; omega)
theorem tup1 {a : D} : gTupD [a] = some (.tuple [a]) := tupD_le (by simp)
theorem tup2 {a b : D} : gTupD [a, b] = some (.tuple [a, b]) := tupD_le (by simp)
theorem tup3 {a b c : D} : gTupD [a, b, c] = some (.tuple [a, b, c]) := tupD_le (by simp)
theorem tup4 {a b c d : D} : gTupD [a, b, c, d] = some (.tuple [a, b, c, d]) := tupD_le (by simp)
theorem sm0 : gSmall [] = some [] := small_le (by simp)
theorem sm1 {a : D} : gSmall [a] = some [a] := small_le (by simp)
theorem sm2 {a b : D} : gSmall [a, b] = some [a, b] := small_le (by simp)
theorem sm3 {a b c : D} : gSmall [a, b, c] = some [a, b, c] := small_le (by simp)
theorem sm4 {a b c d : D} : gSmall [a, b, c, d] = some [a, b, c, d] := small_le (by simp)
theorem app_le {l : List D} {d : D} (h : l.length ≤ 1000) : gApp l d = some (l ++ [d]) := if_pos (by have : sizeLine = 16777216 := rfl; omega)
theorem atI_n {α : Type} {xs : List α} {i : Nat} : L2.atI xs (i : Int) = xs[i]? := by
  unfold L2.atI ixN
  rw [if_pos (by omega)]
  by_cases h : i < xs.length
  · rw [if_pos (by omega)]
    rfl
  · rw [if_neg (by omega), List.getElem?_eq_none (by omega)]
    rfl
theorem ix_t {l : List D} {i : Nat} : gIx (.tuple l) (dn i) = l[i]? := atI_n
theorem ix_l {l : List D} {i : Nat} : gIx (.list l) (dn i) = l[i]? := atI_n
theorem tab_at {δ : Type} {n : Nat} {c : Nat → δ} {i : Nat} (h : i < n) : ((List.range n).map c)[i]? = some (c i) := by rw [List.getElem?_map, List.getElem?_range h]; rfl
theorem tab_len {δ : Type} {n : Nat} {c : Nat → δ} : ((List.range n).map c).length = n := by simp
theorem tab_congr {δ : Type} {n : Nat} {c d : Nat → δ} (h : ∀ i, i < n → c i = d i) : (List.range n).map c = (List.range n).map d := List.map_congr_left fun i hi => h i (by simpa using hi)
theorem pD_congr {n : Nat} {f g : Nat → Nat} (h : ∀ i, i < n → f i = g i) : pD n f = pD n g := by
  unfold pD
  rw [tab_congr fun i hi => by rw [h i hi]]
theorem tD_tab {n : Nat} {f : Nat → Nat} : tD ((List.range n).map f) = pD n f := by
  unfold tD pD
  rw [List.map_map]; rfl
theorem rgL_n {n : Nat} (h : n ≤ 1000) : gRgL (dn n) = some ((List.range n).map dn) := by
  show (if (0 : Int) ≤ (n : Int) ∧ (n : Int) ≤ 16777216 then some (dRg (n : Int)) else none) = _
  rw [if_pos ⟨by omega, by omega⟩]
  rfl
theorem range_n {n : Nat} (h : n ≤ 1000) : gRange [dn n] = some ((List.range n).map dn) := by
  unfold dn
  simp only [gRange]
  rw [if_pos ⟨by omega, by omega⟩]
  unfold dRange
  rw [Int.toNat_natCast]
  congr 2
  funext i
  rw [Int.zero_add]
theorem ints_n : ∀ l : List Nat, intsD (l.map dn) = some (l.map fun i : Nat => (i : Int))
  | [] => rfl
  | a :: l => by
    show (intsD (l.map dn)).map _ = _
    rw [ints_n l]
    rfl
theorem count_n {l : List Nat} {y : Nat} : gCount (l.map dn) (dn y) = some (dn (l.count y)) := by
  show (intsD (l.map dn)).map (fun ns => PyData.int (ns.count (y : Int) : Nat)) = _
  rw [ints_n]
  show some (PyData.int ((l.map fun i : Nat => (i : Int)).count (y : Int) : Nat)) = some (PyData.int (l.count y : Nat))
  have e : ∀ l : List Nat, (l.map fun i : Nat => (i : Int)).count (y : Int) = l.count y := fun l => by
    induction l with
    | nil => rfl
    | cons a l ih =>
      rw [List.map_cons, List.count_cons, List.count_cons, ih]
      congr 1
      by_cases h : a = y
      · subst h; simp
      · have h2 : ¬ ((a : Int) = (y : Int)) := by omega
        simp [h, h2]
  rw [e]
theorem flat_n (l : List Nat) : (l.map dn).all flatD = true := by
  induction l with
  | nil => rfl
  | cons a l ih => simpa [List.all_cons, flatD, dn] using ih
theorem flat_tab {n : Nat} {f : Nat → Nat} : ((List.range n).map fun i => dn (f i)).all flatD = true := by
  have := flat_n ((List.range n).map f)
  rw [List.map_map] at this
  exact this
theorem ixOf_n {y : Nat} : ∀ l : List Nat, ixOf (l.map dn) (dn y) = l.findIdx? fun z => z == y
  | [] => rfl
  | a :: l => by
    unfold ixOf
    rw [List.map_cons, List.findIdx?_cons, List.findIdx?_cons]
    have e : PyData.eqv (dn a) (dn y) = (a == y) := by
      show ((a : Int) == (y : Int)) = _
      rw [beq_n]
      rfl
    rw [e]
    have ih := ixOf_n (y := y) l
    unfold ixOf at ih
    rw [ih]
theorem index_l {l : List Nat} {y : Nat} (h : y ∈ l) : gIndex (l.map dn) (dn y) = some (dn (l.idxOf y)) := by
  unfold gIndex
  rw [if_pos ⟨rfl, flat_n l⟩, ixOf_n]
  have h1 := List.idxOf_lt_length_iff.mpr h
  have e : (l.findIdx? fun z => z == y) = some (l.idxOf y) := by
    show l.idxOf? y = _
    rw [List.idxOf?_eq_some_iff]
    refine ⟨h1, List.getElem_idxOf h1, fun j hj => ?_⟩
    have := List.not_of_lt_findIdx (p := fun z => z == y) (xs := l) (i := j) (by simpa [List.idxOf] using hj)
    simpa using this
  rw [e]
  rfl
theorem index_p {n : Nat} {f : Nat → Nat} (hb : Rl.Bij n f) {y : Nat} (hy : y < n) : gIndex ((List.range n).map fun i => dn (f i)) (dn y) = some (dn (Rl.iv n f y)) := by
  have e1 : ((List.range n).map fun i => dn (f i)) = ((List.range n).map f).map dn := by rw [List.map_map]; rfl
  have hm : y ∈ (List.range n).map f := List.mem_map.mpr ⟨Rl.iv n f y, by simpa using Rl.iv_lt hb hy, Rl.iv_at hb hy⟩
  rw [e1, index_l hm]
  have h1 := List.idxOf_lt_length_iff.mpr hm
  have h2 := List.getElem_idxOf h1
  rw [List.getElem_map, List.getElem_range] at h2
  rw [Rl.iv_eq hb (by simpa using h1) h2]
theorem all_b {n : Nat} {b : Nat → Bool} (h : ∀ i, i < n → b i = true) : gAll [.list ((List.range n).map fun i => .bool (b i))] = some (.bool true) := by
  have e : (List.range n).map (fun i => PyData.bool (b i)) = ((List.range n).map fun _ => true).map PyData.bool := by
    rw [List.map_map]
    exact tab_congr fun i hi => by rw [h i hi]; rfl
  have e2 : ∀ l : List Bool, boolsD (l.map PyData.bool) = some l := fun l => by
    induction l with
    | nil => rfl
    | cons a l ih => show (boolsD (l.map PyData.bool)).map _ = _; rw [ih]; rfl
  show (boolsD _).map _ = _
  rw [e, e2]
  simp
/-! ### equality of tuples of kinds -/
theorem lay_n : ∀ l : List Nat, PyData.canLayAll0 (l.map dn) = true ∧ PyData.depthAll (l.map dn) = 0
  | [] => ⟨rfl, rfl⟩
  | a :: l => ⟨by simp [PyData.canLayAll0, dn, PyData.canLay0, (lay_n l).1], by simp [PyData.depthAll, dn, PyData.depth, (lay_n l).2]⟩
theorem shaped_t (l : List Nat) : SeqAt.shaped (tD l) = true := by
  unfold SeqAt.shaped tD
  rw [Bool.and_eq_true]
  exact ⟨by simpa [PyData.canLay0] using (lay_n l).1, decide_eq_true (by simp [PyData.depth, (lay_n l).2])⟩
theorem eqv_l : ∀ l m : List Nat, PyData.eqvAll (l.map dn) (m.map dn) = decide (l = m)
  | [], [] => rfl
  | [], _ :: _ => rfl
  | _ :: _, [] => rfl
  | a :: l, b :: m => by
    show (((a : Int) == (b : Int)) && PyData.eqvAll (l.map dn) (m.map dn)) = _
    rw [beq_n, eqv_l l m]
    by_cases h : a = b
    · subst h; simp
    · simp [h]
theorem eq_t {l m : List Nat} : gEq (tD l) (tD m) = some (.bool (decide (l = m))) := by
  unfold gEq
  rw [if_pos ⟨shaped_t l, shaped_t m⟩]
  show some (PyData.bool (PyData.eqvAll _ _)) = _
  rw [eqv_l]
theorem ne_t {l m : List Nat} : gNe (tD l) (tD m) = some (.bool (!decide (l = m))) := by
  unfold gNe
  rw [if_pos ⟨shaped_t l, shaped_t m⟩]
  show some (PyData.bool (!PyData.eqvAll _ _)) = _
  rw [eqv_l]
theorem eq_s {x y : Str} (hx : SeqAt.shaped (.str x) = true) (hy : SeqAt.shaped (.str y) = true) : gEq (.str x) (.str y) = some (.bool (x == y)) := if_pos ⟨hx, hy⟩
/-! ### loops -/
theorem nx_ret {a : α} : mNx (mRet a : Mo S α) = mRet a := rfl
theorem comp_list {f : D → Mo S (Option D)} {g : Nat → D} : ∀ {xs acc : List D}, (∀ i (h : i < xs.length), f xs[i] = mRet (some (g i))) → acc.length + xs.length ≤ 1000 → mComp f xs acc = mRet (acc ++ (List.range xs.length).map g)
  | [], acc, _, _ => by simp [mComp]
  | x :: xs, acc, h, hl => by
    have h0 := h 0 (by simp)
    rw [List.getElem_cons_zero] at h0
    have hl' : acc.length + (xs.length + 1) ≤ 1000 := by simpa using hl
    show mBnd (mNx (f x)) _ = _
    rw [h0, nx_ret, bnd_ret]
    show (if acc.length < sizeLine then mComp f xs (acc ++ [g 0]) else mBad) = _
    rw [if_pos (by have : sizeLine = 16777216 := rfl; omega), comp_list (g := fun i => g (i + 1)) (fun i hi => by have q := h (i + 1) (by simpa using hi); rwa [List.getElem_cons_succ] at q) (by simp; omega)]
    congr 1
    rw [List.append_assoc, List.length_cons, List.range_succ_eq_map, List.map_cons, List.map_map]
    rfl
theorem comp_range {f : D → Mo S (Option D)} {c g : Nat → D} {n : Nat} (hn : n ≤ 1000) (h : ∀ i, i < n → f (c i) = mRet (some (g i))) : mComp f ((List.range n).map c) [] = mRet ((List.range n).map g) := by
  rw [comp_list (g := g) (fun i hi => by rw [List.getElem_map, List.getElem_range]; exact h i (by simpa using hi)) (by simpa using hn)]
  simp
theorem for_list {f : D → β → Mo S (Fl β)} : ∀ {xs : List D} {st : Nat → β}, (∀ i (h : i < xs.length), f xs[i] (st i) = mRet (.nx (st (i + 1)))) → mFor xs (st 0) f = mRet (.nx (st xs.length))
  | [], st, _ => rfl
  | x :: xs, st, h => by
    have h0 := h 0 (by simp)
    rw [List.getElem_cons_zero] at h0
    show mBndF (f x (st 0)) _ = _
    rw [h0, bndF_nx]
    exact for_list (st := fun i => st (i + 1)) fun i hi => by have q := h (i + 1) (by simpa using hi); rwa [List.getElem_cons_succ] at q
theorem for_range {f : D → β → Mo S (Fl β)} {c : Nat → D} {n : Nat} {st : Nat → β} (h : ∀ i, i < n → f (c i) (st i) = mRet (.nx (st (i + 1)))) : mFor ((List.range n).map c) (st 0) f = mRet (.nx (st n)) := by
  have e := for_list (f := f) (xs := (List.range n).map c) (st := st) fun i hi => by rw [List.getElem_map, List.getElem_range]; exact h i (by simpa using hi)
  rw [e, tab_len]
/-- a loop that only looks -/
theorem for_all {f : D → β → Mo S (Fl β)} {a : β} : ∀ {xs : List D}, (∀ x ∈ xs, f x a = mRet (.nx a)) → mFor xs a f = mRet (.nx a)
  | [], _ => rfl
  | x :: xs, h => by
    show mBndF (f x a) _ = _
    rw [h x List.mem_cons_self, bndF_nx]
    exact for_all fun y hy => h y (List.mem_cons_of_mem _ hy)
/-- .. and goes back with d where p does not hold -/
theorem for_any {f : D → β → Mo S (Fl β)} {a : β} {p : D → Bool} {d : D} : ∀ {xs : List D}, (∀ x ∈ xs, f x a = if p x = true then mRet (.nx a) else mRet (.rt d)) → mFor xs a f = if xs.all p = true then mRet (.nx a) else mRet (.rt d)
  | [], _ => rfl
  | x :: xs, h => by
    show mBndF (f x a) _ = _
    rw [h x List.mem_cons_self, List.all_cons]
    by_cases q : p x = true
    · rw [if_pos q, bndF_nx, q, Bool.true_and]
      exact for_any fun y hy => h y (List.mem_cons_of_mem _ hy)
    · rw [if_neg q, bndF_rt]
      have e : p x = false := by simpa using q
      rw [e]; rfl
end
end Cz
namespace Cz
open PySem
theorem lit0 : PyData.int 0 = dn 0 := rfl
theorem lit1 : PyData.int 1 = dn 1 := rfl
theorem lit2 : PyData.int 2 = dn 2 := rfl
theorem lit3 : PyData.int 3 = dn 3 := rfl
theorem lit4 : PyData.int 4 = dn 4 := rfl
theorem lit5 : PyData.int 5 = dn 5 := rfl
theorem lit6 : PyData.int 6 = dn 6 := rfl
theorem lit7 : PyData.int 7 = dn 7 := rfl
theorem lit8 : PyData.int 8 = dn 8 := rfl
theorem lit9 : PyData.int 9 = dn 9 := rfl
theorem lit12 : PyData.int 12 = dn 12 := rfl
theorem lit16 : PyData.int 16 = dn 16 := rfl
theorem lit60 : PyData.int 60 = dn 60 := rfl
end Cz
namespace Cz
open PySem PySem.Spec PyProof.Rows L2
section
variable {S : Type} {δ : Type}
theorem g_0 {a : δ} {l : List δ} : (a :: l)[0]? = some a := rfl
theorem g_1 {a b : δ} {l : List δ} : (a :: b :: l)[1]? = some b := rfl
theorem nxL_ret {l : List D} : mNxL (mRet l : Mo S (List D)) = mRet l := rfl
theorem comp_const {f : D → Mo S (Option D)} {d : D} : ∀ {xs acc : List D}, (∀ x ∈ xs, f x = mRet (some d)) → acc.length + xs.length ≤ 1000 → mComp f xs acc = mRet (acc ++ List.replicate xs.length d)
  | [], acc, _, _ => by simp [mComp]
  | x :: xs, acc, h, hl => by
    have hl' : acc.length + (xs.length + 1) ≤ 1000 := by simpa using hl
    show mBnd (mNx (f x)) _ = _
    rw [h x List.mem_cons_self, nx_ret, bnd_ret]
    show (if acc.length < sizeLine then mComp f xs (acc ++ [d]) else mBad) = _
    rw [if_pos (by have : sizeLine = 16777216 := rfl; omega), comp_const (fun y hy => h y (List.mem_cons_of_mem _ hy)) (by simp; omega), List.append_assoc, List.length_cons, List.replicate_succ]
    rfl
theorem comp2_const {mi : D → Mo S (List D)} {f : D → D → Mo S (Option D)} {d : D} : ∀ {xs acc : List D}, (∀ x ∈ xs, ∃ ys, mi x = mRet ys ∧ ys.length ≤ 8 ∧ ∀ y ∈ ys, f x y = mRet (some d)) → acc.length + 8 * xs.length ≤ 1000 → ∃ k, mComp2 mi f xs acc = mRet (acc ++ List.replicate k d)
  | [], acc, _, _ => ⟨0, by simp [mComp2]⟩
  | x :: xs, acc, h, hl => by
    have hl' : acc.length + 8 * (xs.length + 1) ≤ 1000 := by simpa using hl
    obtain ⟨ys, e1, l1, h1⟩ := h x List.mem_cons_self
    obtain ⟨k, e2⟩ := comp2_const (mi := mi) (f := f) (d := d) (xs := xs) (acc := acc ++ List.replicate ys.length d) (fun y hy => h y (List.mem_cons_of_mem _ hy)) (by simp; omega)
    refine ⟨ys.length + k, ?_⟩
    show mBnd (mNxL (mi x)) _ = _
    rw [e1, nxL_ret, bnd_ret, comp_const h1 (by omega), bnd_ret, e2, List.append_assoc, List.replicate_append_replicate]
theorem all_rep {k : Nat} : gAll [.list (List.replicate k (.bool true))] = some (.bool true) := by
  have e : List.replicate k (PyData.bool true) = (List.range k).map fun _ => PyData.bool true := by
    refine List.ext_getElem (by simp) fun i h1 h2 => by simp
  rw [e]
  exact all_b fun _ _ => rfl
/-! products of ranges -/
theorem prd2 {n : Nat} (h1 : 1 ≤ n) (h8 : n ≤ 8) : (mPrd2 (mRet (dn n)) (mRet (dn n)) : Mo S (List D)) = mRet (dPrd [n, n]) := by
  show (mOf (gPrd [(n : Int), (n : Int)]) : Mo S (List D)) = _
  unfold gPrd
  rw [if_pos (by intro a ha; simp at ha; subst ha; exact ⟨by omega, by omega⟩)]
  rfl
theorem prd3 {n : Nat} (h1 : 1 ≤ n) (h8 : n ≤ 8) : (mPrd3 (mRet (dn n)) (mRet (dn n)) (mRet (dn n)) : Mo S (List D)) = mRet (dPrd [n, n, n]) := by
  show (mOf (gPrd [(n : Int), (n : Int), (n : Int)]) : Mo S (List D)) = _
  unfold gPrd
  rw [if_pos (by intro a ha; simp at ha; subst ha; exact ⟨by omega, by omega⟩)]
  rfl
theorem prd2_mem {n : Nat} (h1 : 1 ≤ n) {x : D} (h : x ∈ dPrd [n, n]) : ∃ a b, a < n ∧ b < n ∧ x = .tuple [dn a, dn b] := by
  unfold dPrd at h
  obtain ⟨i, hi, rfl⟩ := List.mem_map.mp h
  exact ⟨(i / n) % n, i % n, Nat.mod_lt _ (by omega), Nat.mod_lt _ (by omega), rfl⟩
theorem prd3_mem {n : Nat} (h1 : 1 ≤ n) {x : D} (h : x ∈ dPrd [n, n, n]) : ∃ a b c, a < n ∧ b < n ∧ c < n ∧ x = .tuple [dn a, dn b, dn c] := by
  unfold dPrd at h
  obtain ⟨i, hi, rfl⟩ := List.mem_map.mp h
  exact ⟨(i / n / n) % n, (i / n) % n, i % n, Nat.mod_lt _ (by omega), Nat.mod_lt _ (by omega), Nat.mod_lt _ (by omega), rfl⟩
end
end Cz
namespace Cz
open PySem PySem.Spec PyProof.Rows L2
theorem eqs {x y : Str} {r : Bool} (h1 : SeqAt.shaped (.str x) = true) (h2 : SeqAt.shaped (.str y) = true) (e : PyData.eqv (.str x) (.str y) = r) : gEq (.str x) (.str y) = some (.bool r) := by
  unfold gEq
  rw [if_pos ⟨h1, h2⟩, e]
end Cz

namespace Cz
open PySem PySem.Spec PyProof.Rows L2
theorem seq_p {n : Nat} {f : Nat → Nat} : gSeq (pD n f) = some ((List.range n).map fun i => dn (f i)) := rfl
theorem seq_tD {l : List Nat} : gSeq (tD l) = some (l.map dn) := rfl
theorem tup_dn {n : Nat} : PyData.tuple (List.map dn (List.range n)) = pD n fun i => i := rfl
theorem len_p {n : Nat} {f : Nat → Nat} : gLen [pD n f] = some (dn n) := by unfold pD; rw [len_t, tab_len]
theorem len_tD {l : List Nat} : gLen [tD l] = some (dn l.length) := by unfold tD; rw [len_t, List.length_map]
theorem tup_tD {l : List Nat} : PyData.tuple (List.map dn l) = tD l := rfl
end Cz
/-! what is shown of data is small -/
namespace Cz
open PySem PySem.Spec PyProof.Rows L2
structure Tx (x : Str) (k : Nat) : Prop where
  ok : PyData.strOk x = true
  len : x.length ≤ k
theorem Tx.mono {x : Str} {j k : Nat} (h : Tx x j) (l : j ≤ k) : Tx x k := ⟨h.ok, Nat.le_trans h.len l⟩
theorem Tx.app {a b : Str} {i j : Nat} (h : Tx a i) (g : Tx b j) : Tx (a ++ b) (i + j) := by
  refine ⟨?_, ?_⟩
  · have h1 := h.ok
    have g1 := g.ok
    unfold PyData.strOk at *
    show (a.cps ++ b.cps).all _ = true
    rw [Array.all_append, h1, g1]
    rfl
  · show (a.cps ++ b.cps).size ≤ i + j
    rw [Array.size_append]
    have := h.len
    have := g.len
    unfold Str.length at *
    omega
theorem tx_from {j : Nat} : ∀ (ts : List Str) (k i : Nat) (acc : Str), Tx acc i → (∀ t ∈ ts, Tx t j) → Tx (textFrom k acc ts) (i + ts.length * (j + 2))
  | [], k, i, acc, h, _ => by simpa [textFrom] using h
  | t :: ts, k, i, acc, h, g => by
    have sep : Tx ((if k > 0 then ", " else "" : String) : Str) 2 := by
      split
      · exact ⟨by decide +kernel, by decide +kernel⟩
      · exact ⟨by decide +kernel, by decide +kernel⟩
    have := tx_from ts (k + 1) _ _ ((h.app sep).app (g t List.mem_cons_self)) fun u hu => g u (List.mem_cons_of_mem _ hu)
    exact this.mono (by simp [Nat.add_mul]; omega)
theorem tx_join {j : Nat} : ∀ (ts : List Str), (∀ t ∈ ts, Tx t j) → Tx (Str.join ", " ts) (ts.length * (j + 2))
  | [], _ => ⟨by decide +kernel, Nat.zero_le _⟩
  | [x], h => (h x List.mem_cons_self).mono (by simp)
  | x :: y :: r, h => by
    have ih := tx_join (y :: r) fun u hu => h u (List.mem_cons_of_mem _ hu)
    have sep : Tx (", " : Str) 2 := ⟨by decide +kernel, by decide +kernel⟩
    have := ((h x List.mem_cons_self).app sep).app ih
    exact this.mono (by simp [Nat.add_mul]; omega)
structure Sh (d : D) (p k : Nat) : Prop where
  lay : d.canLay0 = true
  shw : d.showable = true
  dep : d.depth ≤ p
  tx : Tx d.shown k
theorem Sh.mono {d : D} {p q j k : Nat} (h : Sh d p j) (l : p ≤ q) (m : j ≤ k) : Sh d q k := ⟨h.lay, h.shw, Nat.le_trans h.dep l, h.tx.mono m⟩
theorem shownAll_map : ∀ ds : List D, PyData.shownAll ds = ds.map PyData.shown
  | [] => rfl
  | d :: ds => by simp [PyData.shownAll, shownAll_map ds]
theorem Sh.all {p k : Nat} : ∀ {ds : List D}, (∀ d ∈ ds, Sh d p k) → PyData.canLayAll0 ds = true ∧ PyData.showableAll ds = true ∧ PyData.depthAll ds ≤ p
  | [], _ => ⟨rfl, rfl, Nat.zero_le _⟩
  | d :: ds, h => by
    obtain ⟨a, b, c⟩ := Sh.all (ds := ds) fun e he => h e (List.mem_cons_of_mem _ he)
    have q := h d List.mem_cons_self
    refine ⟨by simp [PyData.canLayAll0, q.lay, a], by simp [PyData.showableAll, q.shw, b], ?_⟩
    have := q.dep
    simp only [PyData.depthAll]
    omega
theorem sh_list {p k : Nat} {ds : List D} (h : ∀ d ∈ ds, Sh d p k) : Sh (.list ds) (p + 1) (2 + ds.length * (k + 2)) := by
  obtain ⟨a, b, c⟩ := Sh.all h
  refine ⟨by simpa [PyData.canLay0] using a, by simpa [PyData.showable] using b, by simp only [PyData.depth]; omega, ?_⟩
  have e : PyData.shown (.list ds) = textFrom 0 "[" (ds.map PyData.shown) ++ "]" := by simp only [PyData.shown]; rw [shownAll_map]; rfl
  rw [e]
  have t := (tx_from (ds.map PyData.shown) 0 1 "[" ⟨by decide +kernel, by decide +kernel⟩ fun t ht => by
    obtain ⟨d, hd, rfl⟩ := List.mem_map.mp ht
    exact (h d hd).tx).app (⟨by decide +kernel, by decide +kernel⟩ : Tx "]" 1)
  exact t.mono (by simp; omega)
theorem sh_tuple {p k : Nat} {ds : List D} (h : ∀ d ∈ ds, Sh d p k) : Sh (.tuple ds) (p + 1) (3 + ds.length * (k + 2)) := by
  obtain ⟨a, b, c⟩ := Sh.all h
  refine ⟨by simpa [PyData.canLay0] using a, by simpa [PyData.showable] using b, by simp only [PyData.depth]; omega, ?_⟩
  have e : PyData.shown (.tuple ds) = ("(" : Str) ++ Str.join ", " (ds.map PyData.shown) ++ (if (ds.map PyData.shown).length == 1 then ",)" else ")" : String) := by simp only [PyData.shown]; rw [shownAll_map]; rfl
  rw [e]
  have last : Tx ((if (ds.map PyData.shown).length == 1 then ",)" else ")" : String) : Str) 2 := by
    split
    · exact ⟨by decide +kernel, by decide +kernel⟩
    · exact ⟨by decide +kernel, by decide +kernel⟩
  have t := ((⟨by decide +kernel, by decide +kernel⟩ : Tx "(" 1).app (tx_join (ds.map PyData.shown) fun t ht => by
    obtain ⟨d, hd, rfl⟩ := List.mem_map.mp ht
    exact (h d hd).tx)).app last
  exact t.mono (by simp; omega)
theorem sh_n {n : Nat} (h : n < 128) : Sh (dn n) 0 3 := by
  have e : ∀ n, n < 128 → PyData.strOk (PyData.shown (dn n)) = true ∧ (PyData.shown (dn n)).length ≤ 3 ∧ PyData.showable (dn n) = true := by decide +kernel
  obtain ⟨a, b, c⟩ := e n h
  exact ⟨rfl, c, Nat.le_refl _, a, b⟩
theorem sh_b (k : Bool) : Sh (.bool k) 0 5 := by
  cases k
  · exact ⟨rfl, rfl, Nat.le_refl _, by decide +kernel, by decide +kernel⟩
  · exact ⟨rfl, rfl, Nat.le_refl _, by decide +kernel, by decide +kernel⟩
theorem sh_tD {l : List Nat} (h : ∀ x ∈ l, x < 128) (hl : l.length ≤ 150) : Sh (tD l) 1 1000 := by
  have t := sh_tuple (p := 0) (k := 3) (ds := l.map dn) fun d hd => by
    obtain ⟨x, hx, rfl⟩ := List.mem_map.mp hd
    exact sh_n (h x hx)
  exact t.mono (Nat.le_refl _) (by simp; omega)
theorem sh_pD {n : Nat} {f : Nat → Nat} (hn : n ≤ 8) (h : ∀ x, x < n → f x < 128) : Sh (pD n f) 1 1000 := by
  rw [← tD_tab]
  exact sh_tD (fun x hx => by
    obtain ⟨i, hi, rfl⟩ := List.mem_map.mp hx
    exact h i (by simpa using hi)) (by simp; omega)
theorem repr_of {d : D} {p k : Nat} (h : Sh d p k) (hp : p ≤ 60) (hk : k ≤ 100000) : gRepr [d] = some (.str d.shown) := if_pos ⟨h.lay, h.shw, Nat.le_trans h.dep hp, by have := h.tx.len; have : sizeLine = 16777216 := rfl; omega⟩
theorem eq_self {d : D} {p k : Nat} (h : Sh d p k) : gEq (.str d.shown) (.str d.shown) = some (.bool true) := by
  have s : SeqAt.shaped (.str d.shown) = true := by
    unfold SeqAt.shaped
    rw [Bool.and_eq_true]
    exact ⟨h.tx.ok, rfl⟩
  unfold gEq
  rw [if_pos ⟨s, s⟩]
  simp only [PyData.eqv, beq_self_eq_true]
end Cz
namespace Cz
open PySem
theorem tup_pD {n : Nat} {f : Nat → Nat} : PyData.tuple ((List.range n).map fun i => dn (f i)) = pD n f := rfl
end Cz
namespace Cz
open PySem PySem.Spec PyProof.Rows L2
theorem comp_nats {S : Type} {f : D → Mo S (Option D)} {g : Nat → D} {l : List Nat} (hl : l.length ≤ 1000) (h : ∀ x ∈ l, f (dn x) = mRet (some (g x))) : mComp f (l.map dn) [] = mRet (l.map g) := by
  have e := comp_list (S := S) (f := f) (g := fun i => g (l.getD i 0)) (xs := l.map dn) (acc := []) (fun i hi => by
    have hi' : i < l.length := by simpa using hi
    rw [List.getElem_map, h _ (List.getElem_mem hi'), List.getD_eq_getElem?_getD, List.getElem?_eq_getElem hi']
    rfl) (by simpa using hl)
  rw [e, List.nil_append, List.length_map]
  congr 1
  refine List.ext_getElem (by simp) fun i h1 h2 => ?_
  have hi' : i < l.length := by simpa using h1
  rw [List.getElem_map, List.getElem_map, List.getElem_range, List.getD_eq_getElem?_getD, List.getElem?_eq_getElem hi']
  rfl
theorem add_tup {l m : List D} (h : l.length + m.length ≤ 1000) : gAdd (.tuple l) (.tuple m) = some (.tuple (l ++ m)) := if_pos (by have : sizeLine = 16777216 := rfl; omega)
theorem add_lst {l m : List D} (h : l.length + m.length ≤ 1000) : gAdd (.list l) (.list m) = some (.list (l ++ m)) := if_pos (by have : sizeLine = 16777216 := rfl; omega)
theorem add_tD {l m : List Nat} (h : l.length + m.length ≤ 1000) : gAdd (tD l) (tD m) = some (tD (l ++ m)) := by
  unfold tD
  rw [add_tup (by simpa using h), List.map_append]
end Cz
namespace Cz
open PySem PySem.Spec PyProof.Rows L2
theorem flat0 : gFlat [] = some [] := rfl
theorem pop_n {A : List Nat} {v : Nat} (h : v < A.length) (hl : A.length ≤ 1000) : gPop (A.map dn) (dn v) = some (dn A[v], (A.eraseIdx v).map dn) := by
  have e : seqIndex? (v : Int) (A.map dn).length = some v := by
    rw [List.length_map]
    unfold seqIndex?
    simp
    omega
  have e2 : (A.map dn)[v]? = some (dn A[v]) := by rw [List.getElem?_map, List.getElem?_eq_getElem h]; rfl
  unfold dn at *
  simp only [gPop]
  rw [if_pos ⟨by omega, by omega⟩, e]
  dsimp only
  rw [e2]
  dsimp only
  rw [Rl.erase_map]
end Cz
namespace Cz
open PySem PySem.Spec PyProof.Rows L2
theorem tab_app {δ : Type} {n m : Nat} {c e : Nat → δ} : (List.range n).map c ++ (List.range m).map e = (List.range (n + m)).map fun i => if i < n then c i else e (i - n) := by
  rw [List.range_add, List.map_append, List.map_map]
  congr 1
  · exact tab_congr fun i hi => (if_pos hi).symm
  · refine List.map_congr_left fun i _ => ?_
    show e i = if n + i < n then c (n + i) else e (n + i - n)
    rw [if_neg (by omega), show n + i - n = i by omega]
theorem add_p {n m : Nat} {f g : Nat → Nat} (h : n + m ≤ 1000) : gAdd (pD n f) (.tuple ((List.range m).map fun z => dn (n + g z))) = some (pD (n + m) (Rl.sm n f g)) := by
  unfold pD
  rw [add_tup (by simpa using h), tab_app]
  congr 2
  refine tab_congr fun i _ => ?_
  unfold Rl.sm
  split <;> rfl
theorem ne_p {n : Nat} {f g : Nat → Nat} : gNe (pD n f) (pD n g) = some (.bool (!decide ((List.range n).map f = (List.range n).map g))) := by
  rw [← tD_tab, ← tD_tab]
  exact ne_t
theorem eq_p {n : Nat} {f g : Nat → Nat} : gEq (pD n f) (pD n g) = some (.bool (decide ((List.range n).map f = (List.range n).map g))) := by
  rw [← tD_tab, ← tD_tab]
  exact eq_t
theorem tab_inj {n : Nat} {f g : Nat → Nat} (h : (List.range n).map f = (List.range n).map g) : ∀ i, i < n → f i = g i := fun i hi => by
  have e : ((List.range n).map f)[i]? = ((List.range n).map g)[i]? := by rw [h]
  rw [tab_at hi, tab_at hi] at e
  exact Option.some.inj e
theorem for_anyl {S β : Type} {f : D → β → Mo S (Fl β)} {a : β} {c : Nat → D} {p : Nat → Bool} {d : D} : ∀ {l : List Nat}, (∀ i ∈ l, f (c i) a = if p i = true then mRet (.nx a) else mRet (.rt d)) → mFor (l.map c) a f = if l.all p = true then mRet (.nx a) else mRet (.rt d)
  | [], _ => rfl
  | x :: l, h => by
    show mBndF (f (c x) a) _ = _
    rw [h x List.mem_cons_self, List.all_cons]
    by_cases q : p x = true
    · rw [if_pos q, bndF_nx, q, Bool.true_and]
      exact for_anyl fun y hy => h y (List.mem_cons_of_mem _ hy)
    · rw [if_neg q, bndF_rt]
      have e : p x = false := by simpa using q
      rw [e]; rfl
theorem sl_drop {l : List D} {w : Nat} (h : w ≤ l.length) : gSl (.list l) (some (w : Int)) none = some (.list (l.drop w)) := by
  show some (PyData.list (cutD l _ _)) = _
  unfold cutD
  rw [HT.sIx_nat, HT.sIx_none, show min w l.length = w by omega, List.take_of_length_le (by simp)]
theorem sl_take {l : List D} {w : Nat} (h : w ≤ l.length) : gSl (.list l) none (some (w : Int)) = some (.list (l.take w)) := by
  show some (PyData.list (cutD l _ _)) = _
  unfold cutD
  rw [HT.sIx_nat, HT.sIx_none, show min w l.length = w by omega]
  simp
theorem slt_take {l : List D} {w : Nat} : gSl (.tuple l) none (some (w : Int)) = some (.tuple (l.take w)) := by
  show some (PyData.tuple (cutD l _ _)) = _
  unfold cutD
  rw [HT.sIx_nat, HT.sIx_none]
  simp only [List.drop_zero, Nat.sub_zero]
  congr 2
  by_cases h : w ≤ l.length
  · rw [show min w l.length = w by omega]
  · rw [show min w l.length = l.length by omega, List.take_of_length_le (Nat.le_refl _), List.take_of_length_le (by omega)]
end Cz
namespace Cz
open PySem PySem.Spec PyProof.Rows L2
theorem comp_filter {S : Type} {f : D → Mo S (Option D)} {c : Nat → D} {p : Nat → Bool} : ∀ {l : List Nat} {acc : List D}, (∀ i ∈ l, f (c i) = if p i = true then mRet (some (c i)) else mRet none) → acc.length + l.length ≤ 1000 → mComp f (l.map c) acc = mRet (acc ++ (l.filter p).map c)
  | [], acc, _, _ => by simp [mComp]
  | x :: l, acc, h, hl => by
    have hl' : acc.length + (l.length + 1) ≤ 1000 := by simpa using hl
    have h0 := h x List.mem_cons_self
    show mBnd (mNx (f (c x))) _ = _
    rw [h0]
    by_cases q : p x = true
    · rw [if_pos q, nx_ret, bnd_ret]
      show (if acc.length < sizeLine then mComp f (l.map c) (acc ++ [c x]) else mBad) = _
      rw [if_pos (by have : sizeLine = 16777216 := rfl; omega), comp_filter (fun y hy => h y (List.mem_cons_of_mem _ hy)) (by simp; omega), List.filter_cons_of_pos q, List.map_cons, List.append_assoc]
      rfl
    · rw [if_neg q, nx_ret, bnd_ret]
      show mComp f (l.map c) acc = _
      rw [comp_filter (fun y hy => h y (List.mem_cons_of_mem _ hy)) (by omega), List.filter_cons_of_neg q]
theorem in_468 {n : Nat} : gIn (dn n) (.tuple [dn 4, dn 6, dn 8]) = some (.bool (decide (n = 4 ∨ n = 6 ∨ n = 8))) := by
  have e0 : gIn (dn n) (.tuple [dn 4, dn 6, dn 8]) = some (.bool (((4 : Int) == (n : Int)) || (((6 : Int) == (n : Int)) || (((8 : Int) == (n : Int)) || false)))) := rfl
  rw [e0]
  congr 2
  have e : ∀ a : Nat, ((a : Int) == (n : Int)) = decide (n = a) := fun a => by
    rw [beq_n]
    by_cases h : a = n
    · rw [decide_eq_true h, decide_eq_true h.symm]
    · rw [decide_eq_false h, decide_eq_false (Ne.symm h)]
  rw [show ((4 : Int) == (n : Int)) = decide (n = 4) from e 4, show ((6 : Int) == (n : Int)) = decide (n = 6) from e 6, show ((8 : Int) == (n : Int)) = decide (n = 8) from e 8]
  by_cases h4 : n = 4
  · simp [h4]
  · by_cases h6 : n = 6
    · simp [h6]
    · simp [h4, h6]
theorem tab_succ {δ : Type} {n : Nat} {c : Nat → δ} : (List.range n).map c ++ [c n] = (List.range (n + 1)).map c := by rw [List.range_succ, List.map_append]; rfl
theorem lst_at {A : List Nat} {v : Nat} (h : v < A.length) : (A.map dn)[v]? = some (dn (A.getD v 0)) := by
  rw [List.getElem?_map, List.getElem?_eq_getElem h, List.getD_eq_getElem?_getD, List.getElem?_eq_getElem h]
  rfl
end Cz
namespace Cz
open PySem
theorem for_range' {S β : Type} {f : D → β → Mo S (Fl β)} {c : Nat → D} {n : Nat} {a : β} {st : Nat → β} (h0 : a = st 0) (h : ∀ i, i < n → f (c i) (st i) = mRet (.nx (st (i + 1)))) : mFor ((List.range n).map c) a f = mRet (.nx (st n)) := by
  rw [h0]
  exact for_range h
end Cz
namespace Cz
open PySem
theorem app_c1 {a d : D} : gApp [a] d = some [a, d] := app_le (by simp)
theorem app_c2 {a b d : D} : gApp [a, b] d = some [a, b, d] := app_le (by simp)
theorem app_c3 {a b c d : D} : gApp [a, b, c] d = some [a, b, c, d] := app_le (by simp)
theorem app_c4 {a b c e d : D} : gApp [a, b, c, e] d = some [a, b, c, e, d] := app_le (by simp)
theorem app_c5 {a b c e f d : D} : gApp [a, b, c, e, f] d = some [a, b, c, e, f, d] := app_le (by simp)
end Cz
namespace Cz
open PySem PySem.Spec PyProof.Rows L2
theorem sl_takeL {l : List D} {w : Nat} : gSl (.list l) none (some (w : Int)) = some (.list (l.take w)) := by
  show some (PyData.list (Cz.cutD l _ _)) = _
  unfold Cz.cutD
  rw [HT.sIx_nat, HT.sIx_none]
  simp only [List.drop_zero, Nat.sub_zero]
  congr 2
  by_cases h : w ≤ l.length
  · rw [show min w l.length = w by omega]
  · rw [show min w l.length = l.length by omega, List.take_of_length_le (Nat.le_refl _), List.take_of_length_le (by omega)]
end Cz
set_option Elab.async false
set_option linter.all false
set_option maxRecDepth 100000
set_option maxHeartbeats 2000000
/-! More on data: turned round, sorted, parts, the table of a rule and of its mirror. -/
namespace Cz
open PySem PySem.Spec PyProof.Rows L2
theorem rev_t {l : List D} : gRev (.tuple l) = some (.tuple l.reverse) := rfl
theorem rev_l {l : List D} : gRev (.list l) = some (.list l.reverse) := rfl
theorem rev_tD {l : List Nat} : gRev (tD l) = some (tD l.reverse) := by
  unfold tD
  rw [rev_t, List.map_reverse]
theorem rev_2 {a b : D} : gRev (.tuple [a, b]) = some (.tuple [b, a]) := rfl
theorem cut_dropN {l : List D} {w : Nat} : cutD l (some (w : Int)) none = l.drop w := by
  unfold cutD
  rw [HT.sIx_nat, HT.sIx_none]
  by_cases h : w ≤ l.length
  · rw [show min w l.length = w by omega, List.take_of_length_le (by simp)]
  · rw [show min w l.length = l.length by omega, List.take_of_length_le (by simp), List.drop_length, List.drop_of_length_le (by omega)]
theorem cut_takeN {l : List D} {w : Nat} : cutD l none (some (w : Int)) = l.take w := by
  unfold cutD
  rw [HT.sIx_nat, HT.sIx_none]
  simp only [List.drop_zero, Nat.sub_zero]
  by_cases h : w ≤ l.length
  · rw [show min w l.length = w by omega]
  · rw [show min w l.length = l.length by omega, List.take_of_length_le (Nat.le_refl _), List.take_of_length_le (by omega)]
theorem slD_drop {l : List Nat} {w : Nat} : gSl (tD l) (some (w : Int)) none = some (tD (l.drop w)) := by
  show some (PyData.tuple (cutD (l.map dn) _ _)) = _
  rw [cut_dropN, ← List.map_drop]
  rfl
theorem slD_take {l : List Nat} {w : Nat} : gSl (tD l) none (some (w : Int)) = some (tD (l.take w)) := by
  show some (PyData.tuple (cutD (l.map dn) _ _)) = _
  rw [cut_takeN, ← List.map_take]
  rfl
/-- a list of kinds -/
def lD (l : List Nat) : D := .list (l.map dn)
theorem slL_drop {l : List Nat} {w : Nat} : gSl (lD l) (some (w : Int)) none = some (lD (l.drop w)) := by
  show some (PyData.list (cutD (l.map dn) _ _)) = _
  rw [cut_dropN, ← List.map_drop]
  rfl
theorem slL_take {l : List Nat} {w : Nat} : gSl (lD l) none (some (w : Int)) = some (lD (l.take w)) := by
  show some (PyData.list (cutD (l.map dn) _ _)) = _
  rw [cut_takeN, ← List.map_take]
  rfl
theorem lstOf_tD {l : List Nat} : gLstOf [tD l] = some (lD l) := rfl
theorem tupOf_lD {l : List Nat} : gTupOf [lD l] = some (tD l) := rfl
theorem seq_lD {l : List Nat} : gSeq (lD l) = some (l.map dn) := rfl
theorem len_lD {l : List Nat} : gLen [lD l] = some (dn l.length) := by unfold lD; rw [len_l, List.length_map]
theorem add_lD {l m : List Nat} (h : l.length + m.length ≤ 1000) : gAdd (lD l) (lD m) = some (lD (l ++ m)) := by
  unfold lD
  rw [add_lst (by simpa using h), List.map_append]
theorem ix_tD {l : List Nat} {i : Nat} (h : i < l.length) : gIx (tD l) (dn i) = some (dn l[i]) := by
  unfold tD
  rw [ix_t, List.getElem?_map, List.getElem?_eq_getElem h]
  rfl
theorem ix_lD {l : List Nat} {i : Nat} (h : i < l.length) : gIx (lD l) (dn i) = some (dn l[i]) := by
  unfold lD
  rw [ix_l, List.getElem?_map, List.getElem?_eq_getElem h]
  rfl
theorem lst_lD {l : List Nat} : PyData.list (List.map dn l) = lD l := rfl
theorem lst_2 {a b : Nat} : PyData.list [dn a, dn b] = lD [a, b] := rfl
theorem tup_1 {a : Nat} : PyData.tuple [dn a] = tD [a] := rfl
theorem shaped_l (l : List Nat) : SeqAt.shaped (lD l) = true := by
  unfold SeqAt.shaped lD
  rw [Bool.and_eq_true]
  exact ⟨by simpa [PyData.canLay0] using (lay_n l).1, decide_eq_true (by simp [PyData.depth, (lay_n l).2])⟩
theorem eq_lD {l m : List Nat} : gEq (lD l) (lD m) = some (.bool (decide (l = m))) := by
  unfold gEq
  rw [if_pos ⟨shaped_l l, shaped_l m⟩]
  show some (PyData.bool (PyData.eqvAll _ _)) = _
  rw [eqv_l]
/-- the items in their order -/
def srtN (l : List Nat) : List Nat := l.mergeSort fun a b => decide (a ≤ b)
theorem srtN_iff {l m : List Nat} : srtN l = srtN m ↔ l.Perm m := by
  have p : ∀ l : List Nat, (srtN l).Perm l := fun l => List.mergeSort_perm _ _
  refine ⟨fun h => (p l).symm.trans (h ▸ p m), fun e => ?_⟩
  have s : ∀ l : List Nat, (srtN l).Pairwise (· ≤ ·) := fun l => (List.pairwise_mergeSort (le := fun (a b : Nat) => decide (a ≤ b)) (fun a b c h1 h2 => by simp only [decide_eq_true_eq] at *; omega) (fun a b => by simp only [Bool.or_eq_true, decide_eq_true_eq]; omega) l).imp fun h => of_decide_eq_true h
  exact List.Perm.eq_of_pairwise (fun a b _ _ h1 h2 => Nat.le_antisymm h1 h2) (s l) (s m) ((p l).trans (e.trans (p m).symm))
theorem intsOf_n : ∀ l : List Nat, intsOfD (l.map dn) = some (l.map fun i : Nat => (i : Int))
  | [] => rfl
  | a :: l => by
    show (intsOfD (l.map dn)).map _ = _
    rw [intsOf_n l]
    rfl
theorem sorted_tD {l : List Nat} : gSorted [tD l] = some (lD (srtN l)) := by
  show (intsOfD (l.map dn)).map _ = _
  rw [intsOf_n]
  have p : (srtN l).Perm l := List.mergeSort_perm _ _
  have s : (srtN l).Pairwise (· ≤ ·) := (List.pairwise_mergeSort (le := fun (a b : Nat) => decide (a ≤ b)) (fun a b c h1 h2 => by simp only [decide_eq_true_eq] at *; omega) (fun a b => by simp only [Bool.or_eq_true, decide_eq_true_eq]; omega) l).imp fun h => of_decide_eq_true h
  have e : (srtN l).map (fun i : Nat => (i : Int)) = sortI (l.map fun i : Nat => (i : Int)) := sortI_eq (p.map _) (List.pairwise_map.mpr (s.imp fun h => Int.ofNat_le.mpr h))
  show some (PyData.list ((sortI (l.map fun i : Nat => (i : Int))).map PyData.int)) = _
  rw [← e, List.map_map]
  rfl
theorem mul_lD2 {a b : D} : gMulT (.list [a, b]) (dn 2) = some (.list [a, b, a, b]) := by
  have e : gMulT (.list [a, b]) (dn 2) = gMul (.list [a, b]) (dn 2) := rfl
  rw [e]
  rfl
theorem mul_l3 {a : D} : gMulT (.list [a]) (dn 3) = some (.list [a, a, a]) := by
  have e : gMulT (.list [a]) (dn 3) = gMul (.list [a]) (dn 3) := rfl
  rw [e]
  rfl
end Cz
namespace Cz
open PySem PySem.Spec PyProof.Rows L2
section
variable {S α β γ : Type}
/-- steps one behind the other -/
theorem bnd_assoc {m : Mo S α} {f : α → Mo S β} {g : β → Mo S γ} : mBnd (mBnd m f) g = mBnd m fun x => mBnd (f x) g := by
  funext s
  unfold mBnd
  cases m s <;> rfl
theorem bndF_assoc {m : Mo S α} {f : α → Mo S (Fl β)} {k : β → Mo S (Fl γ)} : mBndF (mBnd m f) k = mBnd m fun x => mBndF (f x) k := by
  funext s
  unfold mBndF mBnd
  cases m s <;> rfl
theorem t2_ret {τ : Type} {x y : D} {k : D → D → Mo S τ} : mT2 (.tuple [x, y]) k = k x y := rfl
end
end Cz
set_option Elab.async false
set_option linter.all false
set_option maxRecDepth 100000
set_option maxHeartbeats 2000000
/-! Draws: a def that draws comes, whatever the deck, to something that P says; it draws at most n times. -/
namespace Cz
open PySem PySem.Spec PyProof.Rows L2
section
variable {kn : Str} {α β γ : Type}
structure DkOk (s : Dk kn) : Prop where
  l : (s.left.length : Int) ≤ 63 + s.draws
  m0 : 0 ≤ s.mixed
  m1 : s.mixed < 2147483587
  d0 : 0 ≤ s.draws
def Al (n : Nat) (m : Mo (Dk kn) α) (P : α → Prop) : Prop := ∀ s, DkOk s → s.draws + (n : Int) ≤ 1000000 → ∃ a s', m s = .ok a s' ∧ P a ∧ DkOk s' ∧ s'.draws ≤ s.draws + (n : Int)
variable {n k : Nat} {m : Mo (Dk kn) α} {P : α → Prop} {Q : β → Prop}
theorem al_ret {a : α} (h : P a) : Al (kn := kn) 0 (mRet a) P := fun s o _ => ⟨a, s, rfl, h, o, by omega⟩
theorem al_eq {a : α} (e : m = mRet a) (h : P a) : Al 0 m P := by rw [e]; exact al_ret h
theorem Al.mono {P' : α → Prop} (h : Al n m P) (l : n ≤ k) (w : ∀ a, P a → P' a) : Al k m P' := fun s o b => by
  obtain ⟨a, s', e, p, o', d⟩ := h s o (by omega)
  exact ⟨a, s', e, w a p, o', by omega⟩
theorem Al.le (h : Al n m P) (l : n ≤ k) : Al k m P := h.mono l fun _ p => p
theorem al_bnd {f : α → Mo (Dk kn) β} (h : Al n m P) (g : ∀ a, P a → Al k (f a) Q) : Al (n + k) (mBnd m f) Q := fun s o b => by
  obtain ⟨a, s1, e1, p1, o1, d1⟩ := h s o (by omega)
  obtain ⟨c, s2, e2, p2, o2, d2⟩ := g a p1 s1 o1 (by omega)
  refine ⟨c, s2, ?_, p2, o2, by omega⟩
  unfold mBnd
  rw [e1]
  exact e2
/-- behind a loop, an if: it goes on, or it goes back -/
def FlP (P : β → Prop) (R : D → Prop) : Fl β → Prop
  | .nx a => P a
  | .rt d => R d
theorem al_bndF {P : β → Prop} {R : D → Prop} {m : Mo (Dk kn) (Fl β)} {f : β → Mo (Dk kn) (Fl γ)} {Q : Fl γ → Prop} (h : Al n m (FlP P R)) (g : ∀ a, P a → Al k (f a) Q) (r : ∀ d, R d → Q (.rt d)) : Al (n + k) (mBndF m f) Q :=
  al_bnd h fun fl p => by
    cases fl with
    | nx a => exact g a p
    | rt d => exact (al_ret (r d p)).le (Nat.zero_le _)
theorem al_fin {R : D → Prop} {m : Mo (Dk kn) (Fl Unit)} (h : Al n m (FlP (fun _ => False) R)) : Al n (mFin m) R := fun s o b => by
  obtain ⟨fl, s1, e1, p1, o1, d1⟩ := h s o b
  cases fl with
  | nx a => exact p1.elim
  | rt d =>
    refine ⟨d, s1, ?_, p1, o1, d1⟩
    unfold mFin mBnd
    rw [e1]
    rfl
theorem al_for {I : Nat → β → Prop} {R : D → Prop} {f : D → β → Mo (Dk kn) (Fl β)} : ∀ {xs : List D} {i : Nat} {a : β}, I i a → (∀ j (h : j < xs.length) b, I (i + j) b → Al k (f xs[j] b) (FlP (I (i + j + 1)) R)) → Al (k * xs.length) (mFor xs a f) (FlP (I (i + xs.length)) R)
  | [], i, a, h, _ => (al_ret (P := FlP (I (i + 0)) R) (a := .nx a) h).le (Nat.zero_le _)
  | x :: xs, i, a, h, g => by
    have g0 := g 0 (by simp) a h
    rw [List.getElem_cons_zero] at g0
    have e : k * (x :: xs).length = k + k * xs.length := by rw [List.length_cons, Nat.mul_add, Nat.mul_one, Nat.add_comm]
    rw [e]
    refine al_bndF g0 (fun b hb => ?_) fun d hd => hd
    have := al_for (I := I) (R := R) (f := f) (xs := xs) (i := i + 1) (a := b) hb fun j hj c hc => by
      have q := g (j + 1) (by simpa using hj) c (by rw [show i + (j + 1) = i + 1 + j by omega]; exact hc)
      rw [List.getElem_cons_succ, show i + (j + 1) + 1 = i + 1 + j + 1 by omega] at q
      exact q
    rw [show i + 1 + xs.length = i + (x :: xs).length by simp; omega] at this
    exact this
theorem al_range {I : Nat → β → Prop} {R : D → Prop} {f : D → β → Mo (Dk kn) (Fl β)} {c : Nat → D} {a : β} (h : I 0 a) (g : ∀ j, j < n → ∀ b, I j b → Al k (f (c j) b) (FlP (I (j + 1)) R)) : Al (k * n) (mFor ((List.range n).map c) a f) (FlP (I n) R) := by
  have := al_for (I := I) (R := R) (f := f) (xs := (List.range n).map c) (i := 0) (a := a) h fun j hj b hb => by
    rw [List.getElem_map, List.getElem_range]
    rw [Nat.zero_add] at hb ⊢
    exact g j (by simpa using hj) b hb
  simpa using this
theorem al_comp {P : Nat → D → Prop} {f : D → Mo (Dk kn) (Option D)} : ∀ {xs acc : List D} {i : Nat}, (∀ j (h : j < xs.length), Al k (f xs[j]) fun o => ∃ d, o = some d ∧ P (i + j) d) → acc.length + xs.length ≤ 1000 → Al (k * xs.length) (mComp f xs acc) fun l => ∃ g : Nat → D, l = acc ++ (List.range xs.length).map (fun j => g (i + j)) ∧ ∀ j, j < xs.length → P (i + j) (g (i + j))
  | [], acc, i, _, _ => (al_ret ⟨fun _ => .none, by simp, fun j h => absurd h (Nat.not_lt_zero j)⟩).le (Nat.zero_le _)
  | x :: xs, acc, i, h, hl => by
    have hl' : acc.length + (xs.length + 1) ≤ 1000 := by simpa using hl
    have h0 := h 0 (by simp)
    rw [List.getElem_cons_zero, Nat.add_zero] at h0
    have e : k * (x :: xs).length = k + k * xs.length := by rw [List.length_cons, Nat.mul_add, Nat.mul_one, Nat.add_comm]
    rw [e]
    have h0' : Al k (mNx (f x)) fun o => ∃ d, o = some d ∧ P i d := fun s o b => by
      obtain ⟨a, s1, e1, p1, o1, d1⟩ := h0 s o b
      exact ⟨a, s1, by unfold mNx; rw [e1], p1, o1, d1⟩
    show Al _ (mBnd (mNx (f x)) _) _
    refine al_bnd h0' fun o ⟨d, ed, pd⟩ => ?_
    subst ed
    show Al _ (if acc.length < sizeLine then mComp f xs (acc ++ [d]) else mBad) _
    rw [if_pos (by have : sizeLine = 16777216 := rfl; omega)]
    refine (al_comp (P := P) (f := f) (xs := xs) (acc := acc ++ [d]) (i := i + 1) (fun j hj => ?_) (by simp; omega)).mono (Nat.le_refl _) fun l ⟨g, eg, pg⟩ => ?_
    · have q := h (j + 1) (by simpa using hj)
      rw [List.getElem_cons_succ, show i + (j + 1) = i + 1 + j by omega] at q
      exact q
    · refine ⟨fun z => if z = i then d else g z, ?_, fun j hj => ?_⟩
      · rw [eg, List.append_assoc, List.length_cons, List.range_succ_eq_map, List.map_cons, List.map_map]
        congr 1
        show d :: _ = (if i + 0 = i then d else g (i + 0)) :: _
        rw [if_pos (by omega)]
        congr 1
        refine List.map_congr_left fun z hz => ?_
        show g (i + 1 + z) = if i + (z + 1) = i then d else g (i + (z + 1))
        rw [if_neg (by omega), show i + 1 + z = i + (z + 1) by omega]
      · cases j with
        | zero =>
          show P (i + 0) (if i + 0 = i then d else g (i + 0))
          rw [if_pos (by omega)]
          exact pd
        | succ j =>
          show P (i + (j + 1)) (if i + (j + 1) = i then d else g (i + (j + 1)))
          rw [if_neg (by omega), show i + (j + 1) = i + 1 + j by omega]
          exact pg j (by simpa using hj)
theorem al_compr {P : Nat → D → Prop} {f : D → Mo (Dk kn) (Option D)} {c : Nat → D} (hn : n ≤ 1000) (h : ∀ j, j < n → Al k (f (c j)) fun o => ∃ d, o = some d ∧ P j d) : Al (k * n) (mComp f ((List.range n).map c) []) fun l => ∃ g : Nat → D, l = (List.range n).map g ∧ ∀ j, j < n → P j (g j) := by
  have := al_comp (P := P) (f := f) (xs := (List.range n).map c) (acc := []) (i := 0) (fun j hj => by
    rw [List.getElem_map, List.getElem_range, Nat.zero_add]
    exact h j (by simpa using hj)) (by simpa using hn)
  refine (this.le (k := k * n) (by simp)).mono (Nat.le_refl _) fun l ⟨g, e, p⟩ => ⟨g, by simpa using e, fun j hj => by simpa using p j (by simpa using hj)⟩
/-- some element of a mapped list of numbers -/
theorem al_elt {f : Mo (Dk kn) D} {P : D → Prop} (h : Al n f P) : Al n (elt1 f) fun o => ∃ d, o = some d ∧ P d := (al_bnd h fun a p => al_ret ⟨a, rfl, p⟩ : Al (n + 0) (elt1 f) _)
end
end Cz

/-! ints of any sign -/
namespace Cz
open PySem PySem.Spec PyProof.Rows L2
theorem add_i {a b : Int} : gAdd (.int a) (.int b) = some (.int (a + b)) := rfl
theorem bits_i {a : Int} (h : a.natAbs < 2 ^ 64) : (Builtin.Int.intBits a : Int) ≤ 64 := by
  have : Builtin.Int.intBits a ≤ 64 := by
    unfold Builtin.Int.intBits
    split
    · omega
    · rename_i h0
      have := (Nat.log2_lt (n := a.natAbs) (k := 64) (by simpa using h0)).mpr h
      omega
  omega
theorem mul_i {a b : Int} (h : a.natAbs < 2 ^ 64) (h2 : b.natAbs < 2 ^ 64) : gMulT (.int a) (.int b) = some (.int (a * b)) := by
  show (if (Builtin.Int.intBits a : Int) + (Builtin.Int.intBits b : Int) ≤ 134217728 then some (PyData.int (a * b)) else none) = _
  have := bits_i h
  have := bits_i h2
  rw [if_pos (by omega)]
theorem mod_i {a b : Int} (h : 0 < b) : gMod (.int a) (.int b) = some (.int (a % b)) := if_pos h
theorem fdv_i {a b : Int} (h : 0 < b) (h2 : b < 1073741824) : gFdv (.int a) (.int b) = some (.int (a / b)) := if_pos ⟨h, h2⟩
theorem ge_i {a b : Int} : gGe (.int a) (.int b) = some (.bool (decide (b ≤ a))) := rfl
theorem max_i {a b : Int} : gMax2 [.int a, .int b] = some (.int (if b > a then b else a)) := rfl
theorem int_i {a : Int} : gInt [.int a] = some (.int a) := rfl
theorem pow_18 : gPow (.int 10) (.int 18) = some (.int (10 ^ 18)) := by
  show (if (0 : Int) ≤ 18 ∧ (18 : Int) ≤ 1000000 ∧ (10 : Int).natAbs < 2 ^ 64 then some (PyData.int (10 ^ (18 : Int).toNat)) else none) = _
  rw [if_pos ⟨by decide, by decide, by decide⟩]
  rfl
end Cz
namespace Cz
open PySem PySem.Spec PyProof.Rows L2
section
variable {kn : Str} {S α β γ : Type}
/-- from the state s on: it comes to some a in some state, of which Q holds -/
def Wp (m : Mo S α) (s : S) (Q : α → S → Prop) : Prop := ∃ a s', m s = .ok a s' ∧ Q a s'
variable {m : Mo S α} {f : α → Mo S β} {s : S} {Q : α → S → Prop} {R : β → S → Prop}
theorem wp_bnd (h : Wp m s fun a s' => Wp (f a) s' R) : Wp (mBnd m f) s R := by
  obtain ⟨a, s1, e1, b, s2, e2, r⟩ := h
  refine ⟨b, s2, ?_, r⟩
  unfold mBnd
  rw [e1]
  exact e2
theorem wp_ret {a : α} (h : Q a s) : Wp (mRet a) s Q := ⟨a, s, rfl, h⟩
theorem wp_fin {m : Mo S (Fl Unit)} {Q : D → S → Prop} (h : Wp m s fun fl s' => match fl with | .nx _ => Q .none s' | .rt d => Q d s') : Wp (mFin m) s Q := by
  obtain ⟨fl, s1, e1, q⟩ := h
  cases fl with
  | nx a => exact ⟨.none, s1, by unfold mFin mBnd; rw [e1]; rfl, q⟩
  | rt d => exact ⟨d, s1, by unfold mFin mBnd; rw [e1]; rfl, q⟩
theorem wp_bndF {m : Mo S (Fl β)} {f : β → Mo S (Fl γ)} {R : Fl γ → S → Prop} (h : Wp m s fun fl s' => match fl with | .nx a => Wp (f a) s' R | .rt d => R (.rt d) s') : Wp (mBndF m f) s R := by
  obtain ⟨fl, s1, e1, q⟩ := h
  cases fl with
  | nx a =>
    obtain ⟨b, s2, e2, r⟩ := q
    exact ⟨b, s2, by unfold mBndF mBnd; rw [e1]; exact e2, r⟩
  | rt d => exact ⟨.rt d, s1, by unfold mBndF mBnd; rw [e1]; rfl, q⟩
variable {s : Dk kn}
theorem wp_M {Q : D → Dk kn → Prop} (h : Q (.int s.mixed) s) : Wp mDkM s Q := ⟨_, s, rfl, h⟩
theorem wp_D {Q : D → Dk kn → Prop} (h : Q (.int s.draws) s) : Wp mDkD s Q := ⟨_, s, rfl, h⟩
theorem wp_Ne {Q : Bool → Dk kn → Prop} (h : Q (!s.left.isEmpty) s) : Wp mDkNe s Q := ⟨_, s, rfl, h⟩
/-- deck['draws'] = deck['draws'] + 1 -/
theorem wp_set {k : Mo (Dk kn) (Fl β)} {R : Fl β → Dk kn → Prop} (h : Wp k { s with draws := s.draws + 1 } R) : Wp (mDkSet (mBnd mDkD fun x => mBnd (mRet (.int 1)) fun y => mOf (gAdd x y)) k) s R := h
theorem wp_pop {l : List Int} {z a b : Int} {Q : D → Dk kn → Prop} (h : Q (.int z) ⟨l, a, b⟩) : Wp mPop ⟨l ++ [z], a, b⟩ Q := by
  refine ⟨.int z, ⟨l, a, b⟩, ?_, h⟩
  unfold mPop
  simp
theorem wp_app {z : Int} {Q : D → Dk kn → Prop} (hl : s.left.length < 16777216) (h : Q .none { s with left := s.left ++ [z] }) : Wp (mDkApp (mRet (.int z))) s Q := by
  refine ⟨.none, { s with left := s.left ++ [z] }, ?_, h⟩
  show (if s.left.length < sizeLine then _ else _) = _
  rw [if_pos (show s.left.length < sizeLine from hl)]
end
end Cz
namespace Cz
open PySem
theorem wp_of {S α : Type} {o : Option α} {a : α} {s : S} {Q : α → S → Prop} (h : o = some a) (q : Q a s) : Wp (mOf o) s Q := ⟨a, s, by rw [h]; rfl, q⟩
end Cz
namespace Cz
open PySem
theorem wp_all1 {S : Type} {d : D} {s : S} {Q : List D → S → Prop} (h : Q [d] s) : Wp (mAll [mRet d]) s Q := ⟨_, s, rfl, h⟩
end Cz
namespace Cz
open PySem PySem.Spec PyProof.Rows L2
theorem al_compn {kn : Str} {n k m : Nat} {f : D → Mo (Dk kn) (Option D)} {c : Nat → D} (hn : n ≤ 1000) (h : ∀ j, j < n → Al k (f (c j)) fun o => ∃ d, o = some d ∧ ∃ v, v < m ∧ d = dn v) : Al (k * n) (mComp f ((List.range n).map c) []) fun l => ∃ g : Nat → Nat, l = ((List.range n).map fun j => dn (g j)) ∧ ∀ j, j < n → g j < m := by
  refine (al_compr (P := fun _ d => ∃ v, v < m ∧ d = dn v) hn h).mono (Nat.le_refl _) fun l ⟨g, e, p⟩ => ?_
  refine ⟨fun j => if h : j < n then Classical.choose (p j h) else 0, ?_, fun j hj => ?_⟩
  · rw [e]
    refine tab_congr fun j hj => ?_
    dsimp only
    rw [dif_pos hj]
    exact (Classical.choose_spec (p j hj)).2
  · dsimp only
    rw [dif_pos hj]
    exact (Classical.choose_spec (p j hj)).1
end Cz
set_option linter.all false
/-! Meetings one after another; how many exchanges lead from an order to a rearrangement of it. -/
namespace Rl
section
variable {n : Nat} {L : Nat → Nat → Nat}
/-- the row behind a meeting at p -/
def mt (n : Nat) (L : Nat → Nat → Nat) (r : List Nat) (p : Nat) : List Nat := r.take p ++ L (r.getD p 0) (r.getD (p + 1) 0) :: Rt n L (r.getD (p + 1) 0) (r.getD p 0) :: r.drop (p + 2)
/-- two neighbours of a list exchanged -/
def exq (l : List Nat) (p : Nat) : List Nat := l.take p ++ l.getD (p + 1) 0 :: l.getD p 0 :: l.drop (p + 2)
theorem at_p {r : List Nat} {p : Nat} (h : p + 1 < r.length) : ∃ (a b : List Nat) (x y : Nat), r = a ++ x :: y :: b ∧ a.length = p := by
  refine ⟨r.take p, r.drop (p + 2), r[p], r[p + 1], ?_, by simp; omega⟩
  rw [← List.drop_eq_getElem_cons h, ← List.drop_eq_getElem_cons (by omega), List.take_append_drop]
theorem gd_0 {a b : List Nat} {x y : Nat} : (a ++ x :: y :: b).getD a.length 0 = x := by simp [List.getD_eq_getElem?_getD]
theorem gd_1 {a b : List Nat} {x y : Nat} : (a ++ x :: y :: b).getD (a.length + 1) 0 = y := by simp [List.getD_eq_getElem?_getD, List.getElem?_append_right]
theorem tk_0 {a b : List Nat} {x y : Nat} : (a ++ x :: y :: b).take a.length = a := List.take_left
theorem dr_2 {a b : List Nat} {x y : Nat} : (a ++ x :: y :: b).drop (a.length + 2) = b := by
  rw [List.drop_append]
  simp
theorem mt_at {a b : List Nat} {x y : Nat} : mt n L (a ++ x :: y :: b) a.length = a ++ L x y :: Rt n L y x :: b := by
  unfold mt
  rw [gd_0, gd_1, tk_0, dr_2]
theorem exq_at {a b : List Nat} {x y : Nat} : exq (a ++ x :: y :: b) a.length = a ++ y :: x :: b := by
  unfold exq
  rw [gd_0, gd_1, tk_0, dr_2]
theorem parts {a b : List Nat} {x y : Nat} (hr : ∀ z ∈ a ++ x :: y :: b, z < n) : (∀ z ∈ a, z < n) ∧ (∀ z ∈ b, z < n) ∧ x < n ∧ y < n := ⟨fun z hz => hr z (by simp [hz]), fun z hz => hr z (by simp [hz]), hr x (by simp), hr y (by simp)⟩
theorem parts_of {a b : List Nat} {x y : Nat} (ha : ∀ z ∈ a, z < n) (hb : ∀ z ∈ b, z < n) (hx : x < n) (hy : y < n) : ∀ z ∈ a ++ x :: y :: b, z < n := fun z hz => by
  simp only [List.mem_append, List.mem_cons] at hz
  rcases hz with z1 | rfl | rfl | z1
  · exact ha z z1
  · exact hx
  · exact hy
  · exact hb z z1
theorem mt_len {r : List Nat} {p : Nat} (h : p + 1 < r.length) : (mt n L r p).length = r.length := by
  obtain ⟨a, b, x, y, rfl, rfl⟩ := at_p h
  rw [mt_at]
  simp
theorem mt_lt (h : Ru n L) {r : List Nat} {p : Nat} (hp : p + 1 < r.length) (hr : ∀ z ∈ r, z < n) : ∀ z ∈ mt n L r p, z < n := by
  obtain ⟨a, b, x, y, rfl, rfl⟩ := at_p hp
  obtain ⟨ha, hb, hx, hy⟩ := parts hr
  rw [mt_at]
  exact parts_of ha hb (h.lt hx hy) (h.rlt hx hy)
theorem mt_mt (h : Ru n L) {r : List Nat} {p : Nat} (hp : p + 1 < r.length) (hr : ∀ z ∈ r, z < n) : mt n L (mt n L r p) p = r := by
  obtain ⟨a, b, x, y, rfl, rfl⟩ := at_p hp
  obtain ⟨ha, hb, hx, hy⟩ := parts hr
  rw [mt_at, mt_at, h.uv hx hy, h.back hx hy]
/-- the order behind a meeting -/
theorem mt_order (h : Ru n L) {r : List Nat} {p : Nat} (hp : p + 1 < r.length) (hr : ∀ z ∈ r, z < n) : rdO L (fun i => i) (mt n L r p) = exq (rdO L (fun i => i) r) p := by
  obtain ⟨a, b, x, y, rfl, rfl⟩ := at_p hp
  obtain ⟨ha, hb, hx, hy⟩ := parts hr
  obtain ⟨c, d, q, e1, e2⟩ := met_order h (t := fun i => i) ha hb hx hy
  rw [mt_at, e1, e2]
  have := exq_at (a := rdO L (fun i => i) a) (b := q) (x := c) (y := d)
  rw [rdO_len] at this
  exact this.symm
theorem rdT_congr (h : Ru n L) : ∀ (r : List Nat) {t u : Nat → Nat}, (∀ x ∈ r, x < n) → (∀ i, i < n → t i = u i) → ∀ i, i < n → rdT L t r i = rdT L u r i
  | [], t, u, _, e => e
  | x :: r, t, u, hr, e => rdT_congr h r (fun z hz => hr z (List.mem_cons_of_mem _ hz)) fun i hi => e _ (h.lt (hr x List.mem_cons_self) hi)
/-- the turn behind a meeting -/
theorem mt_turn (h : Ru n L) {r : List Nat} {p : Nat} (hp : p + 1 < r.length) (hr : ∀ z ∈ r, z < n) : ∀ i, i < n → rdT L (fun i => i) (mt n L r p) i = rdT L (fun i => i) r i := by
  obtain ⟨a, b, x, y, rfl, rfl⟩ := at_p hp
  obtain ⟨ha, hb, hx, hy⟩ := parts hr
  intro i hi
  rw [mt_at, rdT_app, rdT_app]
  exact rdT_congr h b hb (fun j hj => by
    show rdT L (fun i => i) a (L (L x y) (L (Rt n L y x) j)) = rdT L (fun i => i) a (L x (L y j))
    rw [← h.y x hx y hy j hj]) i hi
theorem exq_perm {l : List Nat} {p : Nat} (hp : p + 1 < l.length) : (exq l p).Perm l := by
  obtain ⟨a, b, x, y, rfl, rfl⟩ := at_p hp
  rw [exq_at]
  exact List.Perm.append_left _ (List.Perm.swap _ _ _)
theorem exq_len {l : List Nat} {p : Nat} (hp : p + 1 < l.length) : (exq l p).length = l.length := (exq_perm hp).length_eq
/-! ### several meetings -/
def mts (n : Nat) (L : Nat → Nat → Nat) (r : List Nat) (ps : List Nat) : List Nat := ps.foldl (mt n L) r
theorem mts_snoc {r ps : List Nat} {p : Nat} : mts n L r (ps ++ [p]) = mt n L (mts n L r ps) p := by simp [mts]
theorem mts_ok (h : Ru n L) : ∀ (ps r : List Nat), (∀ z ∈ r, z < n) → (∀ p ∈ ps, p + 1 < r.length) → (mts n L r ps).length = r.length ∧ (∀ z ∈ mts n L r ps, z < n) ∧ (rdO L (fun i => i) (mts n L r ps)).Perm (rdO L (fun i => i) r) ∧ ∀ i, i < n → rdT L (fun i => i) (mts n L r ps) i = rdT L (fun i => i) r i
  | [], r, hr, _ => ⟨rfl, hr, List.Perm.refl _, fun _ _ => rfl⟩
  | p :: ps, r, hr, hp => by
    have h1 := hp p List.mem_cons_self
    have e1 := mt_len (n := n) (L := L) h1
    obtain ⟨a1, a2, a3, a4⟩ := mts_ok h ps (mt n L r p) (mt_lt h h1 hr) fun q hq => by rw [e1]; exact hp q (List.mem_cons_of_mem _ hq)
    refine ⟨a1.trans e1, a2, a3.trans ?_, fun i hi => (a4 i hi).trans (mt_turn h h1 hr i hi)⟩
    rw [mt_order h h1 hr]
    exact exq_perm (by rw [rdO_len]; exact h1)
/-- the same places, the last one first, lead back -/
theorem mts_back (h : Ru n L) : ∀ (ps r : List Nat), (∀ z ∈ r, z < n) → (∀ p ∈ ps, p + 1 < r.length) → mts n L (mts n L r ps) ps.reverse = r
  | [], r, _, _ => rfl
  | p :: ps, r, hr, hp => by
    have h1 := hp p List.mem_cons_self
    have e1 := mt_len (n := n) (L := L) h1
    rw [List.reverse_cons, mts_snoc]
    show mt n L (mts n L (mts n L (mt n L r p) ps) ps.reverse) p = r
    rw [mts_back h ps (mt n L r p) (mt_lt h h1 hr) fun q hq => by rw [e1]; exact hp q (List.mem_cons_of_mem _ hq)]
    exact mt_mt h h1 hr
end
/-! ### how many exchanges -/
/-- to put what is wanted first at the front, then the rest -/
def sel : List Nat → List Nat → Nat
  | _, [] => 0
  | o, y :: w => o.idxOf y + sel (o.erase y) w
theorem sel_comm : ∀ (k : Nat) (o w : List Nat), o.length ≤ k → o.Perm w → sel o w = sel w o := by
  intro k
  induction k using Nat.strongRecOn with
  | ind k ih =>
    intro o w hk hp
    match o, w, hp with
    | [], [], _ => rfl
    | [], _ :: _, hp => exact absurd hp.length_eq (by simp)
    | _ :: _, [], hp => exact absurd hp.length_eq (by simp)
    | x :: o, y :: w, hp =>
      by_cases e : x = y
      · subst e
        have hp' : o.Perm w := hp.cons_inv
        show (x :: o).idxOf x + sel ((x :: o).erase x) w = (x :: w).idxOf x + sel ((x :: w).erase x) o
        simp only [List.idxOf_cons_self, List.erase_cons_head]
        have : o.length < k := by simp at hk; omega
        rw [ih o.length this o w (Nat.le_refl _) hp']
      · have e' : y ≠ x := fun z => e z.symm
        have hxw : x ∈ w := by
          have := hp.mem_iff.mp (List.mem_cons_self (a := x) (l := o))
          simpa [e] using this
        have hyo : y ∈ o := by
          have := hp.mem_iff.mpr (List.mem_cons_self (a := y) (l := w))
          simpa [e'] using this
        have q1 : (x :: o).erase y = x :: o.erase y := by rw [List.erase_cons_tail]; simpa using e
        have q2 : (y :: w).erase x = y :: w.erase x := by rw [List.erase_cons_tail]; simpa using e'
        have i1 : (x :: o).idxOf y = o.idxOf y + 1 := by rw [List.idxOf_cons, show (x == y) = false by simpa using e]; rfl
        have i2 : (y :: w).idxOf x = w.idxOf x + 1 := by rw [List.idxOf_cons, show (y == x) = false by simpa using e']; rfl
        have p1 : (x :: o.erase y).Perm w := by
          have := hp.erase y
          rw [q1] at this
          simpa using this
        have p2 : (y :: w.erase x).Perm o := by
          have := hp.erase x
          rw [q2] at this
          simpa using this.symm
        have p3 : (o.erase y).Perm (w.erase x) := by
          have := p1.erase x
          simpa using this
        have l1 : (o.erase y).length + 1 = o.length := by rw [List.length_erase_of_mem hyo]; have := List.length_pos_of_mem hyo; omega
        have k1 : o.length + 1 ≤ k := by simpa using hk
        show (x :: o).idxOf y + sel ((x :: o).erase y) w = (y :: w).idxOf x + sel ((y :: w).erase x) o
        rw [q1, q2, i1, i2]
        rw [ih o.length (by omega) (x :: o.erase y) w (by simp; omega) p1]
        have l2 : (w.erase x).length + 1 = o.length := by rw [← p3.length_eq]; exact l1
        rw [ih o.length (by omega) (y :: w.erase x) o (by simp; omega) p2]
        show o.idxOf y + 1 + (w.idxOf x + sel (w.erase x) (o.erase y)) = w.idxOf x + 1 + (o.idxOf y + sel (o.erase y) (w.erase x))
        rw [ih (o.erase y).length (by omega) (o.erase y) (w.erase x) (Nat.le_refl _) p3]
        omega
/-- pairs in opposite orders -/
def inv : List Nat → Nat
  | [] => 0
  | a :: l => (l.countP fun z => decide (z < a)) + inv l
theorem inv_snoc : ∀ (l : List Nat) (x : Nat), inv (l ++ [x]) = inv l + l.countP fun z => decide (x < z)
  | [], x => by simp [inv]
  | a :: l, x => by
    show (l ++ [x]).countP _ + inv (l ++ [x]) = _
    rw [inv_snoc l x, List.countP_append, List.countP_cons]
    simp only [List.countP_cons, List.countP_nil, inv]
    omega
theorem inv_succ : ∀ l : List Nat, inv (l.map (· + 1)) = inv l
  | [] => rfl
  | a :: l => by
    show (l.map (· + 1)).countP _ + inv (l.map (· + 1)) = _
    rw [inv_succ l, List.countP_map]
    show _ = l.countP _ + inv l
    congr 2
    funext z
    simp
theorem inv_zero : ∀ (j : Nat) (l : List Nat), j ≤ l.length → inv ((l.map (· + 1)).insertIdx j 0) = j + inv l
  | 0, l, _ => by
    rw [List.insertIdx_zero]
    show (l.map (· + 1)).countP (fun z => decide (z < 0)) + inv (l.map (· + 1)) = _
    rw [inv_succ, List.countP_eq_zero.mpr fun z _ => by simp]
  | j + 1, [], h => by simp at h
  | j + 1, a :: l, h => by
    rw [List.map_cons, List.insertIdx_succ_cons]
    show ((l.map (· + 1)).insertIdx j 0).countP (fun z => decide (z < a + 1)) + inv ((l.map (· + 1)).insertIdx j 0) = _
    rw [inv_zero j l (by simpa using h)]
    have hp : ((l.map (· + 1)).insertIdx j 0).Perm (0 :: l.map (· + 1)) := List.perm_insertIdx 0 _ (by simpa using h)
    rw [hp.countP_eq, List.countP_cons, List.countP_map]
    show _ = j + 1 + (l.countP _ + inv l)
    have e : (List.countP ((fun z => decide (z < a + 1)) ∘ fun x => x + 1) l) = l.countP fun z => decide (z < a) := by
      congr 1
      funext z
      simp
    rw [e]
    simp
    omega
/-! ### aims: to which place each item goes -/
def aimsR : List Nat → List Nat → List Nat
  | _, [] => []
  | o, y :: w => ((aimsR (o.erase y) w).map (· + 1)).insertIdx (o.idxOf y) 0
theorem aimsR_len : ∀ (w o : List Nat), o.Perm w → (aimsR o w).length = o.length
  | [], o, h => by rw [List.perm_nil.mp h]; rfl
  | y :: w, o, h => by
    have hy : y ∈ o := h.mem_iff.mpr List.mem_cons_self
    have h' : (o.erase y).Perm w := by simpa using h.erase y
    have ih := aimsR_len w (o.erase y) h'
    have l1 : (o.erase y).length + 1 = o.length := by rw [List.length_erase_of_mem hy]; have := List.length_pos_of_mem hy; omega
    have := List.idxOf_lt_length_iff.mpr hy
    show (((aimsR (o.erase y) w).map (· + 1)).insertIdx (o.idxOf y) 0).length = o.length
    rw [List.length_insertIdx_of_le_length (by simp; omega)]
    simp
    omega
theorem inv_aims : ∀ (w o : List Nat), o.Perm w → inv (aimsR o w) = sel o w
  | [], o, h => by rw [List.perm_nil.mp h]; rfl
  | y :: w, o, h => by
    have hy : y ∈ o := h.mem_iff.mpr List.mem_cons_self
    have h' : (o.erase y).Perm w := by simpa using h.erase y
    have ih := inv_aims w (o.erase y) h'
    have l := aimsR_len w (o.erase y) h'
    have l1 : (o.erase y).length + 1 = o.length := by rw [List.length_erase_of_mem hy]; have := List.length_pos_of_mem hy; omega
    have := List.idxOf_lt_length_iff.mpr hy
    show inv (((aimsR (o.erase y) w).map (· + 1)).insertIdx (o.idxOf y) 0) = o.idxOf y + sel (o.erase y) w
    rw [inv_zero _ _ (by omega), ih]
end Rl
set_option linter.all false
/-! Aims as the program finds them; exchanging neighbours until all is in order, and how often. -/
namespace Rl
/-- the places of z in w -/
def posn (z : Nat) : List Nat → List Nat
  | [] => []
  | y :: w => if y = z then 0 :: (posn z w).map (· + 1) else (posn z w).map (· + 1)
theorem posn_len (z : Nat) : ∀ w : List Nat, (posn z w).length = w.count z
  | [] => rfl
  | y :: w => by
    unfold posn
    by_cases e : y = z
    · rw [if_pos e, List.length_cons, List.length_map, posn_len z w, e, List.count_cons_self]
    · rw [if_neg e, List.length_map, posn_len z w, List.count_cons_of_ne e]
def pf (w : List Nat) (z c : Nat) : Nat := (posn z w).getD c 0
theorem pf_0 {w : List Nat} {y : Nat} : pf (y :: w) y 0 = 0 := by
  unfold pf posn
  rw [if_pos rfl]
  rfl
theorem pf_s {w : List Nat} {y k : Nat} (h : k < w.count y) : pf (y :: w) y (k + 1) = pf w y k + 1 := by
  have l := posn_len y w
  unfold pf
  conv => lhs; unfold posn
  rw [if_pos rfl, List.getD_cons_succ, List.getD_eq_getElem?_getD, List.getD_eq_getElem?_getD, List.getElem?_map, List.getElem?_eq_getElem (by omega)]
  rfl
theorem pf_n {w : List Nat} {y z k : Nat} (e : ¬ y = z) (h : k < w.count z) : pf (y :: w) z k = pf w z k + 1 := by
  have l := posn_len z w
  unfold pf
  conv => lhs; unfold posn
  rw [if_neg e, List.getD_eq_getElem?_getD, List.getD_eq_getElem?_getD, List.getElem?_map, List.getElem?_eq_getElem (by omega)]
  rfl
/-- the aims, item by item; c: how many of each there were ahead -/
def aimF (w : List Nat) : (Nat → Nat) → List Nat → List Nat
  | _, [] => []
  | c, z :: l => pf w z (c z) :: aimF w (fun x => c x + if x = z then 1 else 0) l
theorem aimF_app (w : List Nat) : ∀ (a b : List Nat) (c : Nat → Nat), aimF w c (a ++ b) = aimF w c a ++ aimF w (fun x => c x + a.count x) b
  | [], b, c => by simp [aimF]
  | z :: a, b, c => by
    show pf w z (c z) :: aimF w _ (a ++ b) = pf w z (c z) :: (aimF w _ a ++ _)
    rw [aimF_app w a b]
    congr 3
    funext x
    rw [List.count_cons]
    by_cases e : x = z
    · subst e; simp; omega
    · have e' : ¬ z = x := fun q => e q.symm
      simp [e, e']
theorem aimF_len (w : List Nat) : ∀ (l : List Nat) (c : Nat → Nat), (aimF w c l).length = l.length
  | [], _ => rfl
  | z :: l, c => by simp [aimF, aimF_len w l]
theorem aimF_lift {w : List Nat} {y : Nat} : ∀ (l : List Nat) (c c' : Nat → Nat), (∀ z ∈ l, c z = c' z + if z = y then 1 else 0) → (∀ z, c' z + l.count z ≤ w.count z) → aimF (y :: w) c l = (aimF w c' l).map (· + 1)
  | [], c, c', _, _ => rfl
  | z :: l, c, c', h, hb => by
    have h0 := h z List.mem_cons_self
    have b0 := hb z
    rw [List.count_cons_self] at b0
    show pf (y :: w) z (c z) :: aimF (y :: w) _ l = (pf w z (c' z) + 1) :: (aimF w _ l).map (· + 1)
    have e1 : pf (y :: w) z (c z) = pf w z (c' z) + 1 := by
      by_cases e : z = y
      · rw [h0, if_pos e]
        subst e
        exact pf_s (by omega)
      · rw [h0, if_neg e]
        exact pf_n (fun q => e q.symm) (by omega)
    rw [e1, aimF_lift l _ (fun x => c' x + if x = z then 1 else 0) (fun x hx => ?_) fun x => ?_]
    · rw [h x (List.mem_cons_of_mem _ hx)]
      omega
    · have := hb x
      rw [List.count_cons] at this
      by_cases e : x = z
      · subst e; simp at this ⊢; omega
      · have e' : (z == x) = false := by simpa using fun q => e q.symm
        simp [e, e'] at this ⊢
        omega
theorem first_at {o : List Nat} {y : Nat} (h : y ∈ o) : ∃ a b, o = a ++ y :: b ∧ y ∉ a := by
  induction o with
  | nil => cases h
  | cons x o ih =>
    by_cases e : x = y
    · exact ⟨[], o, by rw [e]; rfl, by simp⟩
    · have e' : ¬ y = x := fun q => e q.symm
      obtain ⟨a, b, e1, e2⟩ := ih ((List.mem_cons.mp h).resolve_left e')
      exact ⟨x :: a, b, by rw [e1]; rfl, fun z => (List.mem_cons.mp z).elim e' e2⟩
theorem idx_first {a b : List Nat} {y : Nat} (h : y ∉ a) : (a ++ y :: b).idxOf y = a.length := by
  rw [List.idxOf_append, if_neg h]
  simp
theorem erase_first {a b : List Nat} {y : Nat} (h : y ∉ a) : (a ++ y :: b).erase y = a ++ b := by
  rw [List.erase_append_right _ h, List.erase_cons_head]
theorem ins_at {α : Type} : ∀ (a b : List α) (x : α), (a ++ b).insertIdx a.length x = a ++ x :: b
  | [], b, x => by simp
  | z :: a, b, x => by
    rw [List.cons_append, List.length_cons, List.insertIdx_succ_cons, ins_at a b x]
    rfl
theorem aims_eq : ∀ (w o : List Nat), o.Perm w → aimF w (fun _ => 0) o = aimsR o w
  | [], o, h => by rw [List.perm_nil.mp h]; rfl
  | y :: w, o, h => by
    have hy : y ∈ o := h.mem_iff.mpr List.mem_cons_self
    obtain ⟨a, b, rfl, hn⟩ := first_at hy
    have h' : (a ++ b).Perm w := by have := h.erase y; rw [erase_first hn] at this; simpa using this
    have hc : ∀ z, a.count z + b.count z = w.count z := fun z => by have := h'.count_eq z; rw [List.count_append] at this; exact this
    show _ = ((aimsR ((a ++ y :: b).erase y) w).map (· + 1)).insertIdx ((a ++ y :: b).idxOf y) 0
    rw [erase_first hn, idx_first hn, ← aims_eq w (a ++ b) h', aimF_app, aimF_app]
    have a0 : a.count y = 0 := List.count_eq_zero.mpr hn
    show aimF (y :: w) (fun _ => 0) a ++ pf (y :: w) y (0 + a.count y) :: aimF (y :: w) (fun x => 0 + a.count x + if x = y then 1 else 0) b = _
    rw [a0, pf_0, aimF_lift a (fun _ => 0) (fun _ => 0) (fun z hz => by
      have e : ¬ z = y := fun q => hn (q ▸ hz)
      rw [if_neg e]) fun z => by have := hc z; omega]
    rw [aimF_lift b (fun x => 0 + a.count x + if x = y then 1 else 0) (fun x => 0 + a.count x) (fun _ _ => rfl) fun z => by have := hc z; omega]
    rw [List.map_append]
    have la : ((aimF w (fun _ => 0) a).map (· + 1)).length = a.length := by rw [List.length_map, aimF_len]
    rw [← la, ins_at]
/-- item by item, by places -/
theorem aimF_range (w : List Nat) : ∀ (o : List Nat) (c : Nat → Nat), aimF w c o = (List.range o.length).map fun i => pf w (o.getD i 0) (c (o.getD i 0) + (o.take i).count (o.getD i 0))
  | [], c => rfl
  | z :: o, c => by
    rw [List.length_cons, List.range_succ_eq_map, List.map_cons, List.map_map]
    show pf w z (c z) :: aimF w _ o = _
    rw [aimF_range w o]
    congr 1
    refine List.map_congr_left fun i hi => ?_
    show _ = pf w (o.getD i 0) (c (o.getD i 0) + (z :: o.take i).count (o.getD i 0))
    rw [List.count_cons]
    by_cases e : o.getD i 0 = z
    · rw [e, if_pos rfl]
      have : (z == z) = true := by simp
      rw [this]
      show pf w z (c z + 1 + _) = pf w z (c z + (_ + 1))
      congr 1
      omega
    · have e' : (z == o.getD i 0) = false := by simpa using fun q => e (Eq.symm q)
      rw [if_neg e, e']
      simp
/-! ### an item into its place among those that are in order -/
/-- among p (in order), x stands ahead of those that are greater -/
def insP (p : List Nat) (x : Nat) : List Nat := (p.filter fun z => decide (z ≤ x)) ++ x :: p.filter fun z => decide (x < z)
theorem insP_perm (p : List Nat) (x : Nat) : (insP p x).Perm (p ++ [x]) := by
  unfold insP
  have h : ((p.filter fun z => decide (z ≤ x)) ++ p.filter fun z => decide (x < z)).Perm p := by
    have := List.filter_append_perm (fun z => decide (z ≤ x)) p
    have e : (p.filter fun z => !decide (z ≤ x)) = p.filter fun z => decide (x < z) := by
      congr 1
      funext z
      rw [← decide_not]
      exact decide_eq_decide.mpr (by omega)
    rw [e] at this
    exact this
  refine List.perm_middle.trans ?_
  exact (List.Perm.cons x h).trans (List.perm_append_comm (l₁ := [x]) (l₂ := p))
theorem insP_sorted {p : List Nat} (h : p.Pairwise (· ≤ ·)) (x : Nat) : (insP p x).Pairwise (· ≤ ·) := by
  unfold insP
  refine List.pairwise_append.mpr ⟨h.filter _, List.pairwise_cons.mpr ⟨fun z hz => ?_, h.filter _⟩, fun a ha b hb => ?_⟩
  · have := (List.mem_filter.mp hz).2
    simp at this
    omega
  · have ha := (List.mem_filter.mp ha).2
    simp at ha
    rcases List.mem_cons.mp hb with rfl | hb
    · exact ha
    · have hb := (List.mem_filter.mp hb).2
      simp at hb
      omega
/-- one more at the end -/
theorem insP_gt {p : List Nat} {q x : Nat} (h : x < q) : insP (p ++ [q]) x = insP p x ++ [q] := by
  unfold insP
  rw [List.filter_append, List.filter_append]
  have e1 : ([q].filter fun z => decide (z ≤ x)) = [] := by simp; omega
  have e2 : ([q].filter fun z => decide (x < z)) = [q] := by simp [h]
  rw [e1, e2]
  simp
theorem insP_le {p : List Nat} {x : Nat} (h : ∀ z ∈ p, z ≤ x) : insP p x = p ++ [x] := by
  unfold insP
  rw [List.filter_eq_self.mpr fun z hz => by simpa using h z hz, List.filter_eq_nil_iff.mpr fun z hz => by simpa using h z hz]
/-- so many exchanges -/
def swN (p : List Nat) (x : Nat) : Nat := p.countP fun z => decide (x < z)
theorem swN_gt {p : List Nat} {q x : Nat} (h : x < q) : swN (p ++ [q]) x = swN p x + 1 := by
  unfold swN
  rw [List.countP_append]
  simp [h]
theorem swN_le {p : List Nat} {x : Nat} (h : ∀ z ∈ p, z ≤ x) : swN p x = 0 := List.countP_eq_zero.mpr fun z hz => by simpa using h z hz
theorem inv_take {l : List Nat} {e : Nat} (h : e < l.length) : inv (l.take (e + 1)) = inv (l.take e) + swN (l.take e) l[e] := by
  rw [List.take_succ_eq_append_getElem h, inv_snoc]
  rfl
theorem swN_perm {p q : List Nat} (h : p.Perm q) (x : Nat) : swN p x = swN q x := h.countP_eq _
end Rl
namespace Rl
theorem inv_le : ∀ l : List Nat, inv l ≤ l.length * l.length
  | [] => Nat.le_refl _
  | a :: l => by
    have h := inv_le l
    have c : (l.countP fun z => decide (z < a)) ≤ l.length := List.countP_le_length
    show (l.countP fun z => decide (z < a)) + inv l ≤ (l.length + 1) * (l.length + 1)
    rw [Nat.mul_add, Nat.add_mul]
    omega
theorem set_at (p r : List Nat) (x y : Nat) : (p ++ x :: r).set p.length y = p ++ y :: r := by
  rw [List.set_append_right _ _ (Nat.le_refl _), Nat.sub_self]
  rfl
theorem set_at1 (p r : List Nat) (x y z : Nat) : (p ++ x :: y :: r).set (p.length + 1) z = p ++ x :: z :: r := by
  rw [List.set_append_right _ _ (by omega), show p.length + 1 - p.length = 1 by omega]
  rfl
end Rl
set_option Elab.async false
set_option linter.all false
set_option maxRecDepth 100000
set_option maxHeartbeats 2000000
/-! What comes to something, step by step (Ok); more on data. -/
namespace Cz
open PySem PySem.Spec PyProof.Rows L2
section
variable {S α β γ : Type}
/-- m comes to something that P says, whatever the state, and leaves the state -/
def Ok (m : Mo S α) (P : α → Prop) : Prop := ∃ a, m = mRet a ∧ P a
theorem ok_ret {a : α} {P : α → Prop} (h : P a) : Ok (mRet a : Mo S α) P := ⟨a, rfl, h⟩
theorem Ok.mono {m : Mo S α} {P P' : α → Prop} (h : Ok m P) (w : ∀ a, P a → P' a) : Ok m P' := let ⟨a, e, p⟩ := h; ⟨a, e, w a p⟩
theorem ok_bnd {m : Mo S α} {f : α → Mo S β} {P : α → Prop} {Q : β → Prop} (h : Ok m P) (g : ∀ a, P a → Ok (f a) Q) : Ok (mBnd m f) Q := by
  obtain ⟨a, rfl, p⟩ := h
  exact g a p
theorem ok_bndF {m : Mo S (Fl β)} {f : β → Mo S (Fl γ)} {P : β → Prop} {R : D → Prop} {Q : Fl γ → Prop} (h : Ok m (FlP P R)) (g : ∀ a, P a → Ok (f a) Q) (r : ∀ d, R d → Q (.rt d)) : Ok (mBndF m f) Q := by
  obtain ⟨fl, rfl, p⟩ := h
  cases fl with
  | nx a => exact g a p
  | rt d => exact ⟨.rt d, rfl, r d p⟩
theorem ok_fin {m : Mo S (Fl Unit)} {R : D → Prop} (h : Ok m (FlP (fun _ => False) R)) : Ok (mFin m) R := by
  obtain ⟨fl, rfl, p⟩ := h
  cases fl with
  | nx a => exact p.elim
  | rt d => exact ⟨d, rfl, p⟩
theorem ok_for {I : Nat → β → Prop} {R : D → Prop} {f : D → β → Mo S (Fl β)} : ∀ {xs : List D} {i : Nat} {a : β}, I i a → (∀ j (h : j < xs.length) b, I (i + j) b → Ok (f xs[j] b) (FlP (I (i + j + 1)) R)) → Ok (mFor xs a f) (FlP (I (i + xs.length)) R)
  | [], i, a, h, _ => ⟨.nx a, rfl, h⟩
  | x :: xs, i, a, h, g => by
    have g0 := g 0 (by simp) a h
    rw [List.getElem_cons_zero] at g0
    refine ok_bndF g0 (fun b hb => ?_) fun d hd => hd
    have := ok_for (I := I) (R := R) (f := f) (xs := xs) (i := i + 1) (a := b) hb fun j hj c hc => by
      have q := g (j + 1) (by simpa using hj) c (by rw [show i + (j + 1) = i + 1 + j by omega]; exact hc)
      rw [List.getElem_cons_succ, show i + (j + 1) + 1 = i + 1 + j + 1 by omega] at q
      exact q
    rw [show i + 1 + xs.length = i + (x :: xs).length by simp; omega] at this
    exact this
theorem ok_range {n : Nat} {I : Nat → β → Prop} {R : D → Prop} {f : D → β → Mo S (Fl β)} {c : Nat → D} {a : β} (h : I 0 a) (g : ∀ j, j < n → ∀ b, I j b → Ok (f (c j) b) (FlP (I (j + 1)) R)) : Ok (mFor ((List.range n).map c) a f) (FlP (I n) R) := by
  have := ok_for (I := I) (R := R) (f := f) (xs := (List.range n).map c) (i := 0) (a := a) h fun j hj b hb => by
    rw [List.getElem_map, List.getElem_range]
    rw [Nat.zero_add] at hb ⊢
    exact g j (by simpa using hj) b hb
  simpa using this
/-- while: a measure that falls, below the number of turns -/
theorem ok_while {I : β → Prop} {μ : β → Nat} {Q : β → Prop} {t : β → Mo S Bool} {f : β → Mo S (Fl β)} (ht : ∀ a, I a → Ok (t a) fun k => if k = true then Ok (f a) (FlP (fun a' => I a' ∧ μ a' < μ a) fun _ => False) else Q a) : ∀ (n : Nat) (a : β), I a → μ a < n → Ok (mWhile n t f a) (FlP Q fun _ => False)
  | 0, a, _, h => absurd h (Nat.not_lt_zero _)
  | n + 1, a, hI, h => by
    refine ok_bnd (ht a hI) fun k hk => ?_
    cases k with
    | true =>
      rw [if_pos rfl] at hk ⊢
      exact ok_bndF hk (fun a' h' => ok_while ht n a' h'.1 (by omega)) fun d hd => hd.elim
    | false =>
      rw [if_neg Bool.false_ne_true] at hk ⊢
      exact ok_ret hk
end
section
variable {kn : Str} {α β : Type}
theorem Ok.al {m : Mo (Dk kn) α} {P : α → Prop} (h : Ok m P) : Al 0 m P := by
  obtain ⟨a, rfl, p⟩ := h
  exact al_ret p
end
/-! ### data -/
theorem setI_n {l : List Nat} {i v : Nat} (h : i < l.length) : gSetI (l.map dn) (dn i) (dn v) = some ((l.set i v).map dn) := by
  unfold gSetI dn
  dsimp only
  have e : L2.ixN (l.map fun i : Nat => PyData.int (i : Int)).length (i : Int) = some i := by
    unfold L2.ixN
    rw [List.length_map, if_pos (by omega), if_pos (by omega)]
    simp
  have e' : L2.ixN (l.map dn).length (i : Int) = some i := e
  show (match L2.ixN (l.map dn).length (i : Int) with | some j => some ((l.map dn).set j (dn v)) | none => none) = _
  rw [e']
  show some ((l.map dn).set i (dn v)) = some ((l.set i v).map dn)
  rw [List.map_set]
theorem isub_n {a b : Nat} (h : b ≤ a) : gISub (dn a) (dn b) = some (dn (a - b)) := by show some (PyData.int ((a : Int) - (b : Int))) = some (PyData.int ((a - b : Nat) : Int)); rw [Int.natCast_sub h]
theorem iadd_n {a b : Nat} : gIAdd (dn a) (dn b) = some (dn (a + b)) := by show some (PyData.int ((a : Int) + (b : Int))) = some (PyData.int ((a + b : Nat) : Int)); rw [Int.natCast_add]
theorem range2_n {a b : Nat} (h : a ≤ 1000) (h' : b ≤ 1000) : gRange [dn a, dn b] = some ((List.range (b - a)).map fun i => dn (a + i)) := by
  have h62 : ((2 : Int) ^ 62) = 4611686018427387904 := by decide
  unfold gRange dn
  dsimp only
  rw [if_pos ⟨by rw [h62]; omega, by rw [h62]; omega, by rw [h62]; omega, by rw [h62]; omega⟩, show ((b : Int) - (a : Int)).toNat = b - a by omega]
  rfl
theorem noLs_n : ∀ l : List Nat, noLs (l.map dn) = true
  | [] => rfl
  | a :: l => by
    show (noL (dn a) && noLs (l.map dn)) = true
    rw [noLs_n l]
    rfl
theorem noL_tD (l : List Nat) : noL (tD l) = true := by
  unfold tD noL
  exact noLs_n l
theorem flatL_lD (l : List Nat) : gFlatL (lD l) = some (l.map dn) := if_pos (flat_n l)
end Cz
namespace Cz
open PySem PySem.Spec PyProof.Rows L2
theorem app_big {l : List D} {d : D} (h : l.length ≤ 1000000) : gApp l d = some (l ++ [d]) := if_pos (by have : sizeLine = 16777216 := rfl; omega)
end Cz
set_option Elab.async false
set_option linter.all false
set_option maxRecDepth 100000
set_option maxHeartbeats 4000000
namespace K12
open PySem PySem.Spec PyProof.Rows L2 Cz
abbrev topS (k : Nat) : Stmt := PySem.Challenge.pw_threesfit_k12_orders_and_rows.main.body.getD k (.Pass ⟨0, 0, 0, 0⟩)
abbrev FnP (K : PySem.W.Frag) (x : Str) (k : Nat) (f : Addr) (fd : FuncData) : Prop := FunD K x x (defArgs (topS k)) (defBody (topS k)) (defScope (topS k)) [] [] f fd
abbrev S0 := Dk "cells"
section
variable {P : Program} {w : World} {K : PySem.W.Frag} {mg : Str → Option Value} {base : Heap}
/-- _law_deck -/
def m__law_deck {K : PySem.W.Frag} : List D → Mo (Sc K) (Fl Unit)
  := fun _ => (mBnd (mRet (.int 10882012)) fun d1 => (mBnd (mBnd (mScut (mPart (mRet (.int 63)))) fun x3 => mOf (gSeq x3)) fun xs => mBndF (mFor xs (d1) fun c4 (a2 : D) => (mBnd (mBnd (mBnd (mAll [(mBnd (mBnd (mBnd (mRet a2) fun x6 => mBnd (mRet (.int 48271)) fun y7 => mOf (gMulT x6 y7)) fun x10 => mBnd (mBnd (mBnd (mAll [(mRet c4)]) fun ds => mOf (gInt ds)) fun x8 => mBnd (mRet (.int 2147483629)) fun y9 => mOf (gMod x8 y9)) fun y11 => mOf (gAdd x10 y11)) fun x12 => mBnd (mRet (.int 77)) fun y13 => mOf (gAdd x12 y13))]) fun ds => mOf (gInt ds)) fun x14 => mBnd (mRet (.int 2147483587)) fun y15 => mOf (gMod x14 y15)) fun d5 => (mRet (.nx (d5))))) fun (a2 : D) => (mBnd (mDeckD "cells" (mRev (mBnd (mAll [(mScut (mPart (mRet (.int 63))))]) fun ds => mOf (gLstOf ds))) (mRet a2) (mRet (.int 0))) fun x16 => mRet (.rt x16))))
def mf__law_deck {K : PySem.W.Frag} (ds : List D) : Mo (Sc K) D := mFin (m__law_deck ds)

/-- _law_draw -/
def m__law_draw : List D → Mo S0 (Fl Unit)
  | [p0] => (mDkSet (mBnd mDkD fun x1 => mBnd (mRet (.int 1)) fun y2 => mOf (gAdd x1 y2)) (mBnd (mBnd mDkM fun x53 => mBnd (mBnd (mRet (.int 61473)) fun x51 => mBnd mDkD fun y52 => mOf (gMulT x51 y52)) fun y54 => mOf (gAdd x53 y54)) fun d3 => (mBnd mDkNe fun k4 => mBndF (if k4 = true then (mBnd mPop fun d6 => (mBnd (mBnd (mRet d6) fun x9 => mBnd (mBnd (mRet (.int 10)) fun x7 => mBnd (mRet (.int 18)) fun y8 => mOf (gPow x7 y8)) fun y10 => mBnd (mOf (gGe x9 y10)) fun d11 => mOf (gBl d11)) fun k12 => if k12 = true then (mBnd (mDkApp (mBnd (mRet d6) fun x13 => mBnd (mBnd (mAll [(mRet (.int 2)), (mRet p0)]) fun ds => mOf (gMax2 ds)) fun y14 => mOf (gFdv x13 y14))) fun _ => (mBnd (mBnd (mBnd (mAll [(mRet d6)]) fun ds => mOf (gInt ds)) fun x15 => mBnd (mRet p0) fun y16 => mOf (gMod x15 y16)) fun x17 => mRet (.rt x17))) else (mBnd (mBnd (mRet d3) fun x21 => mBnd (mBnd (mBnd (mAll [(mRet d6)]) fun ds => mOf (gInt ds)) fun x19 => mBnd (mRet (.int 2147483629)) fun y20 => mOf (gMod x19 y20)) fun y22 => mOf (gAdd x21 y22)) fun d18 => (mRet (.nx (d18)))))) else (mRet (.nx (d3)))) fun (a5 : D) => (mBnd (mBnd (mBnd (mAll [(mBnd (mBnd (mRet a5) fun x45 => mBnd (mRet (.int 39373)) fun y46 => mOf (gMulT x45 y46)) fun x47 => mBnd (mRet (.int 77)) fun y48 => mOf (gAdd x47 y48))]) fun ds => mOf (gInt ds)) fun x49 => mBnd (mRet (.int 2147483647)) fun y50 => mOf (gMod x49 y50)) fun d23 => (mBnd (mBnd (mBnd (mAll [(mBnd (mBnd (mBnd (mRet d23) fun x35 => mBnd (mRet d23) fun y36 => mOf (gMulT x35 y36)) fun x39 => mBnd (mBnd (mRet (.int 52713)) fun x37 => mBnd mDkD fun y38 => mOf (gMulT x37 y38)) fun y40 => mOf (gAdd x39 y40)) fun x41 => mBnd (mRet (.int 41)) fun y42 => mOf (gAdd x41 y42))]) fun ds => mOf (gInt ds)) fun x43 => mBnd (mRet (.int 2147483587)) fun y44 => mOf (gMod x43 y44)) fun d24 => (mBnd (mBnd (mBnd (mAll [(mBnd (mRet d24) fun x31 => mBnd (mRet (.int 40692)) fun y32 => mOf (gMulT x31 y32))]) fun ds => mOf (gInt ds)) fun x33 => mBnd (mRet (.int 2147483563)) fun y34 => mOf (gMod x33 y34)) fun d25 => (mBnd (mBnd (mBnd (mAll [(mBnd (mRet d25) fun x26 => mBnd (mRet (.int 64)) fun y27 => mOf (gFdv x26 y27))]) fun ds => mOf (gInt ds)) fun x28 => mBnd (mRet p0) fun y29 => mOf (gMod x28 y29)) fun x30 => mRet (.rt x30))))))))
  | _ => mBad
def mf__law_draw (ds : List D) : Mo S0 D := mFin (m__law_draw ds)

/-- _law_shuffled -/
def m__law_shuffled : List D → Mo S0 (Fl Unit)
  | [p0] => (mBnd (mBnd (mRet p0) fun x3 => mOf (gRgL x3)) fun o1 => (mBnd (mBnd (mAll []) fun ds => mOf (gSmall ds)) fun o9 => mBnd (mOf (gFlat o9)) fun o2 => (mBnd (mBnd (mAll [(mRet p0)]) fun ds => mOf (gRange ds)) fun xs => mBndF (mFor xs (o1, o2) fun c5 (a4 : List D × List D) => (mPopApp (mBnd (mG [.inr (0, 0), .inl (mBnd (mAll [(mRet (.list a4.1))]) fun ds => mOf (gLen ds))]) mf__law_draw) a4.2 a4.1 fun o6 o7 => (mRet (.nx (o7, o6))))) fun (a4 : List D × List D) => (mBnd (mBnd (mAll [(mRet (.list a4.2))]) fun ds => mOf (gTupOf ds)) fun x8 => mRet (.rt x8)))))
  | _ => mBad
def mf__law_shuffled (ds : List D) : Mo S0 D := mFin (m__law_shuffled ds)

/-- _law_base -/
def m__law_base : List D → Mo S0 (Fl Unit)
  | [p0] => (mBnd (mBnd (mAll [(mBnd (mG [.inr (0, 0), .inl (mRet (.int 6))]) mf__law_draw), (mBnd (mG [.inr (0, 0), .inl (mRet p0)]) mf__law_shuffled)]) fun ds => mOf (gTupD ds)) fun dd => mT2 dd fun d1 d2 => (mBnd (mBnd (mRet d1) fun x3 => mBnd (mRet (.int 0)) fun y4 => mBnd (mOf (gEq x3 y4)) fun d5 => mOf (gBl d5)) fun k6 => if k6 = true then (mBnd (mBnd (mBnd (mBnd (mAll [(mRet p0)]) fun ds => mOf (gRange ds)) fun xs => mComp (fun c7 => elt1 (mRet d2)) xs []) fun ds => mRet (.list ds)) fun x8 => mRet (.rt x8)) else (mBnd (mBnd (mBnd (mRet d1) fun x9 => mBnd (mRet (.int 1)) fun y10 => mBnd (mOf (gEq x9 y10)) fun d11 => mOf (gBl d11)) fun k15 => if k15 = true then (mBnd (mRet p0) fun x12 => mBnd (mBnd (mAll [(mRet (.int 4)), (mRet (.int 6)), (mRet (.int 8))]) fun ds => mOf (gTupD ds)) fun y13 => mBnd (mOf (gIn x12 y13)) fun d14 => mOf (gBl d14)) else mRet false) fun k16 => if k16 = true then (mBnd (mBnd (mBnd (mRet p0) fun x31 => mBnd (mRet (.int 8)) fun y32 => mBnd (mOf (gLt x31 y32)) fun d33 => mOf (gBl d33)) fun k40 => if k40 = true then (mBnd (mRet p0) fun x34 => mBnd (mRet (.int 1)) fun y35 => mOf (gSub x34 y35)) else (mBnd (mRet (.int 3)) fun x38 => mBnd (mBnd (mRet (.int 2)) fun x36 => mBnd (mBnd (mG [.inr (0, 0), .inl (mRet (.int 3))]) mf__law_draw) fun y37 => mOf (gMulT x36 y37)) fun y39 => mOf (gAdd x38 y39))) fun d17 => (mBnd (mBnd (mBnd (mBnd (mAll [(mRet p0)]) fun ds => mOf (gRange ds)) fun xs => mComp (fun c18 => elt1 (mBnd (mAll [(mBnd (mBnd (mBnd (mAll [(mRet p0)]) fun ds => mOf (gRange ds)) fun xs => mComp (fun c19 => elt1 (mBnd (mBnd (mBnd (mBnd (mAll [(mRet c18)]) fun ds => mOf (gInt ds)) fun x20 => mBnd (mRet (.int 2)) fun y21 => mOf (gMod x20 y21)) fun x22 => mBnd (mRet (.int 1)) fun y23 => mBnd (mOf (gEq x22 y23)) fun d24 => mOf (gBl d24)) fun k29 => if k29 = true then (mBnd (mBnd (mAll [(mBnd (mRet d17) fun x25 => mBnd (mRet c19) fun y26 => mOf (gMulT x25 y26))]) fun ds => mOf (gInt ds)) fun x27 => mBnd (mRet p0) fun y28 => mOf (gMod x27 y28)) else (mRet c19))) xs []) fun ds => mRet (.list ds))]) fun ds => mOf (gTupOf ds))) xs []) fun ds => mRet (.list ds)) fun x30 => mRet (.rt x30))) else (mBnd (mBnd (mBnd (mRet d1) fun x41 => mBnd (mRet (.int 2)) fun y42 => mBnd (mOf (gEq x41 y42)) fun d43 => mOf (gBl d43)) fun k47 => if k47 = true then (mBnd (mRet p0) fun x44 => mBnd (mRet (.int 4)) fun y45 => mBnd (mOf (gEq x44 y45)) fun d46 => mOf (gBl d46)) else mRet false) fun k48 => if k48 = true then (mBnd (mBnd (mAll [(mBnd (mBnd (mAll [(mBnd (mAll [(mRet (.int 0)), (mRet (.int 1)), (mRet (.int 3)), (mRet (.int 2))]) fun ds => mOf (gTupD ds)), (mBnd (mAll [(mRet (.int 2)), (mRet (.int 3)), (mRet (.int 1)), (mRet (.int 0))]) fun ds => mOf (gTupD ds)), (mBnd (mAll [(mRet (.int 3)), (mRet (.int 2)), (mRet (.int 0)), (mRet (.int 1))]) fun ds => mOf (gTupD ds)), (mBnd (mAll [(mRet (.int 1)), (mRet (.int 0)), (mRet (.int 2)), (mRet (.int 3))]) fun ds => mOf (gTupD ds))]) fun ds => mOf (gSmall ds)) fun ds => mRet (.list ds))]) fun ds => mOf (gSmall ds)) fun o49 => (mBnd (mBnd (mBnd (mAll [(mBnd (mAll [(mRet (.int 1)), (mRet (.int 0)), (mRet (.int 2)), (mRet (.int 3))]) fun ds => mOf (gTupD ds)), (mBnd (mAll [(mRet (.int 3)), (mRet (.int 2)), (mRet (.int 0)), (mRet (.int 1))]) fun ds => mOf (gTupD ds)), (mBnd (mAll [(mRet (.int 2)), (mRet (.int 3)), (mRet (.int 1)), (mRet (.int 0))]) fun ds => mOf (gTupD ds)), (mBnd (mAll [(mRet (.int 0)), (mRet (.int 1)), (mRet (.int 3)), (mRet (.int 2))]) fun ds => mOf (gTupD ds))]) fun ds => mOf (gSmall ds)) fun ds => mRet (.list ds)) fun d51 => mBnd (mOf (gApp o49 d51)) fun o50 => (mBnd (mBnd (mBnd (mAll [(mBnd (mAll [(mRet (.int 0)), (mRet (.int 1)), (mRet (.int 2)), (mRet (.int 3))]) fun ds => mOf (gTupD ds)), (mBnd (mAll [(mRet (.int 0)), (mRet (.int 1)), (mRet (.int 2)), (mRet (.int 3))]) fun ds => mOf (gTupD ds)), (mBnd (mAll [(mRet (.int 0)), (mRet (.int 1)), (mRet (.int 3)), (mRet (.int 2))]) fun ds => mOf (gTupD ds)), (mBnd (mAll [(mRet (.int 1)), (mRet (.int 0)), (mRet (.int 3)), (mRet (.int 2))]) fun ds => mOf (gTupD ds))]) fun ds => mOf (gSmall ds)) fun ds => mRet (.list ds)) fun d53 => mBnd (mOf (gApp o50 d53)) fun o52 => (mBnd (mBnd (mBnd (mAll [(mBnd (mAll [(mRet (.int 1)), (mRet (.int 0)), (mRet (.int 2)), (mRet (.int 3))]) fun ds => mOf (gTupD ds)), (mBnd (mAll [(mRet (.int 1)), (mRet (.int 0)), (mRet (.int 2)), (mRet (.int 3))]) fun ds => mOf (gTupD ds)), (mBnd (mAll [(mRet (.int 0)), (mRet (.int 1)), (mRet (.int 3)), (mRet (.int 2))]) fun ds => mOf (gTupD ds)), (mBnd (mAll [(mRet (.int 1)), (mRet (.int 0)), (mRet (.int 3)), (mRet (.int 2))]) fun ds => mOf (gTupD ds))]) fun ds => mOf (gSmall ds)) fun ds => mRet (.list ds)) fun d55 => mBnd (mOf (gApp o52 d55)) fun o54 => (mBnd (mBnd (mBnd (mAll [(mBnd (mAll [(mRet (.int 1)), (mRet (.int 0)), (mRet (.int 3)), (mRet (.int 2))]) fun ds => mOf (gTupD ds)), (mBnd (mAll [(mRet (.int 2)), (mRet (.int 3)), (mRet (.int 0)), (mRet (.int 1))]) fun ds => mOf (gTupD ds)), (mBnd (mAll [(mRet (.int 2)), (mRet (.int 3)), (mRet (.int 0)), (mRet (.int 1))]) fun ds => mOf (gTupD ds)), (mBnd (mAll [(mRet (.int 1)), (mRet (.int 0)), (mRet (.int 3)), (mRet (.int 2))]) fun ds => mOf (gTupD ds))]) fun ds => mOf (gSmall ds)) fun ds => mRet (.list ds)) fun d57 => mBnd (mOf (gApp o54 d57)) fun o56 => (mBnd (mBnd (mBnd (mAll [(mBnd (mAll [(mRet (.int 3)), (mRet (.int 0)), (mRet (.int 1)), (mRet (.int 2))]) fun ds => mOf (gTupD ds)), (mBnd (mAll [(mRet (.int 1)), (mRet (.int 2)), (mRet (.int 3)), (mRet (.int 0))]) fun ds => mOf (gTupD ds)), (mBnd (mAll [(mRet (.int 3)), (mRet (.int 0)), (mRet (.int 1)), (mRet (.int 2))]) fun ds => mOf (gTupD ds)), (mBnd (mAll [(mRet (.int 1)), (mRet (.int 2)), (mRet (.int 3)), (mRet (.int 0))]) fun ds => mOf (gTupD ds))]) fun ds => mOf (gSmall ds)) fun ds => mRet (.list ds)) fun d59 => mBnd (mOf (gApp o56 d59)) fun o58 => (mBnd (mBnd (mRet (.list o58)) fun x60 => mBnd (mBnd (mG [.inr (0, 0), .inl (mBnd (mAll [(mRet (.list o58))]) fun ds => mOf (gLen ds))]) mf__law_draw) fun y61 => mOf (gIx x60 y61)) fun x62 => mRet (.rt x62)))))))) else (mBnd (mBnd (mBnd (mBnd (mAll [(mRet p0)]) fun ds => mOf (gRange ds)) fun xs => mComp (fun c66 => elt1 (mBnd (mG [.inr (0, 0), .inl (mRet (.int 3))]) mf__law_draw)) xs []) fun ds => mRet (.list ds)) fun d63 => mBnd (mBnd (mBnd (mBnd (mAll [(mRet (.int 9))]) fun ds => mOf (gRange ds)) fun xs => mComp (fun c67 => elt1 (mBnd (mG [.inr (0, 0), .inl (mRet (.int 8))]) mf__law_draw)) xs []) fun ds => mRet (.list ds)) fun d64 => mBnd (mBnd (mAll []) fun ds => mOf (gSmall ds)) fun o65 => (mBnd (mBnd (mAll [(mRet p0)]) fun ds => mOf (gRange ds)) fun xs => mBndF (mFor xs (o65) fun c69 (a68 : List D) => (mBnd (mBnd (mAll []) fun ds => mOf (gSmall ds)) fun o70 => (mBnd (mBnd (mAll [(mRet p0)]) fun ds => mOf (gRange ds)) fun xs => mBndF (mFor xs (o70) fun c72 (a71 : List D) => (mBnd (mBnd (mBnd (mBnd (mAll [(mRet p0)]) fun ds => mOf (gRange ds)) fun xs => mComp (fun c98 => eltIf (mBnd (mBnd (mRet d63) fun x99 => mBnd (mRet c98) fun y100 => mOf (gIx x99 y100)) fun x103 => mBnd (mBnd (mRet d63) fun x101 => mBnd (mRet c72) fun y102 => mOf (gIx x101 y102)) fun y104 => mBnd (mOf (gEq x103 y104)) fun d105 => mOf (gBl d105)) (mRet c98)) xs []) fun l106 => mRet (.list l106)) fun d73 => (mBnd (mBnd (mRet d73) fun x94 => mBnd (mBnd (mBnd (mAll [(mBnd (mBnd (mRet d73) fun x77 => mBnd (mOf (gSeq x77)) fun y78 => mBnd (mRet c72) fun z79 => mOf (gIndex y78 z79)) fun x90 => mBnd (mBnd (mRet d64) fun x88 => mBnd (mBnd (mBnd (mRet (.int 3)) fun x82 => mBnd (mBnd (mRet d63) fun x80 => mBnd (mRet c69) fun y81 => mOf (gIx x80 y81)) fun y83 => mOf (gMulT x82 y83)) fun x86 => mBnd (mBnd (mRet d63) fun x84 => mBnd (mRet c72) fun y85 => mOf (gIx x84 y85)) fun y87 => mOf (gAdd x86 y87)) fun y89 => mOf (gIx x88 y89)) fun y91 => mOf (gAdd x90 y91))]) fun ds => mOf (gInt ds)) fun x92 => mBnd (mBnd (mAll [(mRet d73)]) fun ds => mOf (gLen ds)) fun y93 => mOf (gMod x92 y93)) fun y95 => mOf (gIx x94 y95)) fun d97 => mBnd (mOf (gApp a71 d97)) fun o96 => (mRet (.nx (o96)))))) fun (a71 : List D) => (mBnd (mBnd (mAll [(mRet (.list a71))]) fun ds => mOf (gTupOf ds)) fun d108 => mBnd (mOf (gApp a68 d108)) fun o107 => (mRet (.nx (o107))))))) fun (a68 : List D) => (mBnd (mRet (.list a68)) fun x109 => mRet (.rt x109))))))))
  | _ => mBad
def mf__law_base (ds : List D) : Mo S0 D := mFin (m__law_base ds)

/-- _law_mirrored -/
def m__law_mirrored : List D → Mo S0 (Fl Unit)
  | [p0] => (mBnd (mBnd (mAll [(mRet p0)]) fun ds => mOf (gLen ds)) fun d1 => (mBnd (mBnd (mBnd (mBnd (mAll [(mRet d1)]) fun ds => mOf (gRange ds)) fun xs => mComp (fun c2 => elt1 (mBnd (mAll [(mBnd (mBnd (mBnd (mAll [(mRet d1)]) fun ds => mOf (gRange ds)) fun xs => mComp (fun c3 => elt1 (mBnd (mBnd (mRet p0) fun x8 => mBnd (mBnd (mBnd (mRet p0) fun x4 => mBnd (mRet c3) fun y5 => mOf (gIx x4 y5)) fun x6 => mBnd (mRet c2) fun y7 => mOf (gIx x6 y7)) fun y9 => mOf (gIx x8 y9)) fun x13 => mBnd (mOf (gSeq x13)) fun y14 => mBnd (mRet c3) fun z15 => mOf (gIndex y14 z15))) xs []) fun ds => mRet (.list ds))]) fun ds => mOf (gTupOf ds))) xs []) fun ds => mRet (.list ds)) fun x16 => mRet (.rt x16)))
  | _ => mBad
def mf__law_mirrored (ds : List D) : Mo S0 D := mFin (m__law_mirrored ds)

/-- _law_crossed -/
def m__law_crossed : List D → Mo S0 (Fl Unit)
  | [p0, p1, p2, p3] => (mBnd (mBnd (mAll [(mRet p0)]) fun ds => mOf (gLen ds)) fun d1 => (mBnd (mBnd (mBnd (mBnd (mRet p0) fun x14 => mOf (gSeq x14)) fun xs => mComp (fun c15 => elt1 (mBnd (mRet c15) fun x20 => mBnd (mBnd (mAll [(mBnd (mBnd (mBnd (mRet p3) fun x16 => mOf (gSeq x16)) fun xs => mComp (fun c17 => elt1 (mBnd (mRet d1) fun x18 => mBnd (mRet c17) fun y19 => mOf (gAdd x18 y19))) xs []) fun ds => mRet (.list ds))]) fun ds => mOf (gTupOf ds)) fun y21 => mOf (gAdd x20 y21))) xs []) fun l22 => mRet (.list l22)) fun d2 => (mBnd (mBnd (mRet d2) fun x11 => mBnd (mBnd (mBnd (mBnd (mRet p1) fun x3 => mOf (gSeq x3)) fun xs => mComp (fun c4 => elt1 (mBnd (mRet p2) fun x9 => mBnd (mBnd (mAll [(mBnd (mBnd (mBnd (mRet c4) fun x5 => mOf (gSeq x5)) fun xs => mComp (fun c6 => elt1 (mBnd (mRet d1) fun x7 => mBnd (mRet c6) fun y8 => mOf (gAdd x7 y8))) xs []) fun ds => mRet (.list ds))]) fun ds => mOf (gTupOf ds)) fun y10 => mOf (gAdd x9 y10))) xs []) fun ds => mRet (.list ds)) fun y12 => mOf (gAdd x11 y12)) fun x13 => mRet (.rt x13))))
  | _ => mBad
def mf__law_crossed (ds : List D) : Mo S0 D := mFin (m__law_crossed ds)

/-- _law_after -/
def m__law_after : List D → Mo S0 (Fl Unit)
  | [p0, p1] => (mBnd (mBnd (mAll [(mBnd (mBnd (mBnd (mRet p1) fun x1 => mOf (gSeq x1)) fun xs => mComp (fun c2 => elt1 (mBnd (mRet p0) fun x3 => mBnd (mRet c2) fun y4 => mOf (gIx x3 y4))) xs []) fun ds => mRet (.list ds))]) fun ds => mOf (gTupOf ds)) fun x5 => mRet (.rt x5))
  | _ => mBad
def mf__law_after (ds : List D) : Mo S0 D := mFin (m__law_after ds)

/-- _law_keeps -/
def m__law_keeps : List D → Mo S0 (Fl Unit)
  | [p0, p1] => (mBnd (mBnd (mAll [(mBnd (mAll [(mRet p0)]) fun ds => mOf (gLen ds))]) fun ds => mOf (gRange ds)) fun xs => mBndF (mFor xs () fun c2 (a1 : Unit) => (mBnd (mBnd (mBnd (mG [.inl (mRet p1), .inl (mBnd (mRet p0) fun x3 => mBnd (mRet c2) fun y4 => mOf (gIx x3 y4))]) mf__law_after) fun x9 => mBnd (mBnd (mG [.inl (mBnd (mRet p0) fun x7 => mBnd (mBnd (mRet p1) fun x5 => mBnd (mRet c2) fun y6 => mOf (gIx x5 y6)) fun y8 => mOf (gIx x7 y8)), .inl (mRet p1)]) mf__law_after) fun y10 => mBnd (mOf (gNe x9 y10)) fun d11 => mOf (gBl d11)) fun k12 => if k12 = true then (mBnd (mRet (.bool false)) fun x13 => mRet (.rt x13)) else (mRet (.nx ())))) fun (a1 : Unit) => (mBnd (mRet (.bool true)) fun x14 => mRet (.rt x14)))
  | _ => mBad
def mf__law_keeps (ds : List D) : Mo S0 D := mFin (m__law_keeps ds)

/-- _law_kept -/
def m__law_kept : List D → Mo S0 (Fl Unit)
  | [p0] => (mBnd (mBnd (mAll [(mRet p0)]) fun ds => mOf (gLen ds)) fun d1 => (mBnd (mBnd (mG [.inr (0, 0), .inl (mRet (.int 4))]) mf__law_draw) fun d2 => (mBnd (mBnd (mRet d1) fun x35 => mOf ((gRgL x35).map .tuple)) fun d3 => (mBnd (mBnd (mAll [(mRet d1)]) fun ds => mOf (gRange ds)) fun xs => mBndF (mFor xs (d3) fun c5 (a4 : D) => (mBnd (mBnd (mG [.inl (mRet a4), .inl (mBnd (mRet p0) fun x13 => mBnd (mBnd (mRet a4) fun x10 => mBnd (mOf (gSeq x10)) fun y11 => mBnd (mRet c5) fun z12 => mOf (gIndex y11 z12)) fun y14 => mOf (gIx x13 y14))]) mf__law_after) fun d6 => (mRet (.nx (d6))))) fun (a4 : D) => (mBnd (mBnd (mBnd (mAll [(mRet a4), (mBnd (mRet p0) fun x32 => mBnd (mBnd (mG [.inr (0, 0), .inl (mRet d1)]) mf__law_draw) fun y33 => mOf (gIx x32 y33)), (mBnd (mG [.inr (0, 0), .inl (mRet d1)]) mf__law_shuffled), (mBnd (mRet d1) fun x34 => mOf ((gRgL x34).map .tuple))]) fun ds => mOf (gSmall ds)) fun ds => mRet (.list ds)) fun d15 => (mBnd (mBnd (mBnd (mBnd (mRet d15) fun x17 => mBnd (mPart (mRet d2)) fun l18 => mBnd (mRet none) fun u19 => mOf (gSl x17 l18 u19)) fun x23 => mBnd (mBnd (mRet d15) fun x20 => mBnd (mRet none) fun l21 => mBnd (mPart (mRet d2)) fun u22 => mOf (gSl x20 l21 u22)) fun y24 => mOf (gAdd x23 y24)) fun x25 => mOf (gSeq x25)) fun xs => mBndF (mFor xs () fun c26 (a16 : Unit) => (mBnd (mBnd (mBnd (mG [.inl (mRet p0), .inl (mRet c26)]) mf__law_keeps) fun x27 => mOf (gTru x27)) fun k28 => if k28 = true then (mBnd (mRet c26) fun x29 => mRet (.rt x29)) else (mRet (.nx ())))) fun (a16 : Unit) => (mBnd (mBnd (mRet d1) fun x30 => mOf ((gRgL x30).map .tuple)) fun x31 => mRet (.rt x31))))))))
  | _ => mBad
def mf__law_kept (ds : List D) : Mo S0 D := mFin (m__law_kept ds)

/-- _law_lefts -/
def m__law_lefts : List D → Mo S0 (Fl Unit)
  | [p0] => (mBnd (mBnd (mBnd (mG [.inr (0, 0), .inl (mRet (.int 3))]) mf__law_draw) fun x3 => mBnd (mRet (.int 0)) fun y4 => mOf (gEq x3 y4)) fun d1 => (mBnd (mBnd (mBnd (mBnd (mG [.inr (0, 0), .inl (mRet (.int 3))]) mf__law_draw) fun x5 => mBnd (mRet (.int 0)) fun y6 => mBnd (mOf (gEq x5 y6)) fun d7 => mOf (gBl d7)) fun k10 => if k10 = true then (mRet p0) else (mBnd (mRet (.int 1)) fun x8 => mBnd (mBnd (mG [.inr (0, 0), .inl (mRet p0)]) mf__law_draw) fun y9 => mOf (gAdd x8 y9))) fun d2 => (mBnd (mBnd (mG [.inr (0, 0), .inl (mRet d2)]) mf__law_base) fun d11 => (mBnd (mBnd (mAll [(mRet (.int 2))]) fun ds => mOf (gRange ds)) fun xs => mBndF (mFor xs (d11, d2) fun c13 (a12 : D × D) => (mBnd (mBnd (mBnd (mAll [(mRet a12.1)]) fun ds => mOf (gLen ds)) fun x14 => mBnd (mRet p0) fun y15 => mBnd (mOf (gLt x14 y15)) fun d16 => mOf (gBl d16)) fun k17 => mBndF (if k17 = true then (mBnd (mBnd (mBnd (mRet c13) fun x22 => mBnd (mRet (.int 1)) fun y23 => mBnd (mOf (gEq x22 y23)) fun d24 => mOf (gBl d24)) fun k31 => if k31 = true then (mBnd (mRet p0) fun x25 => mBnd (mBnd (mAll [(mRet a12.1)]) fun ds => mOf (gLen ds)) fun y26 => mOf (gSub x25 y26)) else (mBnd (mRet (.int 1)) fun x29 => mBnd (mBnd (mG [.inr (0, 0), .inl (mBnd (mRet p0) fun x27 => mBnd (mBnd (mAll [(mRet a12.1)]) fun ds => mOf (gLen ds)) fun y28 => mOf (gSub x27 y28))]) mf__law_draw) fun y30 => mOf (gAdd x29 y30))) fun d19 => (mBnd (mBnd (mG [.inr (0, 0), .inl (mRet d19)]) mf__law_base) fun d20 => (mBnd (mBnd (mG [.inl (mRet a12.1), .inl (mRet d20), .inl (mBnd (mG [.inr (0, 0), .inl (mRet a12.1)]) mf__law_kept), .inl (mBnd (mG [.inr (0, 0), .inl (mRet d20)]) mf__law_kept)]) mf__law_crossed) fun d21 => (mRet (.nx (d21, d19)))))) else (mRet (.nx (a12.1, a12.2)))) fun (a18 : D × D) => (mRet (.nx (a18.1, a18.2))))) fun (a12 : D × D) => (mBnd (mBnd (mRet d1) fun x32 => mOf (gTru x32)) fun k33 => mBndF (if k33 = true then (mBnd (mBnd (mG [.inl (mRet a12.1)]) mf__law_mirrored) fun d35 => (mRet (.nx (d35)))) else (mRet (.nx (a12.1)))) fun (a34 : D) => (mBnd (mBnd (mG [.inr (0, 0), .inl (mRet p0)]) mf__law_shuffled) fun d36 => (mBnd (mBnd (mBnd (mBnd (mAll [(mRet p0)]) fun ds => mOf (gRange ds)) fun xs => mComp (fun c51 => elt1 (mBnd (mRet d36) fun x55 => mBnd (mOf (gSeq x55)) fun y56 => mBnd (mRet c51) fun z57 => mOf (gIndex y56 z57))) xs []) fun ds => mRet (.list ds)) fun d37 => (mBnd (mBnd (mBnd (mBnd (mAll [(mRet p0)]) fun ds => mOf (gRange ds)) fun xs => mComp (fun c38 => elt1 (mBnd (mAll [(mBnd (mBnd (mBnd (mAll [(mRet p0)]) fun ds => mOf (gRange ds)) fun xs => mComp (fun c39 => elt1 (mBnd (mRet d36) fun x48 => mBnd (mBnd (mBnd (mRet a34) fun x42 => mBnd (mBnd (mRet d37) fun x40 => mBnd (mRet c38) fun y41 => mOf (gIx x40 y41)) fun y43 => mOf (gIx x42 y43)) fun x46 => mBnd (mBnd (mRet d37) fun x44 => mBnd (mRet c39) fun y45 => mOf (gIx x44 y45)) fun y47 => mOf (gIx x46 y47)) fun y49 => mOf (gIx x48 y49))) xs []) fun ds => mRet (.list ds))]) fun ds => mOf (gTupOf ds))) xs []) fun ds => mRet (.list ds)) fun x50 => mRet (.rt x50)))))))))
  | _ => mBad
def mf__law_lefts (ds : List D) : Mo S0 D := mFin (m__law_lefts ds)

/-- _law_table -/
def m__law_table : List D → Mo S0 (Fl Unit)
  | [p0] => (mBnd (mBnd (mAll [(mRet p0)]) fun ds => mOf (gLen ds)) fun d1 => (mBnd (mBnd (mAll [(mBnd (mBnd (mBnd (mAll [(mRet d1)]) fun ds => mOf (gRange ds)) fun xs => mComp (fun c2 => elt1 (mBnd (mAll [(mBnd (mBnd (mBnd (mAll [(mRet d1)]) fun ds => mOf (gRange ds)) fun xs => mComp (fun c3 => elt1 (mBnd (mAll [(mBnd (mBnd (mRet p0) fun x4 => mBnd (mRet c2) fun y5 => mOf (gIx x4 y5)) fun x6 => mBnd (mRet c3) fun y7 => mOf (gIx x6 y7)), (mBnd (mBnd (mRet p0) fun x12 => mBnd (mBnd (mBnd (mRet p0) fun x8 => mBnd (mRet c2) fun y9 => mOf (gIx x8 y9)) fun x10 => mBnd (mRet c3) fun y11 => mOf (gIx x10 y11)) fun y13 => mOf (gIx x12 y13)) fun x17 => mBnd (mOf (gSeq x17)) fun y18 => mBnd (mRet c2) fun z19 => mOf (gIndex y18 z19))]) fun ds => mOf (gTupD ds))) xs []) fun ds => mRet (.list ds))]) fun ds => mOf (gTupOf ds))) xs []) fun ds => mRet (.list ds))]) fun ds => mOf (gTupOf ds)) fun x20 => mRet (.rt x20)))
  | _ => mBad
def mf__law_table (ds : List D) : Mo S0 D := mFin (m__law_table ds)

/-- _law_row -/
def m__law_row : List D → Mo S0 (Fl Unit)
  | [p0, p1] => (mBnd (mBnd (mG [.inr (0, 0), .inl (mRet (.int 4))]) mf__law_draw) fun d1 => (mBnd (mBnd (mG [.inr (0, 0), .inl (mBnd (mBnd (mAll [(mRet (.int 4)), (mRet (.int 8)), (mRet (.int 16)), (mBnd (mRet p1) fun x3 => mBnd (mRet (.int 1)) fun y4 => mOf (gAdd x3 y4))]) fun ds => mOf (gTupD ds)) fun x5 => mBnd (mBnd (mG [.inr (0, 0), .inl (mRet (.int 4))]) mf__law_draw) fun y6 => mOf (gIx x5 y6))]) mf__law_draw) fun d2 => (mBnd (mBnd (mRet d1) fun x7 => mBnd (mRet (.int 0)) fun y8 => mBnd (mOf (gEq x7 y8)) fun d9 => mOf (gBl d9)) fun k10 => if k10 = true then (mBnd (mBnd (mBnd (mAll [(mBnd (mG [.inr (0, 0), .inl (mRet p0)]) mf__law_draw)]) fun ds => mOf (gTupD ds)) fun x11 => mBnd (mRet d2) fun y12 => mOf (gMulT x11 y12)) fun x13 => mRet (.rt x13)) else (mBnd (mBnd (mRet d1) fun x14 => mBnd (mRet (.int 1)) fun y15 => mBnd (mOf (gEq x14 y15)) fun d16 => mOf (gBl d16)) fun k17 => if k17 = true then (mBnd (mBnd (mBnd (mBnd (mAll [(mBnd (mRet (.int 1)) fun x25 => mBnd (mBnd (mG [.inr (0, 0), .inl (mRet (.int 5))]) mf__law_draw) fun y26 => mOf (gAdd x25 y26))]) fun ds => mOf (gRange ds)) fun xs => mComp (fun c29 => elt1 (mBnd (mG [.inr (0, 0), .inl (mRet p0)]) mf__law_draw)) xs []) fun l30 => mRet (.list l30)) fun d18 => (mBnd (mBnd (mAll [(mBnd (mBnd (mRet d18) fun x19 => mBnd (mRet (.int 60)) fun y20 => mOf (gMulT x19 y20)) fun x21 => mBnd (mRet none) fun l22 => mBnd (mPart (mRet d2)) fun u23 => mOf (gSl x21 l22 u23))]) fun ds => mOf (gTupOf ds)) fun x24 => mRet (.rt x24))) else (mBnd (mBnd (mAll [(mBnd (mBnd (mBnd (mAll [(mRet d2)]) fun ds => mOf (gRange ds)) fun xs => mComp (fun c31 => elt1 (mBnd (mG [.inr (0, 0), .inl (mRet p0)]) mf__law_draw)) xs []) fun ds => mRet (.list ds))]) fun ds => mOf (gTupOf ds)) fun x32 => mRet (.rt x32))))))
  | _ => mBad
def mf__law_row (ds : List D) : Mo S0 D := mFin (m__law_row ds)

/-- is_square -/
def m_is_square : List D → Mo S0 (Fl Unit)
  | [p0] => (mBnd (mBnd (mBnd (mBnd (mBnd (mRet p0) fun x1 => mOf (gIsi "tuple" x1)) fun x2 => mOf (gTru x2)) fun k3 => mRet (!k3)) fun k10 => if k10 = true then mRet true else (mBnd (mBnd (mBnd (mRet (.int 1)) fun x4 => mBnd (mBnd (mAll [(mRet p0)]) fun ds => mOf (gLen ds)) fun y5 => mBnd (mOf (gLe x4 y5)) fun d7 => match d7 with | .bool true => mBnd (mRet (.int 8)) fun z6 => mOf (gLe y5 z6) | .bool false => mRet (.bool false) | _ => mBad) fun x8 => mOf (gBl x8)) fun k9 => mRet (!k9))) fun k11 => if k11 = true then (mBnd (mRet (.bool false)) fun x12 => mRet (.rt x12)) else (mBnd (mBnd (mAll [(mBnd (mBnd (mBnd (mRet p0) fun x13 => mOf (gSeq x13)) fun xs => mComp (fun c14 => elt1 (mAnd (mBnd (mRet c14) fun x15 => mOf (gIsi "tuple" x15)) (mBnd (mBnd (mAll [(mRet c14)]) fun ds => mOf (gLen ds)) fun x16 => mBnd (mBnd (mAll [(mRet p0)]) fun ds => mOf (gLen ds)) fun y17 => mOf (gEq x16 y17)))) xs []) fun ds => mRet (.list ds))]) fun ds => mOf (gAll ds)) fun x18 => mRet (.rt x18)))
  | _ => mBad
def mf_is_square (ds : List D) : Mo S0 D := mFin (m_is_square ds)

/-- is_whole -/
def m_is_whole : List D → Mo S0 (Fl Unit)
  | [p0] => (mBnd (mAnd (mBnd (mRet p0) fun x1 => mOf (gIsi "int" x1)) (mBnd (mBnd (mRet p0) fun x2 => mOf (gIsi "bool" x2)) fun x3 => mOf (gNot x3))) fun x4 => mRet (.rt x4))
  | _ => mBad
def mf_is_whole (ds : List D) : Mo S0 D := mFin (m_is_whole ds)

/-- is_below -/
def m_is_below : List D → Mo S0 (Fl Unit)
  | [p0, p1] => (mBnd (mAnd (mBnd (mG [.inl (mRet p0)]) mf_is_whole) (mBnd (mRet (.int 0)) fun x1 => mBnd (mRet p0) fun y2 => mBnd (mOf (gLe x1 y2)) fun d4 => match d4 with | .bool true => mBnd (mRet p1) fun z3 => mOf (gLt y2 z3) | .bool false => mRet (.bool false) | _ => mBad)) fun x5 => mRet (.rt x5))
  | _ => mBad
def mf_is_below (ds : List D) : Mo S0 D := mFin (m_is_below ds)

/-- is_kinds -/
def m_is_kinds : List D → Mo S0 (Fl Unit)
  | [p0, p1] => (mBnd (mAnd (mBnd (mRet p0) fun x1 => mOf (gIsi "tuple" x1)) (mBnd (mAll [(mBnd (mBnd (mBnd (mRet p0) fun x2 => mOf (gSeq x2)) fun xs => mComp (fun c3 => elt1 (mBnd (mG [.inl (mRet c3), .inl (mRet p1)]) mf_is_below)) xs []) fun ds => mRet (.list ds))]) fun ds => mOf (gAll ds))) fun x4 => mRet (.rt x4))
  | _ => mBad
def mf_is_kinds (ds : List D) : Mo S0 D := mFin (m_is_kinds ds)

/-- is_table -/
def m_is_table : List D → Mo S0 (Fl Unit)
  | [p0] => (mBnd (mBnd (mBnd (mBnd (mG [.inl (mRet p0)]) mf_is_square) fun x1 => mOf (gTru x1)) fun k2 => mRet (!k2)) fun k3 => if k3 = true then (mBnd (mRet (.bool false)) fun x4 => mRet (.rt x4)) else (mBnd (mBnd (mAll [(mRet p0)]) fun ds => mOf (gLen ds)) fun d5 => (mBnd (mBnd (mAll [(mBnd (mBnd (mBnd (mRet p0) fun x6 => mOf (gSeq x6)) fun xs => mComp2 (fun c7 => (mBnd (mRet c7) fun x9 => mOf (gSeq x9))) (fun c7 c8 => elt1 (mAnd (mBnd (mG [.inl (mRet c8), .inl (mRet d5)]) mf_is_kinds) (mBnd (mBnd (mAll [(mRet c8)]) fun ds => mOf (gLen ds)) fun x10 => mBnd (mRet (.int 2)) fun y11 => mOf (gEq x10 y11)))) xs []) fun ds => mRet (.list ds))]) fun ds => mOf (gAll ds)) fun x12 => mRet (.rt x12))))
  | _ => mBad
def mf_is_table (ds : List D) : Mo S0 D := mFin (m_is_table ds)

/-- _breaks_twice -/
def m__breaks_twice : List D → Mo S0 (Fl Unit)
  | [p0, p1, p2] => (mBnd (mBnd (mBnd (mRet p0) fun x3 => mBnd (mRet p1) fun y4 => mOf (gIx x3 y4)) fun x5 => mBnd (mRet p2) fun y6 => mOf (gIx x5 y6)) fun d14 => mT2 d14 fun d1 d2 => (mBnd (mBnd (mBnd (mBnd (mRet p0) fun x7 => mBnd (mRet d1) fun y8 => mOf (gIx x7 y8)) fun x9 => mBnd (mRet d2) fun y10 => mOf (gIx x9 y10)) fun x11 => mBnd (mBnd (mAll [(mRet p1), (mRet p2)]) fun ds => mOf (gTupD ds)) fun y12 => mOf (gNe x11 y12)) fun x13 => mRet (.rt x13)))
  | _ => mBad
def mf__breaks_twice (ds : List D) : Mo S0 D := mFin (m__breaks_twice ds)

/-- _breaks_three -/
def m__breaks_three : List D → Mo S0 (Fl Unit)
  | [p0, p1, p2, p3] => (mBnd (mBnd (mBnd (mRet p0) fun x3 => mBnd (mRet p1) fun y4 => mOf (gIx x3 y4)) fun x5 => mBnd (mRet p2) fun y6 => mOf (gIx x5 y6)) fun d45 => mT2 d45 fun d1 d2 => (mBnd (mBnd (mBnd (mRet p0) fun x9 => mBnd (mRet d2) fun y10 => mOf (gIx x9 y10)) fun x11 => mBnd (mRet p3) fun y12 => mOf (gIx x11 y12)) fun d44 => mT2 d44 fun d7 d8 => (mBnd (mBnd (mBnd (mRet p0) fun x15 => mBnd (mRet d1) fun y16 => mOf (gIx x15 y16)) fun x17 => mBnd (mRet d7) fun y18 => mOf (gIx x17 y18)) fun d43 => mT2 d43 fun d13 d14 => (mBnd (mBnd (mBnd (mRet p0) fun x21 => mBnd (mRet p2) fun y22 => mOf (gIx x21 y22)) fun x23 => mBnd (mRet p3) fun y24 => mOf (gIx x23 y24)) fun d42 => mT2 d42 fun d19 d20 => (mBnd (mBnd (mBnd (mRet p0) fun x27 => mBnd (mRet p1) fun y28 => mOf (gIx x27 y28)) fun x29 => mBnd (mRet d19) fun y30 => mOf (gIx x29 y30)) fun d41 => mT2 d41 fun d25 d26 => (mBnd (mBnd (mBnd (mRet p0) fun x33 => mBnd (mRet d26) fun y34 => mOf (gIx x33 y34)) fun x35 => mBnd (mRet d20) fun y36 => mOf (gIx x35 y36)) fun d40 => mT2 d40 fun d31 d32 => (mBnd (mBnd (mBnd (mAll [(mRet d13), (mRet d14), (mRet d8)]) fun ds => mOf (gTupD ds)) fun x37 => mBnd (mBnd (mAll [(mRet d25), (mRet d31), (mRet d32)]) fun ds => mOf (gTupD ds)) fun y38 => mOf (gNe x37 y38)) fun x39 => mRet (.rt x39))))))))
  | _ => mBad
def mf__breaks_three (ds : List D) : Mo S0 D := mFin (m__breaks_three ds)

/-- _breaks -/
def m__breaks : List D → Mo S0 (Fl Unit)
  | [p0, p1, p2, p3, p4] => (mBnd (mBnd (mRet p1) fun x1 => mBnd (mRet (.str "left")) fun y2 => mBnd (mOf (gEq x1 y2)) fun d3 => mOf (gBl d3)) fun k4 => if k4 = true then (mBnd (mAnd (mBnd (mRet p3) fun x5 => mBnd (mRet p4) fun y6 => mOf (gLt x5 y6)) (mBnd (mBnd (mBnd (mBnd (mRet p0) fun x7 => mBnd (mRet p2) fun y8 => mOf (gIx x7 y8)) fun x9 => mBnd (mRet p3) fun y10 => mOf (gIx x9 y10)) fun x11 => mBnd (mRet (.int 0)) fun y12 => mOf (gIx x11 y12)) fun x19 => mBnd (mBnd (mBnd (mBnd (mRet p0) fun x13 => mBnd (mRet p2) fun y14 => mOf (gIx x13 y14)) fun x15 => mBnd (mRet p4) fun y16 => mOf (gIx x15 y16)) fun x17 => mBnd (mRet (.int 0)) fun y18 => mOf (gIx x17 y18)) fun y20 => mOf (gEq x19 y20))) fun x21 => mRet (.rt x21)) else (mBnd (mBnd (mRet p1) fun x22 => mBnd (mRet (.str "right")) fun y23 => mBnd (mOf (gEq x22 y23)) fun d24 => mOf (gBl d24)) fun k25 => if k25 = true then (mBnd (mAnd (mBnd (mRet p3) fun x26 => mBnd (mRet p4) fun y27 => mOf (gLt x26 y27)) (mBnd (mBnd (mBnd (mBnd (mRet p0) fun x28 => mBnd (mRet p3) fun y29 => mOf (gIx x28 y29)) fun x30 => mBnd (mRet p2) fun y31 => mOf (gIx x30 y31)) fun x32 => mBnd (mRet (.int 1)) fun y33 => mOf (gIx x32 y33)) fun x40 => mBnd (mBnd (mBnd (mBnd (mRet p0) fun x34 => mBnd (mRet p4) fun y35 => mOf (gIx x34 y35)) fun x36 => mBnd (mRet p2) fun y37 => mOf (gIx x36 y37)) fun x38 => mBnd (mRet (.int 1)) fun y39 => mOf (gIx x38 y39)) fun y41 => mOf (gEq x40 y41))) fun x42 => mRet (.rt x42)) else (mBnd (mAnd (mBnd (mRet p1) fun x43 => mBnd (mRet (.str "three")) fun y44 => mOf (gEq x43 y44)) (mBnd (mG [.inl (mRet p0), .inl (mRet p2), .inl (mRet p3), .inl (mRet p4)]) mf__breaks_three)) fun x45 => mRet (.rt x45))))
  | _ => mBad
def mf__breaks (ds : List D) : Mo S0 D := mFin (m__breaks ds)

/-- _first_fault -/
def m__first_fault : List D → Mo S0 (Fl Unit)
  | [p0] => (mBnd (mBnd (mAll [(mRet p0)]) fun ds => mOf (gLen ds)) fun d1 => (mBnd (mPrd2 (mRet d1) (mRet d1)) fun xs => mBndF (mFor xs () fun c3 (a2 : Unit) => (mT2 c3 fun u4 u5 => (mBnd (mBnd (mBnd (mG [.inl (mRet p0), .inl (mRet u4), .inl (mRet u5)]) mf__breaks_twice) fun x6 => mOf (gTru x6)) fun k7 => if k7 = true then (mBnd (mBnd (mAll [(mRet (.str "twice")), (mRet u4), (mRet u5)]) fun ds => mOf (gTupD ds)) fun x8 => mRet (.rt x8)) else (mRet (.nx ()))))) fun (a2 : Unit) => (mBnd (mBnd (mBnd (mAll [(mRet (.str "left")), (mRet (.str "right")), (mRet (.str "three"))]) fun ds => mOf (gTupD ds)) fun x10 => mOf (gSeq x10)) fun xs => mBndF (mFor xs () fun c11 (a9 : Unit) => (mBnd (mPrd3 (mRet d1) (mRet d1) (mRet d1)) fun xs => mBndF (mFor xs () fun c13 (a12 : Unit) => (mT3 c13 fun u14 u15 u16 => (mBnd (mBnd (mBnd (mG [.inl (mRet p0), .inl (mRet c11), .inl (mRet u14), .inl (mRet u15), .inl (mRet u16)]) mf__breaks) fun x17 => mOf (gTru x17)) fun k18 => if k18 = true then (mBnd (mBnd (mAll [(mRet c11), (mRet u14), (mRet u15), (mRet u16)]) fun ds => mOf (gTupD ds)) fun x19 => mRet (.rt x19)) else (mRet (.nx ()))))) fun (a12 : Unit) => (mRet (.nx ())))) fun (a9 : Unit) => (mBnd (mRet .none) fun x20 => mRet (.rt x20)))))
  | _ => mBad
def mf__first_fault (ds : List D) : Mo S0 D := mFin (m__first_fault ds)

/-- is_rule -/
def m_is_rule : List D → Mo S0 (Fl Unit)
  | [p0] => (mBnd (mAnd (mBnd (mG [.inl (mRet p0)]) mf_is_table) (mBnd (mBnd (mG [.inl (mRet p0)]) mf__first_fault) fun x1 => mBnd (mRet .none) fun y2 => mOf (gIsN x1 y2))) fun x3 => mRet (.rt x3))
  | _ => mBad
def mf_is_rule (ds : List D) : Mo S0 D := mFin (m_is_rule ds)

/-- require_rule -/
def m_require_rule : List D → Mo S0 (Fl Unit)
  | [p0] => (mBnd (mBnd (mBnd (mBnd (mG [.inl (mRet p0)]) mf_is_rule) fun x1 => mOf (gTru x1)) fun k2 => mRet (!k2)) fun k3 => if k3 = true then mBad else (mRet (.nx ())))
  | _ => mBad
def mf_require_rule (ds : List D) : Mo S0 D := mFin (m_require_rule ds)

/-- is_row -/
def m_is_row : List D → Mo S0 (Fl Unit)
  | [p0, p1] => (mBnd (mBnd (mG [.inl (mRet p0)]) mf_require_rule) fun _ => (mBnd (mBnd (mG [.inl (mRet p1), .inl (mBnd (mAll [(mRet p0)]) fun ds => mOf (gLen ds))]) mf_is_kinds) fun x1 => mRet (.rt x1)))
  | _ => mBad
def mf_is_row (ds : List D) : Mo S0 D := mFin (m_is_row ds)

/-- require_row -/
def m_require_row : List D → Mo S0 (Fl Unit)
  | [p0, p1] => (mBnd (mBnd (mBnd (mBnd (mG [.inl (mRet p0), .inl (mRet p1)]) mf_is_row) fun x1 => mOf (gTru x1)) fun k2 => mRet (!k2)) fun k3 => if k3 = true then mBad else (mRet (.nx ())))
  | _ => mBad
def mf_require_row (ds : List D) : Mo S0 D := mFin (m_require_row ds)

/-- identity -/
def m_identity : List D → Mo S0 (Fl Unit)
  | [p0] => (mBnd (mBnd (mRet p0) fun x1 => mOf ((gRgL x1).map .tuple)) fun x2 => mRet (.rt x2))
  | _ => mBad
def mf_identity (ds : List D) : Mo S0 D := mFin (m_identity ds)

/-- after -/
def m_after : List D → Mo S0 (Fl Unit)
  | [p0, p1] => (mBnd (mBnd (mAll [(mBnd (mBnd (mBnd (mRet p1) fun x1 => mOf (gSeq x1)) fun xs => mComp (fun c2 => elt1 (mBnd (mRet p0) fun x3 => mBnd (mRet c2) fun y4 => mOf (gIx x3 y4))) xs []) fun ds => mRet (.list ds))]) fun ds => mOf (gTupOf ds)) fun x5 => mRet (.rt x5))
  | _ => mBad
def mf_after (ds : List D) : Mo S0 D := mFin (m_after ds)

/-- order_and_turn -/
def m_order_and_turn : List D → Mo S0 (Fl Unit)
  | [p0, p1] => (mBnd (mBnd (mG [.inl (mBnd (mAll [(mRet p0)]) fun ds => mOf (gLen ds))]) mf_identity) fun d1 => (mBnd (mBnd (mAll []) fun ds => mOf (gSmall ds)) fun o2 => (mBnd (mBnd (mRet p1) fun x4 => mOf (gSeq x4)) fun xs => mBndF (mFor xs (d1, o2) fun c5 (a3 : D × List D) => (mBnd (mBnd (mRet a3.1) fun x6 => mBnd (mRet c5) fun y7 => mOf (gIx x6 y7)) fun d9 => mBnd (mOf (gApp a3.2 d9)) fun o8 => (mBnd (mBnd (mG [.inl (mRet a3.1), .inl (mBnd (mRet p0) fun x11 => mBnd (mRet c5) fun y12 => mOf (gIx x11 y12))]) mf_after) fun d10 => (mRet (.nx (d10, o8)))))) fun (a3 : D × List D) => (mBnd (mBnd (mAll [(mBnd (mAll [(mRet (.list a3.2))]) fun ds => mOf (gTupOf ds)), (mRet a3.1)]) fun ds => mOf (gTupD ds)) fun x13 => mRet (.rt x13)))))
  | _ => mBad
def mf_order_and_turn (ds : List D) : Mo S0 D := mFin (m_order_and_turn ds)

/-- left_turns -/
def m_left_turns : List D → Mo S0 (Fl Unit)
  | [p0] => (mBnd (mBnd (mBnd (mBnd (mRet p0) fun x1 => mOf (gSeq x1)) fun xs => mComp (fun c2 => elt1 (mBnd (mAll [(mBnd (mBnd (mBnd (mRet c2) fun x3 => mOf (gSeq x3)) fun xs => mComp (fun c4 => elt1 (mBnd (mRet c4) fun x5 => mBnd (mRet (.int 0)) fun y6 => mOf (gIx x5 y6))) xs []) fun ds => mRet (.list ds))]) fun ds => mOf (gTupOf ds))) xs []) fun ds => mRet (.list ds)) fun x7 => mRet (.rt x7))
  | _ => mBad
def mf_left_turns (ds : List D) : Mo S0 D := mFin (m_left_turns ds)

/-- turn_of_row -/
def m_turn_of_row : List D → Mo S0 (Fl Unit)
  | [p0, p1] => (mBnd (mBnd (mG [.inl (mRet p0), .inl (mRet p1)]) mf_require_row) fun _ => (mBnd (mBnd (mG [.inl (mBnd (mG [.inl (mRet p0)]) mf_left_turns), .inl (mRet p1)]) mf_order_and_turn) fun d4 => mT2 d4 fun d1 d2 => (mBnd (mRet d2) fun x3 => mRet (.rt x3))))
  | _ => mBad
def mf_turn_of_row (ds : List D) : Mo S0 D := mFin (m_turn_of_row ds)

/-- _law_same -/
def m__law_same : List D → Mo S0 (Fl Unit)
  | [p0, p1] => (mBnd (mBnd (mBnd (mAll [(mRet p0)]) fun ds => mOf (gRepr ds)) fun x1 => mBnd (mBnd (mAll [(mRet p1)]) fun ds => mOf (gRepr ds)) fun y2 => mOf (gEq x1 y2)) fun x3 => mRet (.rt x3))
  | _ => mBad
def mf__law_same (ds : List D) : Mo S0 D := mFin (m__law_same ds)

/-- order_of -/
def m_order_of : List D → Mo S0 (Fl Unit)
  | [p0, p1] => (mBnd (mBnd (mG [.inl (mRet p0), .inl (mRet p1)]) mf_require_row) fun _ => (mBnd (mBnd (mG [.inl (mBnd (mG [.inl (mRet p0)]) mf_left_turns), .inl (mRet p1)]) mf_order_and_turn) fun d4 => mT2 d4 fun d1 d2 => (mBnd (mRet d1) fun x3 => mRet (.rt x3))))
  | _ => mBad
def mf_order_of (ds : List D) : Mo S0 D := mFin (m_order_of ds)

/-- _law_read -/
def m__law_read : List D → Mo S0 (Fl Unit)
  | [p0, p1] => (mBnd (mBnd (mBnd (mAll [(mRet p0)]) fun ds => mOf (gLen ds)) fun x3 => mOf ((gRgL x3).map .tuple)) fun d1 => (mBnd (mBnd (mAll []) fun ds => mOf (gSmall ds)) fun o2 => (mBnd (mBnd (mRet p1) fun x5 => mOf (gSeq x5)) fun xs => mBndF (mFor xs (d1, o2) fun c6 (a4 : D × List D) => (mBnd (mBnd (mRet a4.1) fun x7 => mBnd (mRet c6) fun y8 => mOf (gIx x7 y8)) fun d10 => mBnd (mOf (gApp a4.2 d10)) fun o9 => (mBnd (mBnd (mG [.inl (mRet a4.1), .inl (mBnd (mRet p0) fun x12 => mBnd (mRet c6) fun y13 => mOf (gIx x12 y13))]) mf__law_after) fun d11 => (mRet (.nx (d11, o9)))))) fun (a4 : D × List D) => (mBnd (mBnd (mAll [(mBnd (mAll [(mRet (.list a4.2))]) fun ds => mOf (gTupOf ds)), (mRet a4.1)]) fun ds => mOf (gTupD ds)) fun x14 => mRet (.rt x14)))))
  | _ => mBad
def mf__law_read (ds : List D) : Mo S0 D := mFin (m__law_read ds)

/-- _law_is_joined -/
def m__law_is_joined : List D → Mo S0 (Fl Unit)
  | [p0, p1, p2, p3] => (mBnd (mBnd (mG [.inl (mRet p0), .inl (mRet p2)]) mf_turn_of_row) fun d1 => (mBnd (mBnd (mBnd (mG [.inl (mRet p0), .inl (mRet p2)]) mf_order_of) fun x20 => mBnd (mBnd (mAll [(mBnd (mBnd (mBnd (mBnd (mG [.inl (mRet p0), .inl (mRet p3)]) mf_order_of) fun x16 => mOf (gSeq x16)) fun xs => mComp (fun c17 => elt1 (mBnd (mRet d1) fun x18 => mBnd (mRet c17) fun y19 => mOf (gIx x18 y19))) xs []) fun ds => mRet (.list ds))]) fun ds => mOf (gTupOf ds)) fun y21 => mOf (gAdd x20 y21)) fun d2 => (mBnd (mBnd (mBnd (mBnd (mG [.inl (mBnd (mG [.inl (mRet p0), .inl (mBnd (mRet p2) fun x3 => mBnd (mRet p3) fun y4 => mOf (gAdd x3 y4))]) mf_order_of), .inl (mRet d2)]) mf__law_same) fun x5 => mOf (gTru x5)) fun k6 => mRet (!k6)) fun k7 => if k7 = true then (mBnd (mRet (.bool false)) fun x8 => mRet (.rt x8)) else (mBnd (mBnd (mG [.inl (mBnd (mG [.inl (mRet p0), .inl (mBnd (mRet p2) fun x13 => mBnd (mRet p3) fun y14 => mOf (gAdd x13 y14))]) mf_turn_of_row), .inl (mBnd (mG [.inl (mBnd (mBnd (mG [.inl (mRet p1), .inl (mRet p2)]) mf__law_read) fun x11 => mBnd (mRet (.int 1)) fun y12 => mOf (gIx x11 y12)), .inl (mBnd (mBnd (mG [.inl (mRet p1), .inl (mRet p3)]) mf__law_read) fun x9 => mBnd (mRet (.int 1)) fun y10 => mOf (gIx x9 y10))]) mf__law_after)]) mf__law_same) fun x15 => mRet (.rt x15)))))
  | _ => mBad
def mf__law_is_joined (ds : List D) : Mo S0 D := mFin (m__law_is_joined ds)

/-- counts -/
def m_counts : List D → Mo S0 (Fl Unit)
  | [p0, p1] => (mBnd (mBnd (mAll [(mBnd (mBnd (mBnd (mAll [(mRet p1)]) fun ds => mOf (gRange ds)) fun xs => mComp (fun c1 => elt1 (mBnd (mRet p0) fun x5 => mBnd (mOf (gSeq x5)) fun y6 => mBnd (mRet c1) fun z7 => mOf (gCount y6 z7))) xs []) fun ds => mRet (.list ds))]) fun ds => mOf (gTupOf ds)) fun x8 => mRet (.rt x8))
  | _ => mBad
def mf_counts (ds : List D) : Mo S0 D := mFin (m_counts ds)

/-- heap_of -/
def m_heap_of : List D → Mo S0 (Fl Unit)
  | [p0, p1] => (mBnd (mBnd (mG [.inl (mBnd (mG [.inl (mRet p0), .inl (mRet p1)]) mf_order_of), .inl (mBnd (mAll [(mRet p0)]) fun ds => mOf (gLen ds))]) mf_counts) fun x1 => mRet (.rt x1))
  | _ => mBad
def mf_heap_of (ds : List D) : Mo S0 D := mFin (m_heap_of ds)

/-- one_more -/
def m_one_more : List D → Mo S0 (Fl Unit)
  | [p0, p1, p2] => (mBnd (mBnd (mG [.inl (mRet p1), .inl (mBnd (mRet p0) fun x7 => mBnd (mBnd (mRet p1) fun x4 => mBnd (mOf (gSeq x4)) fun y5 => mBnd (mRet p2) fun z6 => mOf (gIndex y5 z6)) fun y8 => mOf (gIx x7 y8))]) mf_after) fun x9 => mRet (.rt x9))
  | _ => mBad
def mf_one_more (ds : List D) : Mo S0 D := mFin (m_one_more ds)

/-- row_with_order -/
def m_row_with_order : List D → Mo S0 (Fl Unit)
  | [p0, p1] => (mBnd (mBnd (mG [.inl (mBnd (mAll [(mRet p0)]) fun ds => mOf (gLen ds))]) mf_identity) fun d1 => (mBnd (mBnd (mAll []) fun ds => mOf (gSmall ds)) fun o2 => (mBnd (mBnd (mRet p1) fun x4 => mOf (gSeq x4)) fun xs => mBndF (mFor xs (d1, o2) fun c5 (a3 : D × List D) => (mBnd (mBnd (mRet a3.1) fun x9 => mBnd (mOf (gSeq x9)) fun y10 => mBnd (mRet c5) fun z11 => mOf (gIndex y10 z11)) fun d13 => mBnd (mOf (gApp a3.2 d13)) fun o12 => (mBnd (mBnd (mG [.inl (mRet p0), .inl (mRet a3.1), .inl (mRet c5)]) mf_one_more) fun d14 => (mRet (.nx (d14, o12)))))) fun (a3 : D × List D) => (mBnd (mBnd (mAll [(mRet (.list a3.2))]) fun ds => mOf (gTupOf ds)) fun x15 => mRet (.rt x15)))))
  | _ => mBad
def mf_row_with_order (ds : List D) : Mo S0 D := mFin (m_row_with_order ds)

/-- row_of -/
def m_row_of : List D → Mo S0 (Fl Unit)
  | [p0, p1] => (mBnd (mBnd (mG [.inl (mRet p0)]) mf_require_rule) fun _ => (mBnd (mBnd (mBnd (mBnd (mG [.inl (mRet p1), .inl (mBnd (mAll [(mRet p0)]) fun ds => mOf (gLen ds))]) mf_is_kinds) fun x1 => mOf (gTru x1)) fun k2 => mRet (!k2)) fun k3 => if k3 = true then mBad else (mBnd (mBnd (mG [.inl (mBnd (mG [.inl (mRet p0)]) mf_left_turns), .inl (mRet p1)]) mf_row_with_order) fun x4 => mRet (.rt x4))))
  | _ => mBad
def mf_row_of (ds : List D) : Mo S0 D := mFin (m_row_of ds)

/-- _law_is_read -/
def m__law_is_read : List D → Mo S0 (Fl Unit)
  | [p0, p1, p2] => (mBnd (mBnd (mG [.inl (mRet p1), .inl (mRet p2)]) mf__law_read) fun d26 => mT2 d26 fun d1 d2 => (mBnd (mBnd (mAll [(mBnd (mBnd (mBnd (mAll [(mBnd (mAll [(mRet p1)]) fun ds => mOf (gLen ds))]) fun ds => mOf (gRange ds)) fun xs => mComp (fun c19 => elt1 (mBnd (mRet d1) fun x23 => mBnd (mOf (gSeq x23)) fun y24 => mBnd (mRet c19) fun z25 => mOf (gCount y24 z25))) xs []) fun ds => mRet (.list ds))]) fun ds => mOf (gTupOf ds)) fun d3 => (mBnd (mBnd (mBnd (mAll [(mBnd (mG [.inl (mRet p0), .inl (mRet p2)]) mf_order_of), (mBnd (mG [.inl (mRet p0), .inl (mRet p2)]) mf_heap_of), (mBnd (mG [.inl (mRet p0), .inl (mRet p2)]) mf_turn_of_row)]) fun ds => mOf (gSmall ds)) fun ds => mRet (.list ds)) fun d4 => (mBnd (mBnd (mBnd (mBnd (mG [.inl (mRet d4), .inl (mBnd (mBnd (mAll [(mRet d1), (mRet d3), (mRet d2)]) fun ds => mOf (gSmall ds)) fun ds => mRet (.list ds))]) mf__law_same) fun x5 => mOf (gTru x5)) fun k6 => mRet (!k6)) fun k7 => if k7 = true then (mBnd (mRet (.bool false)) fun x8 => mRet (.rt x8)) else (mBnd (mBnd (mBnd (mAll [(mBnd (mAll [(mRet p2), (mRet p0)]) fun zs => mf_order_of (pickD [1, 0] zs)), (mBnd (mAll [(mRet p2), (mRet p0)]) fun zs => mf_heap_of (pickD [1, 0] zs)), (mBnd (mAll [(mRet p0), (mRet p2)]) fun zs => mf_turn_of_row (pickD [0, 1] zs))]) fun ds => mOf (gSmall ds)) fun ds => mRet (.list ds)) fun d9 => (mBnd (mBnd (mBnd (mBnd (mG [.inl (mRet d9), .inl (mBnd (mBnd (mAll [(mRet d1), (mRet d3), (mRet d2)]) fun ds => mOf (gSmall ds)) fun ds => mRet (.list ds))]) mf__law_same) fun x10 => mOf (gTru x10)) fun k11 => mRet (!k11)) fun k12 => if k12 = true then (mBnd (mRet (.bool false)) fun x13 => mRet (.rt x13)) else (mBnd (mBnd (mBnd (mBnd (mG [.inl (mBnd (mBnd (mAll [(mBnd (mG [.inl (mRet p0), .inl (mRet p2)]) mf_is_row), (mBnd (mAll [(mRet p0), (mRet d1)]) fun zs => mf_is_row (pickD [0, 1] zs))]) fun ds => mOf (gSmall ds)) fun ds => mRet (.list ds)), .inl (mBnd (mBnd (mAll [(mRet (.bool true)), (mRet (.bool true))]) fun ds => mOf (gSmall ds)) fun ds => mRet (.list ds))]) mf__law_same) fun x14 => mOf (gTru x14)) fun k15 => mRet (!k15)) fun k16 => if k16 = true then (mBnd (mRet (.bool false)) fun x17 => mRet (.rt x17)) else (mBnd (mBnd (mG [.inl (mBnd (mG [.inl (mRet p0), .inl (mRet d1)]) mf_row_of), .inl (mRet p2)]) mf__law_same) fun x18 => mRet (.rt x18)))))))))
  | _ => mBad
def mf__law_is_read (ds : List D) : Mo S0 D := mFin (m__law_is_read ds)

/-- _law_written -/
def m__law_written : List D → Mo S0 (Fl Unit)
  | [p0, p1] => (mBnd (mBnd (mBnd (mAll [(mRet p0)]) fun ds => mOf (gLen ds)) fun x3 => mOf ((gRgL x3).map .tuple)) fun d1 => (mBnd (mBnd (mAll []) fun ds => mOf (gSmall ds)) fun o2 => (mBnd (mBnd (mRet p1) fun x5 => mOf (gSeq x5)) fun xs => mBndF (mFor xs (d1, o2) fun c6 (a4 : D × List D) => (mBnd (mBnd (mRet a4.1) fun x16 => mBnd (mOf (gSeq x16)) fun y17 => mBnd (mRet c6) fun z18 => mOf (gIndex y17 z18)) fun d7 => (mBnd (mRet d7) fun d9 => mBnd (mOf (gApp a4.2 d9)) fun o8 => (mBnd (mBnd (mG [.inl (mRet a4.1), .inl (mBnd (mRet p0) fun x11 => mBnd (mRet d7) fun y12 => mOf (gIx x11 y12))]) mf__law_after) fun d10 => (mRet (.nx (d10, o8))))))) fun (a4 : D × List D) => (mBnd (mBnd (mAll [(mRet (.list a4.2))]) fun ds => mOf (gTupOf ds)) fun x19 => mRet (.rt x19)))))
  | _ => mBad
def mf__law_written (ds : List D) : Mo S0 D := mFin (m__law_written ds)

/-- _law_is_written -/
def m__law_is_written : List D → Mo S0 (Fl Unit)
  | [p0, p1, p2] => (mBnd (mBnd (mG [.inl (mRet p1), .inl (mRet p2)]) mf__law_written) fun d1 => (mBnd (mBnd (mBnd (mAll [(mBnd (mG [.inl (mRet p0), .inl (mRet p2)]) mf_row_of), (mBnd (mAll [(mRet p2), (mRet p0)]) fun zs => mf_row_of (pickD [1, 0] zs))]) fun ds => mOf (gSmall ds)) fun ds => mRet (.list ds)) fun d2 => (mBnd (mAnd (mBnd (mG [.inl (mRet d2), .inl (mBnd (mBnd (mAll [(mRet d1), (mRet d1)]) fun ds => mOf (gSmall ds)) fun ds => mRet (.list ds))]) mf__law_same) (mBnd (mG [.inl (mBnd (mG [.inl (mRet p0), .inl (mRet d1)]) mf_order_of), .inl (mRet p2)]) mf__law_same)) fun x3 => mRet (.rt x3))))
  | _ => mBad
def mf__law_is_written (ds : List D) : Mo S0 D := mFin (m__law_is_written ds)

/-- the law, behind its deck -/
def m_law : Mo S0 (Fl Unit) := (mBnd (mBnd (mBnd (mAll [(mRet (.int 3)), (mRet (.int 2)), (mRet (.int 4)), (mRet (.int 3)), (mRet (.int 4)), (mRet (.int 2)), (mRet (.int 5)), (mRet (.int 1)), (mRet (.int 6)), (mRet (.int 3)), (mRet (.int 7)), (mRet (.int 8))]) fun ds => mOf (gTupD ds)) fun x35 => mBnd (mBnd (mG [.inr (1, 0), .inl (mRet (.int 12))]) mf__law_draw) fun y36 => mOf (gIx x35 y36)) fun d1 => (mBnd (mBnd (mG [.inr (1, 0), .inl (mRet d1)]) mf__law_lefts) fun d2 => (mBnd (mBnd (mG [.inl (mRet d2)]) mf__law_table) fun d3 => (mBnd (mBnd (mG [.inr (1, 0), .inl (mRet d1), .inl (mRet (.int 60))]) mf__law_row) fun d4 => (mBnd (mBnd (mG [.inr (1, 0), .inl (mRet d1), .inl (mRet (.int 60))]) mf__law_row) fun d5 => (mBnd (mBnd (mBnd (mBnd (mBnd (mG [.inl (mRet d3), .inl (mRet d2), .inl (mRet d4)]) mf__law_is_read) fun x6 => mOf (gTru x6)) fun k7 => mRet (!k7)) fun k10 => if k10 = true then mRet true else (mBnd (mBnd (mBnd (mG [.inl (mRet d3), .inl (mRet d2), .inl (mRet d5)]) mf__law_is_written) fun x8 => mOf (gTru x8)) fun k9 => mRet (!k9))) fun k11 => if k11 = true then (mBnd (mRet (.bool false)) fun x12 => mRet (.rt x12)) else (mBnd (mBnd (mBnd (mG [.inl (mRet d3), .inl (mBnd (mRet d4) fun x13 => mBnd (mRet d5) fun y14 => mOf (gAdd x13 y14))]) mf_is_row) fun x15 => mBnd (mRet (.bool true)) fun y16 => mBnd (mOf (gIsNotB x15 y16)) fun d17 => mOf (gBl d17)) fun k18 => if k18 = true then (mBnd (mRet (.bool false)) fun x19 => mRet (.rt x19)) else (mBnd (mBnd (mRet d5) fun x32 => mBnd (mRet none) fun l33 => mBnd (mPart (mBnd (mRet (.int 60)) fun x30 => mBnd (mBnd (mAll [(mRet d4)]) fun ds => mOf (gLen ds)) fun y31 => mOf (gSub x30 y31))) fun u34 => mOf (gSl x32 l33 u34)) fun d20 => (mBnd (mBnd (mBnd (mBnd (mG [.inl (mRet d3), .inl (mRet d2), .inl (mRet d4), .inl (mRet d20)]) mf__law_is_joined) fun x21 => mOf (gTru x21)) fun k22 => mRet (!k22)) fun k23 => if k23 = true then (mBnd (mRet (.bool false)) fun x24 => mRet (.rt x24)) else (mBnd (mOr (mBnd (mRet d1) fun x25 => mBnd (mRet (.int 5)) fun y26 => mOf (gGt x25 y26)) (mBnd (mG [.inl (mRet d3), .inl (mRet d2), .inl (mBnd (mRet d4) fun x27 => mBnd (mRet d20) fun y28 => mOf (gAdd x27 y28))]) mf__law_is_read)) fun x29 => mRet (.rt x29)))))))))))
/-- its deck -/
def mD_law {K : PySem.W.Frag} : Mo (Sc K) D := mBnd (mG [.inr (0, 0)]) mf__law_deck
end
end K12
set_option Elab.async false
set_option linter.all false
set_option maxRecDepth 100000
set_option maxHeartbeats 4000000
namespace K12
open PySem PySem.Spec PyProof.Rows L2 Cz
section
variable {P : Program} {w : World} {K : PySem.W.Frag} {mg : Str → Option Value} {base : Heap}
theorem gn__law_deck {f : Addr} {fd : FuncData} (F : FnP K "_law_deck" 35 f fd) (B : Bi mg) :
    Gn P w K mg base 1 f fd ["_law_script"] (spD (S := (Sc K)) K [some 0] mf__law_deck) :=
  gn_of (S := (Sc K)) (N := ["_law_script", "_law_mixed", "_law_cell"]) (m__law_deck (K := K)) F ⟨rfl, rfl, rfl, by decide +kernel, rfl, by decide +kernel, by decide +kernel⟩ rfl (by decide) (fun _ _ => rfl) fun cdv A outer s H E c ds O hl => by
    match ds, hl with
    | [], _ =>
      have hcalm : (cxOf (L2.CX P w) P w K mg base ["_law_script", "_law_mixed", "_law_cell"] "_law_deck" (defScope (topS 35)) f cdv A outer s H E).calm = true := rfl
      have hnd : (["_law_script", "_law_mixed", "_law_cell"] : List Str).Nodup := by decide +kernel
      exact (bs_set 1 hnd je_int fun d1 => (JSs.at [some (.opq 0), some (.v d1), none] (bs_for (S := Sc K) (fun (a2 : D) => [some (.opq 0), some (.v a2), none]) (d1) (passes_of rfl) hcalm (ji_seq (je_scut1 0 rfl (jo_some je_int))) (pg_name (i := 2) hnd rfl (by first | exact .inl rfl | exact .inr rfl)) tgok_nm (by repeat (first | exact wk_e | refine wk_n ?_ | refine wk_s ?_)) (fun x a z => nomatch z) (fun c4 a2 r z => by cases z; exact (JSs.at [some (.opq 0), some (.v a2), some (.v c4)] (bs_set 1 hnd (je_bin (b1 := true) (b2 := true) op_mod ok_mod (je_callTy (b1 := true) call_int1 ok_int rfl B.n_int boot_int (ja_cons (je_bin (b1 := true) (b2 := true) op_addD ok_add (je_bin (b1 := true) (b2 := true) op_addD ok_add (je_bin (b1 := true) (b2 := true) op_mulT ok_mulT (je_var 1 rfl) je_int) (je_bin (b1 := true) (b2 := true) op_mod ok_mod (je_callTy (b1 := true) call_int1 ok_int rfl B.n_int boot_int (ja_cons (je_var 2 rfl) .nil)) je_int)) je_int) .nil)) je_int) fun d5 => (bs_nil (d5) (by repeat (first | exact wk_e | refine wk_n ?_ | refine wk_s ?_)))))) fun a2 => by exact (JSs.at [some (.opq 0), some (.v a2), none] (bs_ret (je_deck1 (by decide) (by decide) (jf_rev1 (b1 := true) (je_callTy (b1 := true) call_list_of ok_lstOf rfl B.n_list boot_list (ja_cons (je_scut1 0 rfl (jo_some je_int)) .nil))) (je_var 1 rfl) je_int))))))
end
end K12
set_option Elab.async false
set_option linter.all false
set_option maxRecDepth 100000
set_option maxHeartbeats 4000000
namespace K12
open PySem PySem.Spec PyProof.Rows L2 Cz
section
variable {P : Program} {w : World} {K : PySem.W.Frag} {mg : Str → Option Value} {base : Heap}
theorem gn__law_draw {f : Addr} {fd : FuncData} (F : FnP K "_law_draw" 36 f fd) (B : Bi mg) :
    Gn P w K mg base 1 f fd ["_law_deck_here", "_law_many"] (spD (S := S0) K [some 0, none] mf__law_draw) :=
  gn_of (S := S0) (N := ["_law_deck_here", "_law_many", "_law_number", "_law_cell"]) m__law_draw F ⟨rfl, rfl, rfl, by decide +kernel, rfl, by decide +kernel, by decide +kernel⟩ rfl (by decide) (fun _ _ => rfl) fun cdv A outer s H E c ds O hl => by
    match ds, hl with
    | [p0], _ =>
      have hcalm : (cxOf (L2.CX P w) P w K mg base ["_law_deck_here", "_law_many", "_law_number", "_law_cell"] "_law_draw" (defScope (topS 36)) f cdv A outer s H E).calm = true := rfl
      have hnd : (["_law_deck_here", "_law_many", "_law_number", "_law_cell"] : List Str).Nodup := by decide +kernel
      exact (bs_dkSet 0 O.room.units rfl (je_bin (b1 := true) (b2 := true) op_addD ok_add (je_dkD 0 O.room.units rfl) je_int) (JSs.at [some (.opq 0), some (.v p0), none, none] (bs_set 2 hnd (je_bin (b1 := true) (b2 := true) op_addD ok_add (je_dkM 0 O.room.units rfl) (je_bin (b1 := true) (b2 := true) op_mulT ok_mulT je_int (je_dkD 0 O.room.units rfl))) fun d3 => (JSs.at [some (.opq 0), some (.v p0), some (.v d3), none] (bs_if (fun (a5 : D) => [some (.opq 0), some (.v p0), some (.v a5), none]) (jt_dkNe 0 O.room.units rfl) (by exact (JSs.at [some (.opq 0), some (.v p0), some (.v d3), none] (bs_set 3 hnd (je_dkPop 0 O.room.units rfl) fun d6 => (JSs.at [some (.opq 0), some (.v p0), some (.v d3), some (.v d6)] (bs_ifr (jt_cmp (b1 := true) (b2 := true) op_ge ok_ge (je_var 3 rfl) (je_bin (b1 := true) (b2 := true) op_pow ok_pow je_int je_int) rfl) (JSs.at [some (.opq 0), some (.v p0), some (.v d3), some (.v d6)] (bs_expr (b := true) (je_dkApp 0 O.room.units rfl (je_bin (b1 := true) (b2 := true) op_fdiv ok_fdv (je_var 3 rfl) (je_callB (b1 := true) (call_max2 hcalm) ok_max2 rfl B.n_max boot_max (ja_cons je_int (ja_cons (je_var 1 rfl) .nil)))) (by repeat (first | exact pure_ret | exact pure_of | (refine pure_all ?_ ?_) | (refine pure_bnd ?_ fun _ => ?_)))) (JSs.at [some (.opq 0), some (.v p0), some (.v d3), some (.v d6)] (bs_ret (je_bin (b1 := true) (b2 := true) op_mod ok_mod (je_callTy (b1 := true) call_int1 ok_int rfl B.n_int boot_int (ja_cons (je_var 3 rfl) .nil)) (je_var 1 rfl)))))) (nonx_bnd fun _ => (nonx_bnd fun _ => nonx_rt)) (JSs.at [some (.opq 0), some (.v p0), some (.v d3), some (.v d6)] (bs_set 2 hnd (je_bin (b1 := true) (b2 := true) op_addD ok_add (je_var 2 rfl) (je_bin (b1 := true) (b2 := true) op_mod ok_mod (je_callTy (b1 := true) call_int1 ok_int rfl B.n_int boot_int (ja_cons (je_var 3 rfl) .nil)) je_int)) fun d18 => (bs_nil (d18) (by repeat (first | exact wk_e | refine wk_n ?_ | refine wk_s ?_)))))))))) (by exact (bs_nil (d3) (by repeat (first | exact wk_e | refine wk_n ?_ | refine wk_s ?_)))) fun a5 => by exact (JSs.at [some (.opq 0), some (.v p0), some (.v a5), none] (bs_set 2 hnd (je_bin (b1 := true) (b2 := true) op_mod ok_mod (je_callTy (b1 := true) call_int1 ok_int rfl B.n_int boot_int (ja_cons (je_bin (b1 := true) (b2 := true) op_addD ok_add (je_bin (b1 := true) (b2 := true) op_mulT ok_mulT (je_var 2 rfl) je_int) je_int) .nil)) je_int) fun d23 => (JSs.at [some (.opq 0), some (.v p0), some (.v d23), none] (bs_set 2 hnd (je_bin (b1 := true) (b2 := true) op_mod ok_mod (je_callTy (b1 := true) call_int1 ok_int rfl B.n_int boot_int (ja_cons (je_bin (b1 := true) (b2 := true) op_addD ok_add (je_bin (b1 := true) (b2 := true) op_addD ok_add (je_bin (b1 := true) (b2 := true) op_mulT ok_mulT (je_var 2 rfl) (je_var 2 rfl)) (je_bin (b1 := true) (b2 := true) op_mulT ok_mulT je_int (je_dkD 0 O.room.units rfl))) je_int) .nil)) je_int) fun d24 => (JSs.at [some (.opq 0), some (.v p0), some (.v d24), none] (bs_set 2 hnd (je_bin (b1 := true) (b2 := true) op_mod ok_mod (je_callTy (b1 := true) call_int1 ok_int rfl B.n_int boot_int (ja_cons (je_bin (b1 := true) (b2 := true) op_mulT ok_mulT (je_var 2 rfl) je_int) .nil)) je_int) fun d25 => (JSs.at [some (.opq 0), some (.v p0), some (.v d25), none] (bs_ret (je_bin (b1 := true) (b2 := true) op_mod ok_mod (je_callTy (b1 := true) call_int1 ok_int rfl B.n_int boot_int (ja_cons (je_bin (b1 := true) (b2 := true) op_fdiv ok_fdv (je_var 2 rfl) je_int) .nil)) (je_var 1 rfl)))))))))))))))
end
end K12
set_option Elab.async false
set_option linter.all false
set_option maxRecDepth 100000
set_option maxHeartbeats 4000000
namespace K12
open PySem PySem.Spec PyProof.Rows L2 Cz
section
variable {P : Program} {w : World} {K : PySem.W.Frag} {mg : Str → Option Value} {base : Heap}
theorem gn__law_shuffled {f : Addr} {fd : FuncData} (F : FnP K "_law_shuffled" 38 f fd) (B : Bi mg) (C__law_draw : Cal P w K mg base 1 "_law_draw" ["_law_deck_here", "_law_many"] [some 0, none] mf__law_draw) :
    Gn P w K mg base 2 f fd ["_law_deck_here", "_law_n"] (spD (S := S0) K [some 0, none] mf__law_shuffled) :=
  gn_of (S := S0) (N := ["_law_deck_here", "_law_n", "_law_turn", "_law_left", "_law_found"]) m__law_shuffled F ⟨rfl, rfl, rfl, by decide +kernel, rfl, by decide +kernel, by decide +kernel⟩ rfl (by decide) (fun _ _ => rfl) fun cdv A outer s H E c ds O hl => by
    match ds, hl with
    | [p0], _ =>
      have hcalm : (cxOf (L2.CX P w) P w K mg base ["_law_deck_here", "_law_n", "_law_turn", "_law_left", "_law_found"] "_law_shuffled" (defScope (topS 38)) f cdv A outer s H E).calm = true := rfl
      have hnd : (["_law_deck_here", "_law_n", "_law_turn", "_law_left", "_law_found"] : List Str).Nodup := by decide +kernel
      exact (bs_par_oo 3 4 hcalm hnd (jf_listRg hcalm rfl B.n_list rfl B.n_range (je_var 1 rfl)) (jf_lst .nil) (fun o1 o2 => (JSs.at [some (.opq 0), some (.v p0), none, some (.own o1), some (.own o2)] (bs_for (fun (a4 : List D × List D) => [some (.opq 0), some (.v p0), none, some (.own a4.1), some (.own a4.2)]) (o1, o2) (passes_of rfl) hcalm (ji_range1 rfl B.n_range (je_var 1 rfl)) (pg_name (i := 2) hnd rfl (by first | exact .inl rfl | exact .inr rfl)) tgok_nm (by repeat (first | exact wk_e | refine wk_n ?_ | refine wk_s ?_)) (fun x a z => nomatch z) (fun c5 a4 r z => by cases z; exact (JSs.at [some (.opq 0), some (.v p0), some (.v c5), some (.own a4.1), some (.own a4.2)] (bs_popApp 4 3 rfl rfl (je_call (C__law_draw.G.mono (by decide)) O rfl C__law_draw.g C__law_draw.kp C__law_draw.b (jg_opq 0 0 (jg_dat (je_callB (b1 := true) Cz.call_lenD ok_len rfl B.n_len boot_len (ja_cons (je_own 3 rfl) .nil)) .nil))) fun o6 o7 => (bs_nil (o7, o6) (by repeat (first | exact wk_e | refine wk_n ?_ | refine wk_s ?_)))))) fun a4 => by exact (JSs.at [some (.opq 0), some (.v p0), none, some (.own a4.1), some (.own a4.2)] (bs_ret (je_callTy (b1 := true) call_tupF ok_tupOf rfl B.n_tuple boot_tuple (ja_cons (je_own 4 rfl) .nil))))))) rfl)
end
end K12
set_option Elab.async false
set_option linter.all false
set_option maxRecDepth 100000
set_option maxHeartbeats 4000000
namespace K12
open PySem PySem.Spec PyProof.Rows L2 Cz
section
variable {P : Program} {w : World} {K : PySem.W.Frag} {mg : Str → Option Value} {base : Heap}
theorem gn__law_base {f : Addr} {fd : FuncData} (F : FnP K "_law_base" 39 f fd) (B : Bi mg) (C__law_draw : Cal P w K mg base 1 "_law_draw" ["_law_deck_here", "_law_many"] [some 0, none] mf__law_draw) (C__law_shuffled : Cal P w K mg base 2 "_law_shuffled" ["_law_deck_here", "_law_n"] [some 0, none] mf__law_shuffled) :
    Gn P w K mg base 3 f fd ["_law_deck_here", "_law_n"] (spD (S := S0) K [some 0, none] mf__law_base) :=
  gn_of (S := S0) (N := ["_law_deck_here", "_law_n", "_law_x", "_law_way", "_law_turn", "_law_unit", "_law_some", "_law_lot", "_law_steps", "_law_found", "_law_turned", "_law_y", "_law_near", "_law_at", "_law_z"]) m__law_base F ⟨rfl, rfl, rfl, by decide +kernel, rfl, by decide +kernel, by decide +kernel⟩ rfl (by decide) (fun _ _ => rfl) fun cdv A outer s H E c ds O hl => by
    match ds, hl with
    | [p0], _ =>
      have hcalm : (cxOf (L2.CX P w) P w K mg base ["_law_deck_here", "_law_n", "_law_x", "_law_way", "_law_turn", "_law_unit", "_law_some", "_law_lot", "_law_steps", "_law_found", "_law_turned", "_law_y", "_law_near", "_law_at", "_law_z"] "_law_base" (defScope (topS 39)) f cdv A outer s H E).calm = true := rfl
      have hnd : (["_law_deck_here", "_law_n", "_law_x", "_law_way", "_law_turn", "_law_unit", "_law_some", "_law_lot", "_law_steps", "_law_found", "_law_turned", "_law_y", "_law_near", "_law_at", "_law_z"] : List Str).Nodup := by decide +kernel
      exact (bs_unp2 3 4 hcalm (je_tup (ja_cons (je_call (C__law_draw.G.mono (by decide)) O rfl C__law_draw.g C__law_draw.kp C__law_draw.b (jg_opq 0 0 (jg_dat je_int .nil))) (ja_cons (je_call (C__law_shuffled.G.mono (by decide)) O rfl C__law_shuffled.g C__law_shuffled.kp C__law_shuffled.b (jg_opq 0 0 (jg_dat (je_var 1 rfl) .nil))) .nil))) (pg_name (i := 3) hnd rfl (by first | exact .inl rfl | exact .inr rfl)) (pg_name (i := 4) hnd rfl (by first | exact .inl rfl | exact .inr rfl)) fun d1 d2 => (JSs.at [some (.opq 0), some (.v p0), none, some (.v d1), some (.v d2), none, none, none, none, none, none, none, none, none, none] (bs_ifr (jt_cmp (b1 := true) (b2 := true) (op_eqD O.room.units) ok_eq (je_var 3 rfl) je_int rfl) (JSs.at [some (.opq 0), some (.v p0), none, some (.v d1), some (.v d2), none, none, none, none, none, none, none, none, none, none] (bs_ret (JF.je (jf_lc hcalm hnd (ji_range1 rfl B.n_range (je_var 1 rfl)) (own := [("_law_x", 2)]) (blkOk_by (N := ["_law_deck_here", "_law_n", "_law_x", "_law_way", "_law_turn", "_law_unit", "_law_some", "_law_lot", "_law_steps", "_law_found", "_law_turned", "_law_y", "_law_near", "_law_at", "_law_z"]) (sc := defScope (topS 39)) (by decide +kernel)) (fun s1' H1' C1' cl1 fp1 => pg_name (i := 2) hnd rfl (by first | exact .inl rfl | exact .inr rfl)) tgok_nm (by simp) (fun x z => nomatch z) (fun s1' H1' C1' cl1 fp1 c1' c7 r1 z1 => by cases z1; exact (je_var 4 rfl)))))) (nonx_bnd fun _ => nonx_rt) (JSs.at [some (.opq 0), some (.v p0), none, some (.v d1), some (.v d2), none, none, none, none, none, none, none, none, none, none] (bs_ifr (jt_w (jw_and (jt_cmp (b1 := true) (b2 := true) (op_eqD O.room.units) ok_eq (je_var 3 rfl) je_int rfl) (jw_and1 (jt_cmp (b1 := true) (b2 := true) op_in_seq ok_in (je_var 1 rfl) (je_tup (ja_cons je_int (ja_cons je_int (ja_cons je_int .nil)))) rfl)))) (JSs.at [some (.opq 0), some (.v p0), none, some (.v d1), some (.v d2), none, none, none, none, none, none, none, none, none, none] (bs_set 5 hnd (je_ife (jt_cmp (b1 := true) (b2 := true) op_lt ok_lt (je_var 1 rfl) je_int rfl) (je_bin (b1 := true) (b2 := true) op_sub ok_sub (je_var 1 rfl) je_int) (je_bin (b1 := true) (b2 := true) op_addD ok_add je_int (je_bin (b1 := true) (b2 := true) op_mulT ok_mulT je_int (je_call (C__law_draw.G.mono (by decide)) O rfl C__law_draw.g C__law_draw.kp C__law_draw.b (jg_opq 0 0 (jg_dat je_int .nil)))))) fun d17 => (JSs.at [some (.opq 0), some (.v p0), none, some (.v d1), some (.v d2), some (.v d17), none, none, none, none, none, none, none, none, none] (bs_ret (JF.je (jf_lc hcalm hnd (ji_range1 rfl B.n_range (je_var 1 rfl)) (own := [("_law_x", 2)]) (blkOk_by (N := ["_law_deck_here", "_law_n", "_law_x", "_law_way", "_law_turn", "_law_unit", "_law_some", "_law_lot", "_law_steps", "_law_found", "_law_turned", "_law_y", "_law_near", "_law_at", "_law_z"]) (sc := defScope (topS 39)) (by decide +kernel)) (fun s1' H1' C1' cl1 fp1 => pg_name (i := 2) hnd rfl (by first | exact .inl rfl | exact .inr rfl)) tgok_nm (by simp) (fun x z => nomatch z) (fun s1' H1' C1' cl1 fp1 c1' c18 r1 z1 => by cases z1; exact (je_callTy (b1 := true) call_tupF ok_tupOf rfl B.n_tuple boot_tuple (ja_cons (JF.je (jf_lc rfl hnd (ji_range1 rfl B.n_range (je_var 1 rfl)) (own := [("_law_y", 11)]) (blkOk_by (N := ["_law_deck_here", "_law_n", "_law_x", "_law_way", "_law_turn", "_law_unit", "_law_some", "_law_lot", "_law_steps", "_law_found", "_law_turned", "_law_y", "_law_near", "_law_at", "_law_z"]) (sc := (⟨.function, [(".0", .local), ("_law_x", .cell), ("tuple", .globalImplicit), ("range", .globalImplicit), ("_law_n", .cell), ("_law_unit", .cell)], false, false, []⟩ : Scope)) (by decide +kernel)) (fun s2' H2' C2' cl2 fp2 => pg_name (i := 11) hnd rfl (by first | exact .inl rfl | exact .inr rfl)) tgok_nm (by simp) (fun x z => nomatch z) (fun s2' H2' C2' cl2 fp2 c2' c19 r2 z2 => by cases z2; exact (je_ife (jt_cmp (b1 := true) (b2 := true) (op_eqD ((O.bk s1' H1' C1' cl1 fp1).bk s2' H2' C2' cl2 fp2).room.units) ok_eq (je_bin (b1 := true) (b2 := true) op_mod ok_mod (je_callTy (b1 := true) call_int1 ok_int rfl B.n_int boot_int (ja_cons (je_var 2 rfl) .nil)) je_int) je_int rfl) (je_bin (b1 := true) (b2 := true) op_mod ok_mod (je_callTy (b1 := true) call_int1 ok_int rfl B.n_int boot_int (ja_cons (je_bin (b1 := true) (b2 := true) op_mulT ok_mulT (je_var 5 rfl) (je_var 11 rfl)) .nil)) (je_var 1 rfl)) (je_var 11 rfl))))) .nil))))))))) (nonx_bnd fun _ => (nonx_bnd fun _ => nonx_rt)) (JSs.at [some (.opq 0), some (.v p0), none, some (.v d1), some (.v d2), none, none, none, none, none, none, none, none, none, none] (bs_ifr (jt_w (jw_and (jt_cmp (b1 := true) (b2 := true) (op_eqD O.room.units) ok_eq (je_var 3 rfl) je_int rfl) (jw_and1 (jt_cmp (b1 := true) (b2 := true) (op_eqD O.room.units) ok_eq (je_var 1 rfl) je_int rfl)))) (JSs.at [some (.opq 0), some (.v p0), none, some (.v d1), some (.v d2), none, none, none, none, none, none, none, none, none, none] (bs_own 6 hnd (jf_lst (ja_cons (JF.je (jf_lst (ja_cons (je_tup (ja_cons je_int (ja_cons je_int (ja_cons je_int (ja_cons je_int .nil))))) (ja_cons (je_tup (ja_cons je_int (ja_cons je_int (ja_cons je_int (ja_cons je_int .nil))))) (ja_cons (je_tup (ja_cons je_int (ja_cons je_int (ja_cons je_int (ja_cons je_int .nil))))) (ja_cons (je_tup (ja_cons je_int (ja_cons je_int (ja_cons je_int (ja_cons je_int .nil))))) .nil)))))) .nil)) fun o49 => (JSs.at [some (.opq 0), some (.v p0), none, some (.v d1), some (.v d2), none, some (.own o49), none, none, none, none, none, none, none, none] (bs_app1 6 rfl (JF.je (jf_lst (ja_cons (je_tup (ja_cons je_int (ja_cons je_int (ja_cons je_int (ja_cons je_int .nil))))) (ja_cons (je_tup (ja_cons je_int (ja_cons je_int (ja_cons je_int (ja_cons je_int .nil))))) (ja_cons (je_tup (ja_cons je_int (ja_cons je_int (ja_cons je_int (ja_cons je_int .nil))))) (ja_cons (je_tup (ja_cons je_int (ja_cons je_int (ja_cons je_int (ja_cons je_int .nil))))) .nil)))))) fun o50 => (JSs.at [some (.opq 0), some (.v p0), none, some (.v d1), some (.v d2), none, some (.own o50), none, none, none, none, none, none, none, none] (bs_app1 6 rfl (JF.je (jf_lst (ja_cons (je_tup (ja_cons je_int (ja_cons je_int (ja_cons je_int (ja_cons je_int .nil))))) (ja_cons (je_tup (ja_cons je_int (ja_cons je_int (ja_cons je_int (ja_cons je_int .nil))))) (ja_cons (je_tup (ja_cons je_int (ja_cons je_int (ja_cons je_int (ja_cons je_int .nil))))) (ja_cons (je_tup (ja_cons je_int (ja_cons je_int (ja_cons je_int (ja_cons je_int .nil))))) .nil)))))) fun o52 => (JSs.at [some (.opq 0), some (.v p0), none, some (.v d1), some (.v d2), none, some (.own o52), none, none, none, none, none, none, none, none] (bs_app1 6 rfl (JF.je (jf_lst (ja_cons (je_tup (ja_cons je_int (ja_cons je_int (ja_cons je_int (ja_cons je_int .nil))))) (ja_cons (je_tup (ja_cons je_int (ja_cons je_int (ja_cons je_int (ja_cons je_int .nil))))) (ja_cons (je_tup (ja_cons je_int (ja_cons je_int (ja_cons je_int (ja_cons je_int .nil))))) (ja_cons (je_tup (ja_cons je_int (ja_cons je_int (ja_cons je_int (ja_cons je_int .nil))))) .nil)))))) fun o54 => (JSs.at [some (.opq 0), some (.v p0), none, some (.v d1), some (.v d2), none, some (.own o54), none, none, none, none, none, none, none, none] (bs_app1 6 rfl (JF.je (jf_lst (ja_cons (je_tup (ja_cons je_int (ja_cons je_int (ja_cons je_int (ja_cons je_int .nil))))) (ja_cons (je_tup (ja_cons je_int (ja_cons je_int (ja_cons je_int (ja_cons je_int .nil))))) (ja_cons (je_tup (ja_cons je_int (ja_cons je_int (ja_cons je_int (ja_cons je_int .nil))))) (ja_cons (je_tup (ja_cons je_int (ja_cons je_int (ja_cons je_int (ja_cons je_int .nil))))) .nil)))))) fun o56 => (JSs.at [some (.opq 0), some (.v p0), none, some (.v d1), some (.v d2), none, some (.own o56), none, none, none, none, none, none, none, none] (bs_app1 6 rfl (JF.je (jf_lst (ja_cons (je_tup (ja_cons je_int (ja_cons je_int (ja_cons je_int (ja_cons je_int .nil))))) (ja_cons (je_tup (ja_cons je_int (ja_cons je_int (ja_cons je_int (ja_cons je_int .nil))))) (ja_cons (je_tup (ja_cons je_int (ja_cons je_int (ja_cons je_int (ja_cons je_int .nil))))) (ja_cons (je_tup (ja_cons je_int (ja_cons je_int (ja_cons je_int (ja_cons je_int .nil))))) .nil)))))) fun o58 => (JSs.at [some (.opq 0), some (.v p0), none, some (.v d1), some (.v d2), none, some (.own o58), none, none, none, none, none, none, none, none] (bs_ret (je_ix (b1 := true) (b2 := true) ix_seq ok_ix (je_own 6 rfl) (je_call (C__law_draw.G.mono (by decide)) O rfl C__law_draw.g C__law_draw.kp C__law_draw.b (jg_opq 0 0 (jg_dat (je_callB (b1 := true) Cz.call_lenD ok_len rfl B.n_len boot_len (ja_cons (je_own 6 rfl) .nil)) .nil))) (fun _ _ => rfl)))))))))))))))) (nonx_bnd fun _ => (nonx_bnd fun _ => nonx_bnd fun _ => (nonx_bnd fun _ => nonx_bnd fun _ => (nonx_bnd fun _ => nonx_bnd fun _ => (nonx_bnd fun _ => nonx_bnd fun _ => (nonx_bnd fun _ => nonx_bnd fun _ => (nonx_bnd fun _ => nonx_rt))))))) (JSs.at [some (.opq 0), some (.v p0), none, some (.v d1), some (.v d2), none, none, none, none, none, none, none, none, none, none] (bs_parC_ddo 7 8 9 hcalm (JF.je (jf_lc hcalm hnd (ji_range1 rfl B.n_range (je_var 1 rfl)) (own := [("_law_x", 2)]) (blkOk_by (N := ["_law_deck_here", "_law_n", "_law_x", "_law_way", "_law_turn", "_law_unit", "_law_some", "_law_lot", "_law_steps", "_law_found", "_law_turned", "_law_y", "_law_near", "_law_at", "_law_z"]) (sc := defScope (topS 39)) (by decide +kernel)) (fun s1' H1' C1' cl1 fp1 => pg_name (i := 2) hnd rfl (by first | exact .inl rfl | exact .inr rfl)) tgok_nm (by simp) (fun x z => nomatch z) (fun s1' H1' C1' cl1 fp1 c1' c66 r1 z1 => by cases z1; exact (je_call (C__law_draw.G.mono (by decide)) (O.bk s1' H1' C1' cl1 fp1) rfl C__law_draw.g C__law_draw.kp C__law_draw.b (jg_opq 0 0 (jg_dat je_int .nil)))))) (JF.je (jf_lc hcalm hnd (ji_range1 rfl B.n_range je_int) (own := [("_law_at", 13)]) (blkOk_by (N := ["_law_deck_here", "_law_n", "_law_x", "_law_way", "_law_turn", "_law_unit", "_law_some", "_law_lot", "_law_steps", "_law_found", "_law_turned", "_law_y", "_law_near", "_law_at", "_law_z"]) (sc := defScope (topS 39)) (by decide +kernel)) (fun s1' H1' C1' cl1 fp1 => pg_name (i := 13) hnd rfl (by first | exact .inl rfl | exact .inr rfl)) tgok_nm (by simp) (fun x z => nomatch z) (fun s1' H1' C1' cl1 fp1 c1' c67 r1 z1 => by cases z1; exact (je_call (C__law_draw.G.mono (by decide)) (O.bk s1' H1' C1' cl1 fp1) rfl C__law_draw.g C__law_draw.kp C__law_draw.b (jg_opq 0 0 (jg_dat je_int .nil)))))) (jf_lst .nil) (pg_name (i := 7) hnd rfl (by first | exact .inl rfl | exact .inr rfl)) (pg_name (i := 8) hnd rfl (by first | exact .inl rfl | exact .inr rfl)) (pg_name (i := 9) hnd rfl (by first | exact .inl rfl | exact .inr rfl)) fun d63 d64 o65 => (JSs.at [some (.opq 0), some (.v p0), none, some (.v d1), some (.v d2), none, none, some (.v d63), some (.v d64), some (.own o65), none, none, none, none, none] (bs_for (fun (a68 : List D) => [some (.opq 0), some (.v p0), none, some (.v d1), some (.v d2), none, none, some (.v d63), some (.v d64), some (.own a68), none, none, none, none, none]) (o65) (passes_of rfl) hcalm (ji_range1 rfl B.n_range (je_var 1 rfl)) (pg_name (i := 2) hnd rfl (by first | exact .inl rfl | exact .inr rfl)) tgok_nm (by repeat (first | exact wk_e | refine wk_n ?_ | refine wk_s ?_)) (fun x a z => nomatch z) (fun c69 a68 r z => by cases z; exact (JSs.at [some (.opq 0), some (.v p0), some (.v c69), some (.v d1), some (.v d2), none, none, some (.v d63), some (.v d64), some (.own a68), none, none, none, none, none] (bs_own 10 hnd (jf_lst .nil) fun o70 => (JSs.at [some (.opq 0), some (.v p0), some (.v c69), some (.v d1), some (.v d2), none, none, some (.v d63), some (.v d64), some (.own a68), some (.own o70), none, none, none, none] (bs_for (fun (a71 : List D) => [some (.opq 0), some (.v p0), some (.v c69), some (.v d1), some (.v d2), none, none, some (.v d63), some (.v d64), some (.own a68), some (.own a71), none, none, none, none]) (o70) (passes_of rfl) hcalm (ji_range1 rfl B.n_range (je_var 1 rfl)) (pg_name (i := 11) hnd rfl (by first | exact .inl rfl | exact .inr rfl)) tgok_nm (by repeat (first | exact wk_e | refine wk_n ?_ | refine wk_s ?_)) (fun x a z => nomatch z) (fun c72 a71 r z => by cases z; exact (JSs.at [some (.opq 0), some (.v p0), some (.v c69), some (.v d1), some (.v d2), none, none, some (.v d63), some (.v d64), some (.own a68), some (.own a71), some (.v c72), none, none, none] (bs_setLcif1 12 hcalm hnd rfl rfl (sw_true rfl rfl rfl (by decide +kernel)) (ji_range1 rfl B.n_range (je_var 1 rfl)) (own := [("_law_z", 14)]) (blkOk_by (N := ["_law_deck_here", "_law_n", "_law_x", "_law_way", "_law_turn", "_law_unit", "_law_some", "_law_lot", "_law_steps", "_law_found", "_law_turned", "_law_y", "_law_near", "_law_at", "_law_z"]) (sc := defScope (topS 39)) (by decide +kernel)) (fun s1' H1' C1' cl1 fp1 => pg_name (i := 14) hnd rfl (by first | exact .inl rfl | exact .inr rfl)) tgok_nm (by simp) (fun x z => nomatch z) (fun s1' H1' C1' cl1 fp1 c1' c98 r1 z1 => by cases z1; exact (jt_cmp (b1 := true) (b2 := true) (op_eqD (O.bk s1' H1' C1' cl1 fp1).room.units) ok_eq (je_ix (b1 := true) (b2 := true) ix_seq ok_ix (je_var 7 rfl) (je_var 14 rfl) (fun _ _ => rfl)) (je_ix (b1 := true) (b2 := true) ix_seq ok_ix (je_var 7 rfl) (je_var 11 rfl) (fun _ _ => rfl)) rfl)) (fun s1' H1' C1' cl1 fp1 c1' c98 r1 z1 => by cases z1; exact (je_var 14 rfl)) fun d73 => (JSs.at [some (.opq 0), some (.v p0), some (.v c69), some (.v d1), some (.v d2), none, none, some (.v d63), some (.v d64), some (.own a68), some (.own a71), some (.v c72), some (.v d73), none, none] (bs_app1 10 rfl (je_ix (b1 := true) (b2 := true) ix_seq ok_ix (je_var 12 rfl) (je_bin (b1 := true) (b2 := true) op_mod ok_mod (je_callTy (b1 := true) call_int1 ok_int rfl B.n_int boot_int (ja_cons (je_bin (b1 := true) (b2 := true) op_addD ok_add (je_index (b1 := true) (je_var 12 rfl) (je_var 11 rfl)) (je_ix (b1 := true) (b2 := true) ix_seq ok_ix (je_var 8 rfl) (je_bin (b1 := true) (b2 := true) op_addD ok_add (je_bin (b1 := true) (b2 := true) op_mulT ok_mulT je_int (je_ix (b1 := true) (b2 := true) ix_seq ok_ix (je_var 7 rfl) (je_var 2 rfl) (fun _ _ => rfl))) (je_ix (b1 := true) (b2 := true) ix_seq ok_ix (je_var 7 rfl) (je_var 11 rfl) (fun _ _ => rfl))) (fun _ _ => rfl))) .nil)) (je_callB (b1 := true) Cz.call_lenD ok_len rfl B.n_len boot_len (ja_cons (je_var 12 rfl) .nil))) (fun _ _ => rfl)) fun o96 => (bs_nil (o96) (by repeat (first | exact wk_e | refine wk_n ?_ | refine wk_s ?_)))))))) fun a71 => by exact (JSs.at [some (.opq 0), some (.v p0), some (.v c69), some (.v d1), some (.v d2), none, none, some (.v d63), some (.v d64), some (.own a68), some (.own a71), none, none, none, none] (bs_app1 9 rfl (je_callTy (b1 := true) call_tupF ok_tupOf rfl B.n_tuple boot_tuple (ja_cons (je_own 10 rfl) .nil)) fun o107 => (bs_nil (o107) (by repeat (first | exact wk_e | refine wk_n ?_ | refine wk_s ?_)))))))))) fun a68 => by exact (JSs.at [some (.opq 0), some (.v p0), none, some (.v d1), some (.v d2), none, none, some (.v d63), some (.v d64), some (.own a68), none, none, none, none, none] (JSs.rel 9 rfl (bs_ret (je_var 9 rfl)))))))))))))))
end
end K12
set_option Elab.async false
set_option linter.all false
set_option maxRecDepth 100000
set_option maxHeartbeats 4000000
namespace K12
open PySem PySem.Spec PyProof.Rows L2 Cz
section
variable {P : Program} {w : World} {K : PySem.W.Frag} {mg : Str → Option Value} {base : Heap}
theorem gn__law_mirrored {f : Addr} {fd : FuncData} (F : FnP K "_law_mirrored" 43 f fd) (B : Bi mg) :
    Gn P w K mg base 1 f fd ["_law_lefts_here"] (spD (S := S0) K [none] mf__law_mirrored) :=
  gn_of (S := S0) (N := ["_law_lefts_here", "_law_n", "_law_y", "_law_x"]) m__law_mirrored F ⟨rfl, rfl, rfl, by decide +kernel, rfl, by decide +kernel, by decide +kernel⟩ rfl (by decide) (fun _ _ => rfl) fun cdv A outer s H E c ds O hl => by
    match ds, hl with
    | [p0], _ =>
      have hcalm : (cxOf (L2.CX P w) P w K mg base ["_law_lefts_here", "_law_n", "_law_y", "_law_x"] "_law_mirrored" (defScope (topS 43)) f cdv A outer s H E).calm = true := rfl
      have hnd : (["_law_lefts_here", "_law_n", "_law_y", "_law_x"] : List Str).Nodup := by decide +kernel
      exact (bs_set 1 hnd (je_callB (b1 := true) Cz.call_lenD ok_len rfl B.n_len boot_len (ja_cons (je_var 0 rfl) .nil)) fun d1 => (JSs.at [some (.v p0), some (.v d1), none, none] (bs_ret (JF.je (jf_lc hcalm hnd (ji_range1 rfl B.n_range (je_var 1 rfl)) (own := [("_law_y", 2)]) (blkOk_by (N := ["_law_lefts_here", "_law_n", "_law_y", "_law_x"]) (sc := defScope (topS 43)) (by decide +kernel)) (fun s1' H1' C1' cl1 fp1 => pg_name (i := 2) hnd rfl (by first | exact .inl rfl | exact .inr rfl)) tgok_nm (by simp) (fun x z => nomatch z) (fun s1' H1' C1' cl1 fp1 c1' c2 r1 z1 => by cases z1; exact (je_callTy (b1 := true) call_tupF ok_tupOf rfl B.n_tuple boot_tuple (ja_cons (JF.je (jf_lc rfl hnd (ji_range1 rfl B.n_range (je_var 1 rfl)) (own := [("_law_x", 3)]) (blkOk_by (N := ["_law_lefts_here", "_law_n", "_law_y", "_law_x"]) (sc := (⟨.function, [(".0", .local), ("_law_y", .cell), ("tuple", .globalImplicit), ("range", .globalImplicit), ("_law_lefts_here", .cell), ("_law_n", .cell)], false, false, []⟩ : Scope)) (by decide +kernel)) (fun s2' H2' C2' cl2 fp2 => pg_name (i := 3) hnd rfl (by first | exact .inl rfl | exact .inr rfl)) tgok_nm (by simp) (fun x z => nomatch z) (fun s2' H2' C2' cl2 fp2 c2' c3 r2 z2 => by cases z2; exact (je_index (b1 := true) (je_ix (b1 := true) (b2 := true) ix_seq ok_ix (je_var 0 rfl) (je_ix (b1 := true) (b2 := true) ix_seq ok_ix (je_ix (b1 := true) (b2 := true) ix_seq ok_ix (je_var 0 rfl) (je_var 3 rfl) (fun _ _ => rfl)) (je_var 2 rfl) (fun _ _ => rfl)) (fun _ _ => rfl)) (je_var 3 rfl))))) .nil))))))))
end
end K12
set_option Elab.async false
set_option linter.all false
set_option maxRecDepth 100000
set_option maxHeartbeats 4000000
namespace K12
open PySem PySem.Spec PyProof.Rows L2 Cz
section
variable {P : Program} {w : World} {K : PySem.W.Frag} {mg : Str → Option Value} {base : Heap}
theorem gn__law_crossed {f : Addr} {fd : FuncData} (F : FnP K "_law_crossed" 42 f fd) (B : Bi mg) :
    Gn P w K mg base 1 f fd ["_law_one", "_law_other", "_law_f", "_law_g"] (spD (S := S0) K [none, none, none, none] mf__law_crossed) :=
  gn_of (S := S0) (N := ["_law_one", "_law_other", "_law_f", "_law_g", "_law_n", "_law_found", "_law_turn", "_law_z"]) m__law_crossed F ⟨rfl, rfl, rfl, by decide +kernel, rfl, by decide +kernel, by decide +kernel⟩ rfl (by decide) (fun _ _ => rfl) fun cdv A outer s H E c ds O hl => by
    match ds, hl with
    | [p0, p1, p2, p3], _ =>
      have hcalm : (cxOf (L2.CX P w) P w K mg base ["_law_one", "_law_other", "_law_f", "_law_g", "_law_n", "_law_found", "_law_turn", "_law_z"] "_law_crossed" (defScope (topS 42)) f cdv A outer s H E).calm = true := rfl
      have hnd : (["_law_one", "_law_other", "_law_f", "_law_g", "_law_n", "_law_found", "_law_turn", "_law_z"] : List Str).Nodup := by decide +kernel
      exact (bs_set 4 hnd (je_callB (b1 := true) Cz.call_lenD ok_len rfl B.n_len boot_len (ja_cons (je_var 0 rfl) .nil)) fun d1 => (JSs.at [some (.v p0), some (.v p1), some (.v p2), some (.v p3), some (.v d1), none, none, none] (bs_setLc1 5 hcalm hnd rfl rfl (sw_true rfl rfl rfl (by decide +kernel)) (ji_seq (je_var 0 rfl)) (own := [("_law_turn", 6)]) (blkOk_by (N := ["_law_one", "_law_other", "_law_f", "_law_g", "_law_n", "_law_found", "_law_turn", "_law_z"]) (sc := defScope (topS 42)) (by decide +kernel)) (fun s1' H1' C1' cl1 fp1 => pg_name (i := 6) hnd rfl (by first | exact .inl rfl | exact .inr rfl)) tgok_nm (by simp) (fun x z => nomatch z) (fun s1' H1' C1' cl1 fp1 c1' c15 r1 z1 => by cases z1; exact (je_bin (b1 := true) (b2 := true) op_addD ok_add (je_var 6 rfl) (je_callTy (b1 := true) call_tupF ok_tupOf rfl B.n_tuple boot_tuple (ja_cons (JF.je (jf_lc rfl hnd (ji_seq (je_var 3 rfl)) (own := [("_law_z", 7)]) (blkOk_by (N := ["_law_one", "_law_other", "_law_f", "_law_g", "_law_n", "_law_found", "_law_turn", "_law_z"]) (sc := (⟨.function, [(".0", .local), ("_law_turn", .local), ("tuple", .globalImplicit), ("_law_g", .cell), ("_law_n", .cell)], false, false, []⟩ : Scope)) (by decide +kernel)) (fun s2' H2' C2' cl2 fp2 => pg_name (i := 7) hnd rfl (by first | exact .inl rfl | exact .inr rfl)) tgok_nm (by simp) (fun x z => nomatch z) (fun s2' H2' C2' cl2 fp2 c2' c17 r2 z2 => by cases z2; exact (je_bin (b1 := true) (b2 := true) op_addD ok_add (je_var 4 rfl) (je_var 7 rfl))))) .nil)))) fun d2 => (JSs.at [some (.v p0), some (.v p1), some (.v p2), some (.v p3), some (.v d1), some (.v d2), none, none] (bs_ret (je_bin (b1 := true) (b2 := true) op_addD ok_add (je_var 5 rfl) (JF.je (jf_lc hcalm hnd (ji_seq (je_var 1 rfl)) (own := [("_law_turn", 6)]) (blkOk_by (N := ["_law_one", "_law_other", "_law_f", "_law_g", "_law_n", "_law_found", "_law_turn", "_law_z"]) (sc := defScope (topS 42)) (by decide +kernel)) (fun s1' H1' C1' cl1 fp1 => pg_name (i := 6) hnd rfl (by first | exact .inl rfl | exact .inr rfl)) tgok_nm (by simp) (fun x z => nomatch z) (fun s1' H1' C1' cl1 fp1 c1' c4 r1 z1 => by cases z1; exact (je_bin (b1 := true) (b2 := true) op_addD ok_add (je_var 2 rfl) (je_callTy (b1 := true) call_tupF ok_tupOf rfl B.n_tuple boot_tuple (ja_cons (JF.je (jf_lc rfl hnd (ji_seq (je_var 6 rfl)) (own := [("_law_z", 7)]) (blkOk_by (N := ["_law_one", "_law_other", "_law_f", "_law_g", "_law_n", "_law_found", "_law_turn", "_law_z"]) (sc := (⟨.function, [(".0", .local), ("_law_turn", .local), ("tuple", .globalImplicit), ("_law_f", .cell), ("_law_n", .cell)], false, false, []⟩ : Scope)) (by decide +kernel)) (fun s2' H2' C2' cl2 fp2 => pg_name (i := 7) hnd rfl (by first | exact .inl rfl | exact .inr rfl)) tgok_nm (by simp) (fun x z => nomatch z) (fun s2' H2' C2' cl2 fp2 c2' c6 r2 z2 => by cases z2; exact (je_bin (b1 := true) (b2 := true) op_addD ok_add (je_var 4 rfl) (je_var 7 rfl))))) .nil))))))))))))
end
end K12
set_option Elab.async false
set_option linter.all false
set_option maxRecDepth 100000
set_option maxHeartbeats 4000000
namespace K12
open PySem PySem.Spec PyProof.Rows L2 Cz
section
variable {P : Program} {w : World} {K : PySem.W.Frag} {mg : Str → Option Value} {base : Heap}
theorem gn__law_after {f : Addr} {fd : FuncData} (F : FnP K "_law_after" 37 f fd) (B : Bi mg) :
    Gn P w K mg base 1 f fd ["_law_one", "_law_other"] (spD (S := S0) K [none, none] mf__law_after) :=
  gn_of (S := S0) (N := ["_law_one", "_law_other", "_law_y"]) m__law_after F ⟨rfl, rfl, rfl, by decide +kernel, rfl, by decide +kernel, by decide +kernel⟩ rfl (by decide) (fun _ _ => rfl) fun cdv A outer s H E c ds O hl => by
    match ds, hl with
    | [p0, p1], _ =>
      have hcalm : (cxOf (L2.CX P w) P w K mg base ["_law_one", "_law_other", "_law_y"] "_law_after" (defScope (topS 37)) f cdv A outer s H E).calm = true := rfl
      have hnd : (["_law_one", "_law_other", "_law_y"] : List Str).Nodup := by decide +kernel
      exact (bs_ret (je_callTy (b1 := true) call_tupF ok_tupOf rfl B.n_tuple boot_tuple (ja_cons (JF.je (jf_lc hcalm hnd (ji_seq (je_var 1 rfl)) (own := [("_law_y", 2)]) (blkOk_by (N := ["_law_one", "_law_other", "_law_y"]) (sc := defScope (topS 37)) (by decide +kernel)) (fun s1' H1' C1' cl1 fp1 => pg_name (i := 2) hnd rfl (by first | exact .inl rfl | exact .inr rfl)) tgok_nm (by simp) (fun x z => nomatch z) (fun s1' H1' C1' cl1 fp1 c1' c2 r1 z1 => by cases z1; exact (je_ix (b1 := true) (b2 := true) ix_seq ok_ix (je_var 0 rfl) (je_var 2 rfl) (fun _ _ => rfl))))) .nil)))
end
end K12
set_option Elab.async false
set_option linter.all false
set_option maxRecDepth 100000
set_option maxHeartbeats 4000000
namespace K12
open PySem PySem.Spec PyProof.Rows L2 Cz
section
variable {P : Program} {w : World} {K : PySem.W.Frag} {mg : Str → Option Value} {base : Heap}
theorem gn__law_keeps {f : Addr} {fd : FuncData} (F : FnP K "_law_keeps" 40 f fd) (B : Bi mg) (C__law_after : Cal P w K mg base 1 "_law_after" ["_law_one", "_law_other"] [none, none] mf__law_after) :
    Gn P w K mg base 2 f fd ["_law_lefts_here", "_law_names"] (spD (S := S0) K [none, none] mf__law_keeps) :=
  gn_of (S := S0) (N := ["_law_lefts_here", "_law_names", "_law_x"]) m__law_keeps F ⟨rfl, rfl, rfl, by decide +kernel, rfl, by decide +kernel, by decide +kernel⟩ rfl (by decide) (fun _ _ => rfl) fun cdv A outer s H E c ds O hl => by
    match ds, hl with
    | [p0, p1], _ =>
      have hcalm : (cxOf (L2.CX P w) P w K mg base ["_law_lefts_here", "_law_names", "_law_x"] "_law_keeps" (defScope (topS 40)) f cdv A outer s H E).calm = true := rfl
      have hnd : (["_law_lefts_here", "_law_names", "_law_x"] : List Str).Nodup := by decide +kernel
      exact (bs_for (fun (a1 : Unit) => [some (.v p0), some (.v p1), none]) () (passes_of rfl) hcalm (ji_range1 rfl B.n_range (je_callB (b1 := true) Cz.call_lenD ok_len rfl B.n_len boot_len (ja_cons (je_var 0 rfl) .nil))) (pg_name (i := 2) hnd rfl (by first | exact .inl rfl | exact .inr rfl)) tgok_nm (by repeat (first | exact wk_e | refine wk_n ?_ | refine wk_s ?_)) (fun x a z => nomatch z) (fun c2 a1 r z => by cases z; exact (JSs.at [some (.v p0), some (.v p1), some (.v c2)] (bs_ifr (jt_cmp (b1 := true) (b2 := true) (op_neD O.room.units) ok_ne (je_call (C__law_after.G.mono (by decide)) O rfl C__law_after.g C__law_after.kp C__law_after.b (jg_dat (je_var 1 rfl) (jg_dat (je_ix (b1 := true) (b2 := true) ix_seq ok_ix (je_var 0 rfl) (je_var 2 rfl) (fun _ _ => rfl)) .nil))) (je_call (C__law_after.G.mono (by decide)) O rfl C__law_after.g C__law_after.kp C__law_after.b (jg_dat (je_ix (b1 := true) (b2 := true) ix_seq ok_ix (je_var 0 rfl) (je_ix (b1 := true) (b2 := true) ix_seq ok_ix (je_var 1 rfl) (je_var 2 rfl) (fun _ _ => rfl)) (fun _ _ => rfl)) (jg_dat (je_var 1 rfl) .nil))) rfl) (JSs.at [some (.v p0), some (.v p1), some (.v c2)] (bs_ret je_bl)) (nonx_bnd fun _ => nonx_rt) (bs_nil () (by repeat (first | exact wk_e | refine wk_n ?_ | refine wk_s ?_)))))) fun a1 => by exact (JSs.at [some (.v p0), some (.v p1), none] (bs_ret je_bl)))
end
end K12
set_option Elab.async false
set_option linter.all false
set_option maxRecDepth 100000
set_option maxHeartbeats 4000000
namespace K12
open PySem PySem.Spec PyProof.Rows L2 Cz
section
variable {P : Program} {w : World} {K : PySem.W.Frag} {mg : Str → Option Value} {base : Heap}
theorem gn__law_kept {f : Addr} {fd : FuncData} (F : FnP K "_law_kept" 41 f fd) (B : Bi mg) (C__law_draw : Cal P w K mg base 1 "_law_draw" ["_law_deck_here", "_law_many"] [some 0, none] mf__law_draw) (C__law_after : Cal P w K mg base 1 "_law_after" ["_law_one", "_law_other"] [none, none] mf__law_after) (C__law_keeps : Cal P w K mg base 2 "_law_keeps" ["_law_lefts_here", "_law_names"] [none, none] mf__law_keeps) (C__law_shuffled : Cal P w K mg base 2 "_law_shuffled" ["_law_deck_here", "_law_n"] [some 0, none] mf__law_shuffled) :
    Gn P w K mg base 3 f fd ["_law_deck_here", "_law_lefts_here"] (spD (S := S0) K [some 0, none] mf__law_kept) :=
  gn_of (S := S0) (N := ["_law_deck_here", "_law_lefts_here", "_law_names", "_law_y", "_law_some", "_law_one", "_law_n", "_law_way"]) m__law_kept F ⟨rfl, rfl, rfl, by decide +kernel, rfl, by decide +kernel, by decide +kernel⟩ rfl (by decide) (fun _ _ => rfl) fun cdv A outer s H E c ds O hl => by
    match ds, hl with
    | [p0], _ =>
      have hcalm : (cxOf (L2.CX P w) P w K mg base ["_law_deck_here", "_law_lefts_here", "_law_names", "_law_y", "_law_some", "_law_one", "_law_n", "_law_way"] "_law_kept" (defScope (topS 41)) f cdv A outer s H E).calm = true := rfl
      have hnd : (["_law_deck_here", "_law_lefts_here", "_law_names", "_law_y", "_law_some", "_law_one", "_law_n", "_law_way"] : List Str).Nodup := by decide +kernel
      exact (bs_par_dd 6 7 hcalm hnd (je_callB (b1 := true) Cz.call_lenD ok_len rfl B.n_len boot_len (ja_cons (je_var 1 rfl) .nil)) (je_call (C__law_draw.G.mono (by decide)) O rfl C__law_draw.g C__law_draw.kp C__law_draw.b (jg_opq 0 0 (jg_dat je_int .nil))) (fun d1 d2 => (JSs.at [some (.opq 0), some (.v p0), none, none, none, none, some (.v d1), some (.v d2)] (bs_set 2 hnd (je_tupRg hcalm rfl B.n_tuple rfl B.n_range (je_var 6 rfl)) fun d3 => (JSs.at [some (.opq 0), some (.v p0), some (.v d3), none, none, none, some (.v d1), some (.v d2)] (bs_for (fun (a4 : D) => [some (.opq 0), some (.v p0), some (.v a4), none, none, none, some (.v d1), some (.v d2)]) (d3) (passes_of rfl) hcalm (ji_range1 rfl B.n_range (je_var 6 rfl)) (pg_name (i := 3) hnd rfl (by first | exact .inl rfl | exact .inr rfl)) tgok_nm (by repeat (first | exact wk_e | refine wk_n ?_ | refine wk_s ?_)) (fun x a z => nomatch z) (fun c5 a4 r z => by cases z; exact (JSs.at [some (.opq 0), some (.v p0), some (.v a4), some (.v c5), none, none, some (.v d1), some (.v d2)] (bs_set 2 hnd (je_call (C__law_after.G.mono (by decide)) O rfl C__law_after.g C__law_after.kp C__law_after.b (jg_dat (je_var 2 rfl) (jg_dat (je_ix (b1 := true) (b2 := true) ix_seq ok_ix (je_var 1 rfl) (je_index (b1 := true) (je_var 2 rfl) (je_var 3 rfl)) (fun _ _ => rfl)) .nil))) fun d6 => (bs_nil (d6) (by repeat (first | exact wk_e | refine wk_n ?_ | refine wk_s ?_)))))) fun a4 => by exact (JSs.at [some (.opq 0), some (.v p0), some (.v a4), none, none, none, some (.v d1), some (.v d2)] (bs_set 4 hnd (JF.je (jf_lst (ja_cons (je_var 2 rfl) (ja_cons (je_ix (b1 := true) (b2 := true) ix_seq ok_ix (je_var 1 rfl) (je_call (C__law_draw.G.mono (by decide)) O rfl C__law_draw.g C__law_draw.kp C__law_draw.b (jg_opq 0 0 (jg_dat (je_var 6 rfl) .nil))) (fun _ _ => rfl)) (ja_cons (je_call (C__law_shuffled.G.mono (by decide)) O rfl C__law_shuffled.g C__law_shuffled.kp C__law_shuffled.b (jg_opq 0 0 (jg_dat (je_var 6 rfl) .nil))) (ja_cons (je_tupRg hcalm rfl B.n_tuple rfl B.n_range (je_var 6 rfl)) .nil)))))) fun d15 => (JSs.at [some (.opq 0), some (.v p0), some (.v a4), none, some (.v d15), none, some (.v d1), some (.v d2)] (bs_for (fun (a16 : Unit) => [some (.opq 0), some (.v p0), some (.v a4), none, some (.v d15), none, some (.v d1), some (.v d2)]) () (passes_of rfl) hcalm (ji_seq (je_bin (b1 := true) (b2 := true) op_addD ok_add (je_slice (b1 := true) (je_var 4 rfl) (jo_some (je_var 7 rfl)) jo_none) (je_slice (b1 := true) (je_var 4 rfl) jo_none (jo_some (je_var 7 rfl))))) (pg_name (i := 5) hnd rfl (by first | exact .inl rfl | exact .inr rfl)) tgok_nm (by repeat (first | exact wk_e | refine wk_n ?_ | refine wk_s ?_)) (fun x a z => nomatch z) (fun c26 a16 r z => by cases z; exact (JSs.at [some (.opq 0), some (.v p0), some (.v a4), none, some (.v d15), some (.v c26), some (.v d1), some (.v d2)] (bs_ifr (jt_val (b1 := true) (je_call (C__law_keeps.G.mono (by decide)) O rfl C__law_keeps.g C__law_keeps.kp C__law_keeps.b (jg_dat (je_var 1 rfl) (jg_dat (je_var 5 rfl) .nil)))) (JSs.at [some (.opq 0), some (.v p0), some (.v a4), none, some (.v d15), some (.v c26), some (.v d1), some (.v d2)] (bs_ret (je_var 5 rfl))) (nonx_bnd fun _ => nonx_rt) (bs_nil () (by repeat (first | exact wk_e | refine wk_n ?_ | refine wk_s ?_)))))) fun a16 => by exact (JSs.at [some (.opq 0), some (.v p0), some (.v a4), none, some (.v d15), none, some (.v d1), some (.v d2)] (bs_ret (je_tupRg hcalm rfl B.n_tuple rfl B.n_range (je_var 6 rfl))))))))))))) rfl)
end
end K12
set_option Elab.async false
set_option linter.all false
set_option maxRecDepth 100000
set_option maxHeartbeats 4000000
namespace K12
open PySem PySem.Spec PyProof.Rows L2 Cz
section
variable {P : Program} {w : World} {K : PySem.W.Frag} {mg : Str → Option Value} {base : Heap}
theorem gn__law_lefts {f : Addr} {fd : FuncData} (F : FnP K "_law_lefts" 44 f fd) (B : Bi mg) (C__law_draw : Cal P w K mg base 1 "_law_draw" ["_law_deck_here", "_law_many"] [some 0, none] mf__law_draw) (C__law_crossed : Cal P w K mg base 1 "_law_crossed" ["_law_one", "_law_other", "_law_f", "_law_g"] [none, none, none, none] mf__law_crossed) (C__law_kept : Cal P w K mg base 3 "_law_kept" ["_law_deck_here", "_law_lefts_here"] [some 0, none] mf__law_kept) (C__law_base : Cal P w K mg base 3 "_law_base" ["_law_deck_here", "_law_n"] [some 0, none] mf__law_base) (C__law_mirrored : Cal P w K mg base 1 "_law_mirrored" ["_law_lefts_here"] [none] mf__law_mirrored) (C__law_shuffled : Cal P w K mg base 2 "_law_shuffled" ["_law_deck_here", "_law_n"] [some 0, none] mf__law_shuffled) :
    Gn P w K mg base 4 f fd ["_law_deck_here", "_law_n"] (spD (S := S0) K [some 0, none] mf__law_lefts) :=
  gn_of (S := S0) (N := ["_law_deck_here", "_law_n", "_law_found", "_law_turn", "_law_names", "_law_back", "_law_is_mirror", "_law_many", "_law_other", "_law_x", "_law_y"]) m__law_lefts F ⟨rfl, rfl, rfl, by decide +kernel, rfl, by decide +kernel, by decide +kernel⟩ rfl (by decide) (fun _ _ => rfl) fun cdv A outer s H E c ds O hl => by
    match ds, hl with
    | [p0], _ =>
      have hcalm : (cxOf (L2.CX P w) P w K mg base ["_law_deck_here", "_law_n", "_law_found", "_law_turn", "_law_names", "_law_back", "_law_is_mirror", "_law_many", "_law_other", "_law_x", "_law_y"] "_law_lefts" (defScope (topS 44)) f cdv A outer s H E).calm = true := rfl
      have hnd : (["_law_deck_here", "_law_n", "_law_found", "_law_turn", "_law_names", "_law_back", "_law_is_mirror", "_law_many", "_law_other", "_law_x", "_law_y"] : List Str).Nodup := by decide +kernel
      exact (bs_par_dd 6 7 hcalm hnd (je_cmp (b1 := true) (b2 := true) (op_eqD O.room.units) ok_eq (je_call (C__law_draw.G.mono (by decide)) O rfl C__law_draw.g C__law_draw.kp C__law_draw.b (jg_opq 0 0 (jg_dat je_int .nil))) je_int rfl) (je_ife (jt_cmp (b1 := true) (b2 := true) (op_eqD O.room.units) ok_eq (je_call (C__law_draw.G.mono (by decide)) O rfl C__law_draw.g C__law_draw.kp C__law_draw.b (jg_opq 0 0 (jg_dat je_int .nil))) je_int rfl) (je_var 1 rfl) (je_bin (b1 := true) (b2 := true) op_addD ok_add je_int (je_call (C__law_draw.G.mono (by decide)) O rfl C__law_draw.g C__law_draw.kp C__law_draw.b (jg_opq 0 0 (jg_dat (je_var 1 rfl) .nil))))) (fun d1 d2 => (JSs.at [some (.opq 0), some (.v p0), none, none, none, none, some (.v d1), some (.v d2), none, none, none] (bs_set 2 hnd (je_call (C__law_base.G.mono (by decide)) O rfl C__law_base.g C__law_base.kp C__law_base.b (jg_opq 0 0 (jg_dat (je_var 7 rfl) .nil))) fun d11 => (JSs.at [some (.opq 0), some (.v p0), some (.v d11), none, none, none, some (.v d1), some (.v d2), none, none, none] (bs_for (fun (a12 : D × D) => [some (.opq 0), some (.v p0), some (.v a12.1), none, none, none, some (.v d1), some (.v a12.2), none, none, none]) (d11, d2) (passes_of rfl) hcalm (ji_range1 rfl B.n_range je_int) (pg_name (i := 3) hnd rfl (by first | exact .inl rfl | exact .inr rfl)) tgok_nm (by repeat (first | exact wk_e | refine wk_n ?_ | refine wk_s ?_)) (fun x a z => nomatch z) (fun c13 a12 r z => by cases z; exact (JSs.at [some (.opq 0), some (.v p0), some (.v a12.1), some (.v c13), none, none, some (.v d1), some (.v a12.2), none, none, none] (bs_if (fun (a18 : D × D) => [some (.opq 0), some (.v p0), some (.v a18.1), some (.v c13), none, none, some (.v d1), some (.v a18.2), none, none, none]) (jt_cmp (b1 := true) (b2 := true) op_lt ok_lt (je_callB (b1 := true) Cz.call_lenD ok_len rfl B.n_len boot_len (ja_cons (je_var 2 rfl) .nil)) (je_var 1 rfl) rfl) (by exact (JSs.at [some (.opq 0), some (.v p0), some (.v a12.1), some (.v c13), none, none, some (.v d1), some (.v a12.2), none, none, none] (bs_set 7 hnd (je_ife (jt_cmp (b1 := true) (b2 := true) (op_eqD O.room.units) ok_eq (je_var 3 rfl) je_int rfl) (je_bin (b1 := true) (b2 := true) op_sub ok_sub (je_var 1 rfl) (je_callB (b1 := true) Cz.call_lenD ok_len rfl B.n_len boot_len (ja_cons (je_var 2 rfl) .nil))) (je_bin (b1 := true) (b2 := true) op_addD ok_add je_int (je_call (C__law_draw.G.mono (by decide)) O rfl C__law_draw.g C__law_draw.kp C__law_draw.b (jg_opq 0 0 (jg_dat (je_bin (b1 := true) (b2 := true) op_sub ok_sub (je_var 1 rfl) (je_callB (b1 := true) Cz.call_lenD ok_len rfl B.n_len boot_len (ja_cons (je_var 2 rfl) .nil))) .nil))))) fun d19 => (JSs.at [some (.opq 0), some (.v p0), some (.v a12.1), some (.v c13), none, none, some (.v d1), some (.v d19), none, none, none] (bs_set 8 hnd (je_call (C__law_base.G.mono (by decide)) O rfl C__law_base.g C__law_base.kp C__law_base.b (jg_opq 0 0 (jg_dat (je_var 7 rfl) .nil))) fun d20 => (JSs.at [some (.opq 0), some (.v p0), some (.v a12.1), some (.v c13), none, none, some (.v d1), some (.v d19), some (.v d20), none, none] (bs_set 2 hnd (je_call (C__law_crossed.G.mono (by decide)) O rfl C__law_crossed.g C__law_crossed.kp C__law_crossed.b (jg_dat (je_var 2 rfl) (jg_dat (je_var 8 rfl) (jg_dat (je_call (C__law_kept.G.mono (by decide)) O rfl C__law_kept.g C__law_kept.kp C__law_kept.b (jg_opq 0 0 (jg_dat (je_var 2 rfl) .nil))) (jg_dat (je_call (C__law_kept.G.mono (by decide)) O rfl C__law_kept.g C__law_kept.kp C__law_kept.b (jg_opq 0 0 (jg_dat (je_var 8 rfl) .nil))) .nil))))) fun d21 => (bs_nil (d21, d19) (by repeat (first | exact wk_e | refine wk_n ?_ | refine wk_s ?_)))))))))) (by exact (bs_nil (a12.1, a12.2) (by repeat (first | exact wk_e | refine wk_n ?_ | refine wk_s ?_)))) fun a18 => by exact (bs_nil (a18.1, a18.2) (by repeat (first | exact wk_e | refine wk_n ?_ | refine wk_s ?_)))))) fun a12 => by exact (JSs.at [some (.opq 0), some (.v p0), some (.v a12.1), none, none, none, some (.v d1), some (.v a12.2), none, none, none] (bs_if (fun (a34 : D) => [some (.opq 0), some (.v p0), some (.v a34), none, none, none, some (.v d1), some (.v a12.2), none, none, none]) (jt_val (b1 := true) (je_var 6 rfl)) (by exact (JSs.at [some (.opq 0), some (.v p0), some (.v a12.1), none, none, none, some (.v d1), some (.v a12.2), none, none, none] (bs_set 2 hnd (je_call (C__law_mirrored.G.mono (by decide)) O rfl C__law_mirrored.g C__law_mirrored.kp C__law_mirrored.b (jg_dat (je_var 2 rfl) .nil)) fun d35 => (bs_nil (d35) (by repeat (first | exact wk_e | refine wk_n ?_ | refine wk_s ?_)))))) (by exact (bs_nil (a12.1) (by repeat (first | exact wk_e | refine wk_n ?_ | refine wk_s ?_)))) fun a34 => by exact (JSs.at [some (.opq 0), some (.v p0), some (.v a34), none, none, none, some (.v d1), some (.v a12.2), none, none, none] (bs_set 4 hnd (je_call (C__law_shuffled.G.mono (by decide)) O rfl C__law_shuffled.g C__law_shuffled.kp C__law_shuffled.b (jg_opq 0 0 (jg_dat (je_var 1 rfl) .nil))) fun d36 => (JSs.at [some (.opq 0), some (.v p0), some (.v a34), none, some (.v d36), none, some (.v d1), some (.v a12.2), none, none, none] (bs_set 5 hnd (JF.je (jf_lc hcalm hnd (ji_range1 rfl B.n_range (je_var 1 rfl)) (own := [("_law_x", 9)]) (blkOk_by (N := ["_law_deck_here", "_law_n", "_law_found", "_law_turn", "_law_names", "_law_back", "_law_is_mirror", "_law_many", "_law_other", "_law_x", "_law_y"]) (sc := defScope (topS 44)) (by decide +kernel)) (fun s1' H1' C1' cl1 fp1 => pg_name (i := 9) hnd rfl (by first | exact .inl rfl | exact .inr rfl)) tgok_nm (by simp) (fun x z => nomatch z) (fun s1' H1' C1' cl1 fp1 c1' c51 r1 z1 => by cases z1; exact (je_index (b1 := true) (je_var 4 rfl) (je_var 9 rfl))))) fun d37 => (JSs.at [some (.opq 0), some (.v p0), some (.v a34), none, some (.v d36), some (.v d37), some (.v d1), some (.v a12.2), none, none, none] (bs_ret (JF.je (jf_lc hcalm hnd (ji_range1 rfl B.n_range (je_var 1 rfl)) (own := [("_law_x", 9)]) (blkOk_by (N := ["_law_deck_here", "_law_n", "_law_found", "_law_turn", "_law_names", "_law_back", "_law_is_mirror", "_law_many", "_law_other", "_law_x", "_law_y"]) (sc := defScope (topS 44)) (by decide +kernel)) (fun s1' H1' C1' cl1 fp1 => pg_name (i := 9) hnd rfl (by first | exact .inl rfl | exact .inr rfl)) tgok_nm (by simp) (fun x z => nomatch z) (fun s1' H1' C1' cl1 fp1 c1' c38 r1 z1 => by cases z1; exact (je_callTy (b1 := true) call_tupF ok_tupOf rfl B.n_tuple boot_tuple (ja_cons (JF.je (jf_lc rfl hnd (ji_range1 rfl B.n_range (je_var 1 rfl)) (own := [("_law_y", 10)]) (blkOk_by (N := ["_law_deck_here", "_law_n", "_law_found", "_law_turn", "_law_names", "_law_back", "_law_is_mirror", "_law_many", "_law_other", "_law_x", "_law_y"]) (sc := (⟨.function, [(".0", .local), ("_law_x", .cell), ("tuple", .globalImplicit), ("range", .globalImplicit), ("_law_back", .cell), ("_law_found", .cell), ("_law_n", .cell), ("_law_names", .cell)], false, false, []⟩ : Scope)) (by decide +kernel)) (fun s2' H2' C2' cl2 fp2 => pg_name (i := 10) hnd rfl (by first | exact .inl rfl | exact .inr rfl)) tgok_nm (by simp) (fun x z => nomatch z) (fun s2' H2' C2' cl2 fp2 c2' c39 r2 z2 => by cases z2; exact (je_ix (b1 := true) (b2 := true) ix_seq ok_ix (je_var 4 rfl) (je_ix (b1 := true) (b2 := true) ix_seq ok_ix (je_ix (b1 := true) (b2 := true) ix_seq ok_ix (je_var 2 rfl) (je_ix (b1 := true) (b2 := true) ix_seq ok_ix (je_var 5 rfl) (je_var 9 rfl) (fun _ _ => rfl)) (fun _ _ => rfl)) (je_ix (b1 := true) (b2 := true) ix_seq ok_ix (je_var 5 rfl) (je_var 10 rfl) (fun _ _ => rfl)) (fun _ _ => rfl)) (fun _ _ => rfl))))) .nil)))))))))))))))))) rfl)
end
end K12
set_option Elab.async false
set_option linter.all false
set_option maxRecDepth 100000
set_option maxHeartbeats 4000000
namespace K12
open PySem PySem.Spec PyProof.Rows L2 Cz
section
variable {P : Program} {w : World} {K : PySem.W.Frag} {mg : Str → Option Value} {base : Heap}
theorem gn__law_table {f : Addr} {fd : FuncData} (F : FnP K "_law_table" 45 f fd) (B : Bi mg) :
    Gn P w K mg base 1 f fd ["_law_lefts_here"] (spD (S := S0) K [none] mf__law_table) :=
  gn_of (S := S0) (N := ["_law_lefts_here", "_law_n", "_law_x", "_law_y"]) m__law_table F ⟨rfl, rfl, rfl, by decide +kernel, rfl, by decide +kernel, by decide +kernel⟩ rfl (by decide) (fun _ _ => rfl) fun cdv A outer s H E c ds O hl => by
    match ds, hl with
    | [p0], _ =>
      have hcalm : (cxOf (L2.CX P w) P w K mg base ["_law_lefts_here", "_law_n", "_law_x", "_law_y"] "_law_table" (defScope (topS 45)) f cdv A outer s H E).calm = true := rfl
      have hnd : (["_law_lefts_here", "_law_n", "_law_x", "_law_y"] : List Str).Nodup := by decide +kernel
      exact (bs_set 1 hnd (je_callB (b1 := true) Cz.call_lenD ok_len rfl B.n_len boot_len (ja_cons (je_var 0 rfl) .nil)) fun d1 => (JSs.at [some (.v p0), some (.v d1), none, none] (bs_ret (je_callTy (b1 := true) call_tupF ok_tupOf rfl B.n_tuple boot_tuple (ja_cons (JF.je (jf_lc hcalm hnd (ji_range1 rfl B.n_range (je_var 1 rfl)) (own := [("_law_x", 2)]) (blkOk_by (N := ["_law_lefts_here", "_law_n", "_law_x", "_law_y"]) (sc := defScope (topS 45)) (by decide +kernel)) (fun s1' H1' C1' cl1 fp1 => pg_name (i := 2) hnd rfl (by first | exact .inl rfl | exact .inr rfl)) tgok_nm (by simp) (fun x z => nomatch z) (fun s1' H1' C1' cl1 fp1 c1' c2 r1 z1 => by cases z1; exact (je_callTy (b1 := true) call_tupF ok_tupOf rfl B.n_tuple boot_tuple (ja_cons (JF.je (jf_lc rfl hnd (ji_range1 rfl B.n_range (je_var 1 rfl)) (own := [("_law_y", 3)]) (blkOk_by (N := ["_law_lefts_here", "_law_n", "_law_x", "_law_y"]) (sc := (⟨.function, [(".0", .local), ("_law_x", .cell), ("tuple", .globalImplicit), ("range", .globalImplicit), ("_law_lefts_here", .cell), ("_law_n", .cell)], false, false, []⟩ : Scope)) (by decide +kernel)) (fun s2' H2' C2' cl2 fp2 => pg_name (i := 3) hnd rfl (by first | exact .inl rfl | exact .inr rfl)) tgok_nm (by simp) (fun x z => nomatch z) (fun s2' H2' C2' cl2 fp2 c2' c3 r2 z2 => by cases z2; exact (je_tup (ja_cons (je_ix (b1 := true) (b2 := true) ix_seq ok_ix (je_ix (b1 := true) (b2 := true) ix_seq ok_ix (je_var 0 rfl) (je_var 2 rfl) (fun _ _ => rfl)) (je_var 3 rfl) (fun _ _ => rfl)) (ja_cons (je_index (b1 := true) (je_ix (b1 := true) (b2 := true) ix_seq ok_ix (je_var 0 rfl) (je_ix (b1 := true) (b2 := true) ix_seq ok_ix (je_ix (b1 := true) (b2 := true) ix_seq ok_ix (je_var 0 rfl) (je_var 2 rfl) (fun _ _ => rfl)) (je_var 3 rfl) (fun _ _ => rfl)) (fun _ _ => rfl)) (je_var 2 rfl)) .nil)))))) .nil))))) .nil)))))
end
end K12
set_option Elab.async false
set_option linter.all false
set_option maxRecDepth 100000
set_option maxHeartbeats 4000000
namespace K12
open PySem PySem.Spec PyProof.Rows L2 Cz
section
variable {P : Program} {w : World} {K : PySem.W.Frag} {mg : Str → Option Value} {base : Heap}
theorem gn__law_row {f : Addr} {fd : FuncData} (F : FnP K "_law_row" 49 f fd) (B : Bi mg) (C__law_draw : Cal P w K mg base 1 "_law_draw" ["_law_deck_here", "_law_many"] [some 0, none] mf__law_draw) :
    Gn P w K mg base 2 f fd ["_law_deck_here", "_law_n", "_law_most"] (spD (S := S0) K [some 0, none, none] mf__law_row) :=
  gn_of (S := S0) (N := ["_law_deck_here", "_law_n", "_law_most", "_law_way", "_law_many", "_law_block", "_law_at"]) m__law_row F ⟨rfl, rfl, rfl, by decide +kernel, rfl, by decide +kernel, by decide +kernel⟩ rfl (by decide) (fun _ _ => rfl) fun cdv A outer s H E c ds O hl => by
    match ds, hl with
    | [p0, p1], _ =>
      have hcalm : (cxOf (L2.CX P w) P w K mg base ["_law_deck_here", "_law_n", "_law_most", "_law_way", "_law_many", "_law_block", "_law_at"] "_law_row" (defScope (topS 49)) f cdv A outer s H E).calm = true := rfl
      have hnd : (["_law_deck_here", "_law_n", "_law_most", "_law_way", "_law_many", "_law_block", "_law_at"] : List Str).Nodup := by decide +kernel
      exact (bs_par_dd 3 4 hcalm hnd (je_call (C__law_draw.G.mono (by decide)) O rfl C__law_draw.g C__law_draw.kp C__law_draw.b (jg_opq 0 0 (jg_dat je_int .nil))) (je_call (C__law_draw.G.mono (by decide)) O rfl C__law_draw.g C__law_draw.kp C__law_draw.b (jg_opq 0 0 (jg_dat (je_ix (b1 := true) (b2 := true) ix_seq ok_ix (je_tup (ja_cons je_int (ja_cons je_int (ja_cons je_int (ja_cons (je_bin (b1 := true) (b2 := true) op_addD ok_add (je_var 2 rfl) je_int) .nil))))) (je_call (C__law_draw.G.mono (by decide)) O rfl C__law_draw.g C__law_draw.kp C__law_draw.b (jg_opq 0 0 (jg_dat je_int .nil))) (fun _ _ => rfl)) .nil))) (fun d1 d2 => (JSs.at [some (.opq 0), some (.v p0), some (.v p1), some (.v d1), some (.v d2), none, none] (bs_ifr (jt_cmp (b1 := true) (b2 := true) (op_eqD O.room.units) ok_eq (je_var 3 rfl) je_int rfl) (JSs.at [some (.opq 0), some (.v p0), some (.v p1), some (.v d1), some (.v d2), none, none] (bs_ret (je_bin (b1 := true) (b2 := true) op_mulT ok_mulT (je_tup (ja_cons (je_call (C__law_draw.G.mono (by decide)) O rfl C__law_draw.g C__law_draw.kp C__law_draw.b (jg_opq 0 0 (jg_dat (je_var 1 rfl) .nil))) .nil)) (je_var 4 rfl)))) (nonx_bnd fun _ => nonx_rt) (JSs.at [some (.opq 0), some (.v p0), some (.v p1), some (.v d1), some (.v d2), none, none] (bs_ifr (jt_cmp (b1 := true) (b2 := true) (op_eqD O.room.units) ok_eq (je_var 3 rfl) je_int rfl) (JSs.at [some (.opq 0), some (.v p0), some (.v p1), some (.v d1), some (.v d2), none, none] (bs_setLc1 5 hcalm hnd rfl rfl (sw_true rfl rfl rfl (by decide +kernel)) (ji_range1 rfl B.n_range (je_bin (b1 := true) (b2 := true) op_addD ok_add je_int (je_call (C__law_draw.G.mono (by decide)) O rfl C__law_draw.g C__law_draw.kp C__law_draw.b (jg_opq 0 0 (jg_dat je_int .nil))))) (own := [("_law_at", 6)]) (blkOk_by (N := ["_law_deck_here", "_law_n", "_law_most", "_law_way", "_law_many", "_law_block", "_law_at"]) (sc := defScope (topS 49)) (by decide +kernel)) (fun s1' H1' C1' cl1 fp1 => pg_name (i := 6) hnd rfl (by first | exact .inl rfl | exact .inr rfl)) tgok_nm (by simp) (fun x z => nomatch z) (fun s1' H1' C1' cl1 fp1 c1' c29 r1 z1 => by cases z1; exact (je_call (C__law_draw.G.mono (by decide)) (O.bk s1' H1' C1' cl1 fp1) rfl C__law_draw.g C__law_draw.kp C__law_draw.b (jg_opq 0 0 (jg_dat (je_var 1 rfl) .nil)))) fun d18 => (JSs.at [some (.opq 0), some (.v p0), some (.v p1), some (.v d1), some (.v d2), some (.v d18), none] (bs_ret (je_callTy (b1 := true) call_tupF ok_tupOf rfl B.n_tuple boot_tuple (ja_cons (je_slice (b1 := true) (je_bin (b1 := true) (b2 := true) op_mulT ok_mulT (je_var 5 rfl) je_int) jo_none (jo_some (je_var 4 rfl))) .nil)))))) (nonx_bnd fun _ => (nonx_bnd fun _ => nonx_rt)) (JSs.at [some (.opq 0), some (.v p0), some (.v p1), some (.v d1), some (.v d2), none, none] (bs_ret (je_callTy (b1 := true) call_tupF ok_tupOf rfl B.n_tuple boot_tuple (ja_cons (JF.je (jf_lc hcalm hnd (ji_range1 rfl B.n_range (je_var 4 rfl)) (own := [("_law_at", 6)]) (blkOk_by (N := ["_law_deck_here", "_law_n", "_law_most", "_law_way", "_law_many", "_law_block", "_law_at"]) (sc := defScope (topS 49)) (by decide +kernel)) (fun s1' H1' C1' cl1 fp1 => pg_name (i := 6) hnd rfl (by first | exact .inl rfl | exact .inr rfl)) tgok_nm (by simp) (fun x z => nomatch z) (fun s1' H1' C1' cl1 fp1 c1' c31 r1 z1 => by cases z1; exact (je_call (C__law_draw.G.mono (by decide)) (O.bk s1' H1' C1' cl1 fp1) rfl C__law_draw.g C__law_draw.kp C__law_draw.b (jg_opq 0 0 (jg_dat (je_var 1 rfl) .nil)))))) .nil))))))))) rfl)
end
end K12
set_option Elab.async false
set_option linter.all false
set_option maxRecDepth 100000
set_option maxHeartbeats 4000000
namespace K12
open PySem PySem.Spec PyProof.Rows L2 Cz
section
variable {P : Program} {w : World} {K : PySem.W.Frag} {mg : Str → Option Value} {base : Heap}
theorem gn_is_square {f : Addr} {fd : FuncData} (F : FnP K "is_square" 6 f fd) (B : Bi mg) :
    Gn P w K mg base 1 f fd ["thing"] (spD (S := S0) K [none] mf_is_square) :=
  gn_of (S := S0) (N := ["thing", "part"]) m_is_square F ⟨rfl, rfl, rfl, by decide +kernel, rfl, by decide +kernel, by decide +kernel⟩ rfl (by decide) (fun _ _ => rfl) fun cdv A outer s H E c ds O hl => by
    match ds, hl with
    | [p0], _ =>
      have hcalm : (cxOf (L2.CX P w) P w K mg base ["thing", "part"] "is_square" (defScope (topS 6)) f cdv A outer s H E).calm = true := rfl
      have hnd : (["thing", "part"] : List Str).Nodup := by decide +kernel
      exact (bs_ifr (jt_w (jw_or (jt_not (jt_val (b1 := true) (je_isi (b1 := true) "tuple" rfl B.n_isinstance rfl B.n_tuple boot_tuple (je_var 0 rfl)))) (jw_or1 (jt_not (jt_chain (b1 := true) (b2 := true) (b3 := true) op_le op_le ok_le ok_le je_int (je_callB (b1 := true) Cz.call_lenD ok_len rfl B.n_len boot_len (ja_cons (je_var 0 rfl) .nil)) (je_glob2 rfl B.c_MOST_KINDS)))))) (JSs.at [some (.v p0), none] (bs_ret je_bl)) (nonx_bnd fun _ => nonx_rt) (JSs.at [some (.v p0), none] (bs_ret (je_callB (b1 := true) (cr_all hcalm) ok_all rfl B.n_all boot_all (ja_cons (JF.je (jf_lc hcalm hnd (ji_seq (je_var 0 rfl)) (own := [("part", 1)]) (blkOk_by (N := ["thing", "part"]) (sc := defScope (topS 6)) (by decide +kernel)) (fun s1' H1' C1' cl1 fp1 => pg_name (i := 1) hnd rfl (by first | exact .inl rfl | exact .inr rfl)) tgok_nm (by simp) (fun x z => nomatch z) (fun s1' H1' C1' cl1 fp1 c1' c14 r1 z1 => by cases z1; exact (je_and (b1 := true) (je_isi (b1 := true) "tuple" rfl B.n_isinstance rfl B.n_tuple boot_tuple (je_var 1 rfl)) (je_one (je_cmp (b1 := true) (b2 := true) (op_eqD (O.bk s1' H1' C1' cl1 fp1).room.units) ok_eq (je_callB (b1 := true) Cz.call_lenD ok_len rfl B.n_len boot_len (ja_cons (je_var 1 rfl) .nil)) (je_callB (b1 := true) Cz.call_lenD ok_len rfl B.n_len boot_len (ja_cons (je_var 0 rfl) .nil)) rfl)))))) .nil)))))
end
end K12
set_option Elab.async false
set_option linter.all false
set_option maxRecDepth 100000
set_option maxHeartbeats 4000000
namespace K12
open PySem PySem.Spec PyProof.Rows L2 Cz
section
variable {P : Program} {w : World} {K : PySem.W.Frag} {mg : Str → Option Value} {base : Heap}
theorem gn_is_whole {f : Addr} {fd : FuncData} (F : FnP K "is_whole" 3 f fd) (B : Bi mg) :
    Gn P w K mg base 1 f fd ["thing"] (spD (S := S0) K [none] mf_is_whole) :=
  gn_of (S := S0) (N := ["thing"]) m_is_whole F ⟨rfl, rfl, rfl, by decide +kernel, rfl, by decide +kernel, by decide +kernel⟩ rfl (by decide) (fun _ _ => rfl) fun cdv A outer s H E c ds O hl => by
    match ds, hl with
    | [p0], _ =>
      have hcalm : (cxOf (L2.CX P w) P w K mg base ["thing"] "is_whole" (defScope (topS 3)) f cdv A outer s H E).calm = true := rfl
      have hnd : (["thing"] : List Str).Nodup := by decide +kernel
      exact (bs_ret (je_and (b1 := true) (je_isi (b1 := true) "int" rfl B.n_isinstance rfl B.n_int boot_int (je_var 0 rfl)) (je_one (je_not (b1 := true) (je_isi (b1 := true) "bool" rfl B.n_isinstance rfl B.n_bool boot_bool (je_var 0 rfl))))))
end
end K12
set_option Elab.async false
set_option linter.all false
set_option maxRecDepth 100000
set_option maxHeartbeats 4000000
namespace K12
open PySem PySem.Spec PyProof.Rows L2 Cz
section
variable {P : Program} {w : World} {K : PySem.W.Frag} {mg : Str → Option Value} {base : Heap}
theorem gn_is_below {f : Addr} {fd : FuncData} (F : FnP K "is_below" 4 f fd) (B : Bi mg) (C_is_whole : Cal P w K mg base 1 "is_whole" ["thing"] [none] mf_is_whole) :
    Gn P w K mg base 2 f fd ["thing", "n"] (spD (S := S0) K [none, none] mf_is_below) :=
  gn_of (S := S0) (N := ["thing", "n"]) m_is_below F ⟨rfl, rfl, rfl, by decide +kernel, rfl, by decide +kernel, by decide +kernel⟩ rfl (by decide) (fun _ _ => rfl) fun cdv A outer s H E c ds O hl => by
    match ds, hl with
    | [p0, p1], _ =>
      have hcalm : (cxOf (L2.CX P w) P w K mg base ["thing", "n"] "is_below" (defScope (topS 4)) f cdv A outer s H E).calm = true := rfl
      have hnd : (["thing", "n"] : List Str).Nodup := by decide +kernel
      exact (bs_ret (je_and (b1 := true) (je_call (C_is_whole.G.mono (by decide)) O rfl C_is_whole.g C_is_whole.kp C_is_whole.b (jg_dat (je_var 0 rfl) .nil)) (je_one (je_chain (b1 := true) (b2 := true) (b3 := true) op_le op_lt ok_le ok_lt je_int (je_var 0 rfl) (je_var 1 rfl)))))
end
end K12
set_option Elab.async false
set_option linter.all false
set_option maxRecDepth 100000
set_option maxHeartbeats 4000000
namespace K12
open PySem PySem.Spec PyProof.Rows L2 Cz
section
variable {P : Program} {w : World} {K : PySem.W.Frag} {mg : Str → Option Value} {base : Heap}
theorem gn_is_kinds {f : Addr} {fd : FuncData} (F : FnP K "is_kinds" 5 f fd) (B : Bi mg) (C_is_below : Cal P w K mg base 2 "is_below" ["thing", "n"] [none, none] mf_is_below) :
    Gn P w K mg base 3 f fd ["thing", "n"] (spD (S := S0) K [none, none] mf_is_kinds) :=
  gn_of (S := S0) (N := ["thing", "n", "part"]) m_is_kinds F ⟨rfl, rfl, rfl, by decide +kernel, rfl, by decide +kernel, by decide +kernel⟩ rfl (by decide) (fun _ _ => rfl) fun cdv A outer s H E c ds O hl => by
    match ds, hl with
    | [p0, p1], _ =>
      have hcalm : (cxOf (L2.CX P w) P w K mg base ["thing", "n", "part"] "is_kinds" (defScope (topS 5)) f cdv A outer s H E).calm = true := rfl
      have hnd : (["thing", "n", "part"] : List Str).Nodup := by decide +kernel
      exact (bs_ret (je_and (b1 := true) (je_isi (b1 := true) "tuple" rfl B.n_isinstance rfl B.n_tuple boot_tuple (je_var 0 rfl)) (je_one (je_callB (b1 := true) (cr_all hcalm) ok_all rfl B.n_all boot_all (ja_cons (JF.je (jf_lc hcalm hnd (ji_seq (je_var 0 rfl)) (own := [("part", 2)]) (blkOk_by (N := ["thing", "n", "part"]) (sc := defScope (topS 5)) (by decide +kernel)) (fun s1' H1' C1' cl1 fp1 => pg_name (i := 2) hnd rfl (by first | exact .inl rfl | exact .inr rfl)) tgok_nm (by simp) (fun x z => nomatch z) (fun s1' H1' C1' cl1 fp1 c1' c3 r1 z1 => by cases z1; exact (je_call (C_is_below.G.mono (by decide)) (O.bk s1' H1' C1' cl1 fp1) rfl C_is_below.g C_is_below.kp C_is_below.b (jg_dat (je_var 2 rfl) (jg_dat (je_var 1 rfl) .nil)))))) .nil)))))
end
end K12
set_option Elab.async false
set_option linter.all false
set_option maxRecDepth 100000
set_option maxHeartbeats 4000000
namespace K12
open PySem PySem.Spec PyProof.Rows L2 Cz
section
variable {P : Program} {w : World} {K : PySem.W.Frag} {mg : Str → Option Value} {base : Heap}
theorem gn_is_table {f : Addr} {fd : FuncData} (F : FnP K "is_table" 15 f fd) (B : Bi mg) (C_is_square : Cal P w K mg base 1 "is_square" ["thing"] [none] mf_is_square) (C_is_kinds : Cal P w K mg base 3 "is_kinds" ["thing", "n"] [none, none] mf_is_kinds) :
    Gn P w K mg base 4 f fd ["thing"] (spD (S := S0) K [none] mf_is_table) :=
  gn_of (S := S0) (N := ["thing", "n", "line", "pair"]) m_is_table F ⟨rfl, rfl, rfl, by decide +kernel, rfl, by decide +kernel, by decide +kernel⟩ rfl (by decide) (fun _ _ => rfl) fun cdv A outer s H E c ds O hl => by
    match ds, hl with
    | [p0], _ =>
      have hcalm : (cxOf (L2.CX P w) P w K mg base ["thing", "n", "line", "pair"] "is_table" (defScope (topS 15)) f cdv A outer s H E).calm = true := rfl
      have hnd : (["thing", "n", "line", "pair"] : List Str).Nodup := by decide +kernel
      exact (bs_ifr (jt_not (jt_val (b1 := true) (je_call (C_is_square.G.mono (by decide)) O rfl C_is_square.g C_is_square.kp C_is_square.b (jg_dat (je_var 0 rfl) .nil)))) (JSs.at [some (.v p0), none, none, none] (bs_ret je_bl)) (nonx_bnd fun _ => nonx_rt) (JSs.at [some (.v p0), none, none, none] (bs_set 1 hnd (je_callB (b1 := true) Cz.call_lenD ok_len rfl B.n_len boot_len (ja_cons (je_var 0 rfl) .nil)) fun d5 => (JSs.at [some (.v p0), some (.v d5), none, none] (bs_ret (je_callB (b1 := true) (cr_all hcalm) ok_all rfl B.n_all boot_all (ja_cons (JF.je (jf_lc2 hcalm hnd (ji_seq (je_var 0 rfl)) (own := [("line", 2), ("pair", 3)]) (vs1 := [3]) (blkOk_by (N := ["thing", "n", "line", "pair"]) (sc := defScope (topS 15)) (by decide +kernel)) (by simp) (fun s1' H1' C1' cl1 fp1 => pg_name (i := 2) hnd rfl (by first | exact .inl rfl | exact .inr rfl)) tgok_nm (by simp) (fun s1' H1' C1' cl1 fp1 => pg_name (i := 3) hnd rfl (by first | exact .inl rfl | exact .inr rfl)) tgok_nm (by simp) (fun x z => nomatch z) (fun x r y h z => nomatch z) (fun x r z => by cases z; simp [wipeE_length]) (fun s1' H1' C1' cl1 fp1 c1' c7 r1 z1 => by cases z1; exact (ji_seq (je_var 2 rfl))) (fun s1' H1' C1' cl1 fp1 c1' c7 c8 r1 t1 z1 y1 => by cases z1; cases y1; exact (je_and (b1 := true) (je_call (C_is_kinds.G.mono (by decide)) (O.bk s1' H1' C1' cl1 fp1) rfl C_is_kinds.g C_is_kinds.kp C_is_kinds.b (jg_dat (je_var 3 rfl) (jg_dat (je_var 1 rfl) .nil))) (je_one (je_cmp (b1 := true) (b2 := true) (op_eqD (O.bk s1' H1' C1' cl1 fp1).room.units) ok_eq (je_callB (b1 := true) Cz.call_lenD ok_len rfl B.n_len boot_len (ja_cons (je_var 3 rfl) .nil)) je_int rfl)))))) .nil)))))))
end
end K12
set_option Elab.async false
set_option linter.all false
set_option maxRecDepth 100000
set_option maxHeartbeats 4000000
namespace K12
open PySem PySem.Spec PyProof.Rows L2 Cz
section
variable {P : Program} {w : World} {K : PySem.W.Frag} {mg : Str → Option Value} {base : Heap}
theorem gn__breaks_twice {f : Addr} {fd : FuncData} (F : FnP K "_breaks_twice" 19 f fd) (B : Bi mg) :
    Gn P w K mg base 1 f fd ["table", "x", "y"] (spD (S := S0) K [none, none, none] mf__breaks_twice) :=
  gn_of (S := S0) (N := ["table", "x", "y", "u", "v"]) m__breaks_twice F ⟨rfl, rfl, rfl, by decide +kernel, rfl, by decide +kernel, by decide +kernel⟩ rfl (by decide) (fun _ _ => rfl) fun cdv A outer s H E c ds O hl => by
    match ds, hl with
    | [p0, p1, p2], _ =>
      have hcalm : (cxOf (L2.CX P w) P w K mg base ["table", "x", "y", "u", "v"] "_breaks_twice" (defScope (topS 19)) f cdv A outer s H E).calm = true := rfl
      have hnd : (["table", "x", "y", "u", "v"] : List Str).Nodup := by decide +kernel
      exact (bs_unp2 3 4 hcalm (je_ix (b1 := true) (b2 := true) ix_seq ok_ix (je_ix (b1 := true) (b2 := true) ix_seq ok_ix (je_var 0 rfl) (je_var 1 rfl) (fun _ _ => rfl)) (je_var 2 rfl) (fun _ _ => rfl)) (pg_name (i := 3) hnd rfl (by first | exact .inl rfl | exact .inr rfl)) (pg_name (i := 4) hnd rfl (by first | exact .inl rfl | exact .inr rfl)) fun d1 d2 => (JSs.at [some (.v p0), some (.v p1), some (.v p2), some (.v d1), some (.v d2)] (bs_ret (je_cmp (b1 := true) (b2 := true) (op_neD O.room.units) ok_ne (je_ix (b1 := true) (b2 := true) ix_seq ok_ix (je_ix (b1 := true) (b2 := true) ix_seq ok_ix (je_var 0 rfl) (je_var 3 rfl) (fun _ _ => rfl)) (je_var 4 rfl) (fun _ _ => rfl)) (je_tup (ja_cons (je_var 1 rfl) (ja_cons (je_var 2 rfl) .nil))) rfl))))
end
end K12
set_option Elab.async false
set_option linter.all false
set_option maxRecDepth 100000
set_option maxHeartbeats 4000000
namespace K12
open PySem PySem.Spec PyProof.Rows L2 Cz
section
variable {P : Program} {w : World} {K : PySem.W.Frag} {mg : Str → Option Value} {base : Heap}
theorem gn__breaks_three {f : Addr} {fd : FuncData} (F : FnP K "_breaks_three" 20 f fd) (B : Bi mg) :
    Gn P w K mg base 1 f fd ["table", "x", "y", "z"] (spD (S := S0) K [none, none, none, none] mf__breaks_three) :=
  gn_of (S := S0) (N := ["table", "x", "y", "z", "a", "b", "c", "e", "f", "d"]) m__breaks_three F ⟨rfl, rfl, rfl, by decide +kernel, rfl, by decide +kernel, by decide +kernel⟩ rfl (by decide) (fun _ _ => rfl) fun cdv A outer s H E c ds O hl => by
    match ds, hl with
    | [p0, p1, p2, p3], _ =>
      have hcalm : (cxOf (L2.CX P w) P w K mg base ["table", "x", "y", "z", "a", "b", "c", "e", "f", "d"] "_breaks_three" (defScope (topS 20)) f cdv A outer s H E).calm = true := rfl
      have hnd : (["table", "x", "y", "z", "a", "b", "c", "e", "f", "d"] : List Str).Nodup := by decide +kernel
      exact (bs_unp2 4 5 hcalm (je_ix (b1 := true) (b2 := true) ix_seq ok_ix (je_ix (b1 := true) (b2 := true) ix_seq ok_ix (je_var 0 rfl) (je_var 1 rfl) (fun _ _ => rfl)) (je_var 2 rfl) (fun _ _ => rfl)) (pg_name (i := 4) hnd rfl (by first | exact .inl rfl | exact .inr rfl)) (pg_name (i := 5) hnd rfl (by first | exact .inl rfl | exact .inr rfl)) fun d1 d2 => (JSs.at [some (.v p0), some (.v p1), some (.v p2), some (.v p3), some (.v d1), some (.v d2), none, none, none, none] (bs_unp2 5 6 hcalm (je_ix (b1 := true) (b2 := true) ix_seq ok_ix (je_ix (b1 := true) (b2 := true) ix_seq ok_ix (je_var 0 rfl) (je_var 5 rfl) (fun _ _ => rfl)) (je_var 3 rfl) (fun _ _ => rfl)) (pg_name (i := 5) hnd rfl (by first | exact .inl rfl | exact .inr rfl)) (pg_name (i := 6) hnd rfl (by first | exact .inl rfl | exact .inr rfl)) fun d7 d8 => (JSs.at [some (.v p0), some (.v p1), some (.v p2), some (.v p3), some (.v d1), some (.v d7), some (.v d8), none, none, none] (bs_unp2 4 5 hcalm (je_ix (b1 := true) (b2 := true) ix_seq ok_ix (je_ix (b1 := true) (b2 := true) ix_seq ok_ix (je_var 0 rfl) (je_var 4 rfl) (fun _ _ => rfl)) (je_var 5 rfl) (fun _ _ => rfl)) (pg_name (i := 4) hnd rfl (by first | exact .inl rfl | exact .inr rfl)) (pg_name (i := 5) hnd rfl (by first | exact .inl rfl | exact .inr rfl)) fun d13 d14 => (JSs.at [some (.v p0), some (.v p1), some (.v p2), some (.v p3), some (.v d13), some (.v d14), some (.v d8), none, none, none] (bs_unp2 7 8 hcalm (je_ix (b1 := true) (b2 := true) ix_seq ok_ix (je_ix (b1 := true) (b2 := true) ix_seq ok_ix (je_var 0 rfl) (je_var 2 rfl) (fun _ _ => rfl)) (je_var 3 rfl) (fun _ _ => rfl)) (pg_name (i := 7) hnd rfl (by first | exact .inl rfl | exact .inr rfl)) (pg_name (i := 8) hnd rfl (by first | exact .inl rfl | exact .inr rfl)) fun d19 d20 => (JSs.at [some (.v p0), some (.v p1), some (.v p2), some (.v p3), some (.v d13), some (.v d14), some (.v d8), some (.v d19), some (.v d20), none] (bs_unp2 9 7 hcalm (je_ix (b1 := true) (b2 := true) ix_seq ok_ix (je_ix (b1 := true) (b2 := true) ix_seq ok_ix (je_var 0 rfl) (je_var 1 rfl) (fun _ _ => rfl)) (je_var 7 rfl) (fun _ _ => rfl)) (pg_name (i := 9) hnd rfl (by first | exact .inl rfl | exact .inr rfl)) (pg_name (i := 7) hnd rfl (by first | exact .inl rfl | exact .inr rfl)) fun d25 d26 => (JSs.at [some (.v p0), some (.v p1), some (.v p2), some (.v p3), some (.v d13), some (.v d14), some (.v d8), some (.v d26), some (.v d20), some (.v d25)] (bs_unp2 7 8 hcalm (je_ix (b1 := true) (b2 := true) ix_seq ok_ix (je_ix (b1 := true) (b2 := true) ix_seq ok_ix (je_var 0 rfl) (je_var 7 rfl) (fun _ _ => rfl)) (je_var 8 rfl) (fun _ _ => rfl)) (pg_name (i := 7) hnd rfl (by first | exact .inl rfl | exact .inr rfl)) (pg_name (i := 8) hnd rfl (by first | exact .inl rfl | exact .inr rfl)) fun d31 d32 => (JSs.at [some (.v p0), some (.v p1), some (.v p2), some (.v p3), some (.v d13), some (.v d14), some (.v d8), some (.v d31), some (.v d32), some (.v d25)] (bs_ret (je_cmp (b1 := true) (b2 := true) (op_neD O.room.units) ok_ne (je_tup (ja_cons (je_var 4 rfl) (ja_cons (je_var 5 rfl) (ja_cons (je_var 6 rfl) .nil)))) (je_tup (ja_cons (je_var 9 rfl) (ja_cons (je_var 7 rfl) (ja_cons (je_var 8 rfl) .nil)))) rfl))))))))))))))
end
end K12
set_option Elab.async false
set_option linter.all false
set_option maxRecDepth 100000
set_option maxHeartbeats 4000000
namespace K12
open PySem PySem.Spec PyProof.Rows L2 Cz
section
variable {P : Program} {w : World} {K : PySem.W.Frag} {mg : Str → Option Value} {base : Heap}
theorem gn__breaks {f : Addr} {fd : FuncData} (F : FnP K "_breaks" 21 f fd) (B : Bi mg) (C__breaks_three : Cal P w K mg base 1 "_breaks_three" ["table", "x", "y", "z"] [none, none, none, none] mf__breaks_three) :
    Gn P w K mg base 2 f fd ["table", "name", "a", "b", "c"] (spD (S := S0) K [none, none, none, none, none] mf__breaks) :=
  gn_of (S := S0) (N := ["table", "name", "a", "b", "c"]) m__breaks F ⟨rfl, rfl, rfl, by decide +kernel, rfl, by decide +kernel, by decide +kernel⟩ rfl (by decide) (fun _ _ => rfl) fun cdv A outer s H E c ds O hl => by
    match ds, hl with
    | [p0, p1, p2, p3, p4], _ =>
      have hcalm : (cxOf (L2.CX P w) P w K mg base ["table", "name", "a", "b", "c"] "_breaks" (defScope (topS 21)) f cdv A outer s H E).calm = true := rfl
      have hnd : (["table", "name", "a", "b", "c"] : List Str).Nodup := by decide +kernel
      exact (bs_ifr (jt_cmp (b1 := true) (b2 := true) (op_eqD O.room.units) ok_eq (je_var 1 rfl) je_str rfl) (JSs.at [some (.v p0), some (.v p1), some (.v p2), some (.v p3), some (.v p4)] (bs_ret (je_and (b1 := true) (je_cmp (b1 := true) (b2 := true) op_lt ok_lt (je_var 3 rfl) (je_var 4 rfl) rfl) (je_one (je_cmp (b1 := true) (b2 := true) (op_eqD O.room.units) ok_eq (je_ix (b1 := true) (b2 := true) ix_seq ok_ix (je_ix (b1 := true) (b2 := true) ix_seq ok_ix (je_ix (b1 := true) (b2 := true) ix_seq ok_ix (je_var 0 rfl) (je_var 2 rfl) (fun _ _ => rfl)) (je_var 3 rfl) (fun _ _ => rfl)) je_int (fun _ _ => rfl)) (je_ix (b1 := true) (b2 := true) ix_seq ok_ix (je_ix (b1 := true) (b2 := true) ix_seq ok_ix (je_ix (b1 := true) (b2 := true) ix_seq ok_ix (je_var 0 rfl) (je_var 2 rfl) (fun _ _ => rfl)) (je_var 4 rfl) (fun _ _ => rfl)) je_int (fun _ _ => rfl)) rfl))))) (nonx_bnd fun _ => nonx_rt) (JSs.at [some (.v p0), some (.v p1), some (.v p2), some (.v p3), some (.v p4)] (bs_ifr (jt_cmp (b1 := true) (b2 := true) (op_eqD O.room.units) ok_eq (je_var 1 rfl) je_str rfl) (JSs.at [some (.v p0), some (.v p1), some (.v p2), some (.v p3), some (.v p4)] (bs_ret (je_and (b1 := true) (je_cmp (b1 := true) (b2 := true) op_lt ok_lt (je_var 3 rfl) (je_var 4 rfl) rfl) (je_one (je_cmp (b1 := true) (b2 := true) (op_eqD O.room.units) ok_eq (je_ix (b1 := true) (b2 := true) ix_seq ok_ix (je_ix (b1 := true) (b2 := true) ix_seq ok_ix (je_ix (b1 := true) (b2 := true) ix_seq ok_ix (je_var 0 rfl) (je_var 3 rfl) (fun _ _ => rfl)) (je_var 2 rfl) (fun _ _ => rfl)) je_int (fun _ _ => rfl)) (je_ix (b1 := true) (b2 := true) ix_seq ok_ix (je_ix (b1 := true) (b2 := true) ix_seq ok_ix (je_ix (b1 := true) (b2 := true) ix_seq ok_ix (je_var 0 rfl) (je_var 4 rfl) (fun _ _ => rfl)) (je_var 2 rfl) (fun _ _ => rfl)) je_int (fun _ _ => rfl)) rfl))))) (nonx_bnd fun _ => nonx_rt) (JSs.at [some (.v p0), some (.v p1), some (.v p2), some (.v p3), some (.v p4)] (bs_ret (je_and (b1 := true) (je_cmp (b1 := true) (b2 := true) (op_eqD O.room.units) ok_eq (je_var 1 rfl) je_str rfl) (je_one (je_call (C__breaks_three.G.mono (by decide)) O rfl C__breaks_three.g C__breaks_three.kp C__breaks_three.b (jg_dat (je_var 0 rfl) (jg_dat (je_var 2 rfl) (jg_dat (je_var 3 rfl) (jg_dat (je_var 4 rfl) .nil))))))))))))
end
end K12
set_option Elab.async false
set_option linter.all false
set_option maxRecDepth 100000
set_option maxHeartbeats 4000000
namespace K12
open PySem PySem.Spec PyProof.Rows L2 Cz
section
variable {P : Program} {w : World} {K : PySem.W.Frag} {mg : Str → Option Value} {base : Heap}
theorem gn__first_fault {f : Addr} {fd : FuncData} (F : FnP K "_first_fault" 22 f fd) (B : Bi mg) (C__breaks_twice : Cal P w K mg base 1 "_breaks_twice" ["table", "x", "y"] [none, none, none] mf__breaks_twice) (C__breaks : Cal P w K mg base 2 "_breaks" ["table", "name", "a", "b", "c"] [none, none, none, none, none] mf__breaks) :
    Gn P w K mg base 3 f fd ["table"] (spD (S := S0) K [none] mf__first_fault) :=
  gn_of (S := S0) (N := ["table", "n", "name", "x", "y", "a", "b", "c"]) m__first_fault F ⟨rfl, rfl, rfl, by decide +kernel, rfl, by decide +kernel, by decide +kernel⟩ rfl (by decide) (fun _ _ => rfl) fun cdv A outer s H E c ds O hl => by
    match ds, hl with
    | [p0], _ =>
      have hcalm : (cxOf (L2.CX P w) P w K mg base ["table", "n", "name", "x", "y", "a", "b", "c"] "_first_fault" (defScope (topS 22)) f cdv A outer s H E).calm = true := rfl
      have hnd : (["table", "n", "name", "x", "y", "a", "b", "c"] : List Str).Nodup := by decide +kernel
      exact (bs_set 1 hnd (je_callB (b1 := true) Cz.call_lenD ok_len rfl B.n_len boot_len (ja_cons (je_var 0 rfl) .nil)) fun d1 => (JSs.at [some (.v p0), some (.v d1), none, none, none, none, none, none] (bs_for (fun (a2 : Unit) => [some (.v p0), some (.v d1), none, none, none, none, none, none]) () (passes_of rfl) hcalm (ji_prd2 hcalm rfl B.product rfl B.n_range (je_var 1 rfl) (je_var 1 rfl)) (pg_tup hcalm (pgs_cons (pg_name (i := 3) hnd rfl (by first | exact .inl rfl | exact .inr rfl)) (pgs_cons (pg_name (i := 4) hnd rfl (by first | exact .inl rfl | exact .inr rfl)) pgs_nil))) tg2_ok (by repeat (first | exact wk_e | refine wk_n ?_ | refine wk_s ?_)) (fun x a z => tg2_no z) (fun c3 a2 r z => by obtain ⟨u4, u5, rfl, rfl⟩ := tg2_so z; exact (JSs.at [some (.v p0), some (.v d1), none, some (.v u4), some (.v u5), none, none, none] (bs_ifr (jt_val (b1 := true) (je_call (C__breaks_twice.G.mono (by decide)) O rfl C__breaks_twice.g C__breaks_twice.kp C__breaks_twice.b (jg_dat (je_var 0 rfl) (jg_dat (je_var 3 rfl) (jg_dat (je_var 4 rfl) .nil))))) (JSs.at [some (.v p0), some (.v d1), none, some (.v u4), some (.v u5), none, none, none] (bs_ret (je_tup (ja_cons je_str (ja_cons (je_var 3 rfl) (ja_cons (je_var 4 rfl) .nil)))))) (nonx_bnd fun _ => nonx_rt) (bs_nil () (by repeat (first | exact wk_e | refine wk_n ?_ | refine wk_s ?_)))))) fun a2 => by exact (JSs.at [some (.v p0), some (.v d1), none, none, none, none, none, none] (bs_for (fun (a9 : Unit) => [some (.v p0), some (.v d1), none, none, none, none, none, none]) () (passes_of rfl) hcalm (ji_seq (je_tup (ja_cons je_str (ja_cons je_str (ja_cons je_str .nil))))) (pg_name (i := 2) hnd rfl (by first | exact .inl rfl | exact .inr rfl)) tgok_nm (by repeat (first | exact wk_e | refine wk_n ?_ | refine wk_s ?_)) (fun x a z => nomatch z) (fun c11 a9 r z => by cases z; exact (JSs.at [some (.v p0), some (.v d1), some (.v c11), none, none, none, none, none] (bs_for (fun (a12 : Unit) => [some (.v p0), some (.v d1), some (.v c11), none, none, none, none, none]) () (passes_of rfl) hcalm (ji_prd3 hcalm rfl B.product rfl B.n_range (je_var 1 rfl) (je_var 1 rfl) (je_var 1 rfl)) (pg_tup hcalm (pgs_cons (pg_name (i := 5) hnd rfl (by first | exact .inl rfl | exact .inr rfl)) (pgs_cons (pg_name (i := 6) hnd rfl (by first | exact .inl rfl | exact .inr rfl)) (pgs_cons (pg_name (i := 7) hnd rfl (by first | exact .inl rfl | exact .inr rfl)) pgs_nil)))) tg3_ok (by repeat (first | exact wk_e | refine wk_n ?_ | refine wk_s ?_)) (fun x a z => tg3_no z) (fun c13 a12 r z => by obtain ⟨u14, u15, u16, rfl, rfl⟩ := tg3_so z; exact (JSs.at [some (.v p0), some (.v d1), some (.v c11), none, none, some (.v u14), some (.v u15), some (.v u16)] (bs_ifr (jt_val (b1 := true) (je_call (C__breaks.G.mono (by decide)) O rfl C__breaks.g C__breaks.kp C__breaks.b (jg_dat (je_var 0 rfl) (jg_dat (je_var 2 rfl) (jg_dat (je_var 5 rfl) (jg_dat (je_var 6 rfl) (jg_dat (je_var 7 rfl) .nil))))))) (JSs.at [some (.v p0), some (.v d1), some (.v c11), none, none, some (.v u14), some (.v u15), some (.v u16)] (bs_ret (je_tup (ja_cons (je_var 2 rfl) (ja_cons (je_var 5 rfl) (ja_cons (je_var 6 rfl) (ja_cons (je_var 7 rfl) .nil))))))) (nonx_bnd fun _ => nonx_rt) (bs_nil () (by repeat (first | exact wk_e | refine wk_n ?_ | refine wk_s ?_)))))) fun a12 => by exact (bs_nil () (by repeat (first | exact wk_e | refine wk_n ?_ | refine wk_s ?_)))))) fun a9 => by exact (JSs.at [some (.v p0), some (.v d1), none, none, none, none, none, none] (bs_ret je_non)))))))
end
end K12
set_option Elab.async false
set_option linter.all false
set_option maxRecDepth 100000
set_option maxHeartbeats 4000000
namespace K12
open PySem PySem.Spec PyProof.Rows L2 Cz
section
variable {P : Program} {w : World} {K : PySem.W.Frag} {mg : Str → Option Value} {base : Heap}
theorem gn_is_rule {f : Addr} {fd : FuncData} (F : FnP K "is_rule" 16 f fd) (B : Bi mg) (C_is_table : Cal P w K mg base 4 "is_table" ["thing"] [none] mf_is_table) (C__first_fault : Cal P w K mg base 3 "_first_fault" ["table"] [none] mf__first_fault) :
    Gn P w K mg base 5 f fd ["thing"] (spD (S := S0) K [none] mf_is_rule) :=
  gn_of (S := S0) (N := ["thing"]) m_is_rule F ⟨rfl, rfl, rfl, by decide +kernel, rfl, by decide +kernel, by decide +kernel⟩ rfl (by decide) (fun _ _ => rfl) fun cdv A outer s H E c ds O hl => by
    match ds, hl with
    | [p0], _ =>
      have hcalm : (cxOf (L2.CX P w) P w K mg base ["thing"] "is_rule" (defScope (topS 16)) f cdv A outer s H E).calm = true := rfl
      have hnd : (["thing"] : List Str).Nodup := by decide +kernel
      exact (bs_ret (je_and (b1 := true) (je_call (C_is_table.G.mono (by decide)) O rfl C_is_table.g C_is_table.kp C_is_table.b (jg_dat (je_var 0 rfl) .nil)) (je_one (je_cmp (b1 := true) (b2 := true) op_isN ok_isN (je_call (C__first_fault.G.mono (by decide)) O rfl C__first_fault.g C__first_fault.kp C__first_fault.b (jg_dat (je_var 0 rfl) .nil)) je_non rfl))))
end
end K12
set_option Elab.async false
set_option linter.all false
set_option maxRecDepth 100000
set_option maxHeartbeats 4000000
namespace K12
open PySem PySem.Spec PyProof.Rows L2 Cz
section
variable {P : Program} {w : World} {K : PySem.W.Frag} {mg : Str → Option Value} {base : Heap}
theorem gn_require_rule {f : Addr} {fd : FuncData} (F : FnP K "require_rule" 17 f fd) (B : Bi mg) (C_is_rule : Cal P w K mg base 5 "is_rule" ["thing"] [none] mf_is_rule) :
    Gn P w K mg base 6 f fd ["rule"] (spD (S := S0) K [none] mf_require_rule) :=
  gn_of (S := S0) (N := ["rule"]) m_require_rule F ⟨rfl, rfl, rfl, by decide +kernel, rfl, by decide +kernel, by decide +kernel⟩ rfl (by decide) (fun _ _ => rfl) fun cdv A outer s H E c ds O hl => by
    match ds, hl with
    | [p0], _ =>
      have hcalm : (cxOf (L2.CX P w) P w K mg base ["rule"] "require_rule" (defScope (topS 17)) f cdv A outer s H E).calm = true := rfl
      have hnd : (["rule"] : List Str).Nodup := by decide +kernel
      exact (bs_ifr (jt_not (jt_val (b1 := true) (je_call (C_is_rule.G.mono (by decide)) O rfl C_is_rule.g C_is_rule.kp C_is_rule.b (jg_dat (je_var 0 rfl) .nil)))) (JSs.at [some (.v p0)] bs_never) nonx_bad (bs_nil () (by repeat (first | exact wk_e | refine wk_n ?_ | refine wk_s ?_))))
end
end K12
set_option Elab.async false
set_option linter.all false
set_option maxRecDepth 100000
set_option maxHeartbeats 4000000
namespace K12
open PySem PySem.Spec PyProof.Rows L2 Cz
section
variable {P : Program} {w : World} {K : PySem.W.Frag} {mg : Str → Option Value} {base : Heap}
theorem gn_is_row {f : Addr} {fd : FuncData} (F : FnP K "is_row" 24 f fd) (B : Bi mg) (C_require_rule : Cal P w K mg base 6 "require_rule" ["rule"] [none] mf_require_rule) (C_is_kinds : Cal P w K mg base 3 "is_kinds" ["thing", "n"] [none, none] mf_is_kinds) :
    Gn P w K mg base 7 f fd ["rule", "thing"] (spD (S := S0) K [none, none] mf_is_row) :=
  gn_of (S := S0) (N := ["rule", "thing"]) m_is_row F ⟨rfl, rfl, rfl, by decide +kernel, rfl, by decide +kernel, by decide +kernel⟩ rfl (by decide) (fun _ _ => rfl) fun cdv A outer s H E c ds O hl => by
    match ds, hl with
    | [p0, p1], _ =>
      have hcalm : (cxOf (L2.CX P w) P w K mg base ["rule", "thing"] "is_row" (defScope (topS 24)) f cdv A outer s H E).calm = true := rfl
      have hnd : (["rule", "thing"] : List Str).Nodup := by decide +kernel
      exact (bs_expr (b := true) (je_call (C_require_rule.G.mono (by decide)) O rfl C_require_rule.g C_require_rule.kp C_require_rule.b (jg_dat (je_var 0 rfl) .nil)) (JSs.at [some (.v p0), some (.v p1)] (bs_ret (je_call (C_is_kinds.G.mono (by decide)) O rfl C_is_kinds.g C_is_kinds.kp C_is_kinds.b (jg_dat (je_var 1 rfl) (jg_dat (je_callB (b1 := true) Cz.call_lenD ok_len rfl B.n_len boot_len (ja_cons (je_var 0 rfl) .nil)) .nil))))))
end
end K12
set_option Elab.async false
set_option linter.all false
set_option maxRecDepth 100000
set_option maxHeartbeats 4000000
namespace K12
open PySem PySem.Spec PyProof.Rows L2 Cz
section
variable {P : Program} {w : World} {K : PySem.W.Frag} {mg : Str → Option Value} {base : Heap}
theorem gn_require_row {f : Addr} {fd : FuncData} (F : FnP K "require_row" 25 f fd) (B : Bi mg) (C_is_row : Cal P w K mg base 7 "is_row" ["rule", "thing"] [none, none] mf_is_row) :
    Gn P w K mg base 8 f fd ["rule", "row"] (spD (S := S0) K [none, none] mf_require_row) :=
  gn_of (S := S0) (N := ["rule", "row"]) m_require_row F ⟨rfl, rfl, rfl, by decide +kernel, rfl, by decide +kernel, by decide +kernel⟩ rfl (by decide) (fun _ _ => rfl) fun cdv A outer s H E c ds O hl => by
    match ds, hl with
    | [p0, p1], _ =>
      have hcalm : (cxOf (L2.CX P w) P w K mg base ["rule", "row"] "require_row" (defScope (topS 25)) f cdv A outer s H E).calm = true := rfl
      have hnd : (["rule", "row"] : List Str).Nodup := by decide +kernel
      exact (bs_ifr (jt_not (jt_val (b1 := true) (je_call (C_is_row.G.mono (by decide)) O rfl C_is_row.g C_is_row.kp C_is_row.b (jg_dat (je_var 0 rfl) (jg_dat (je_var 1 rfl) .nil))))) (JSs.at [some (.v p0), some (.v p1)] bs_never) nonx_bad (bs_nil () (by repeat (first | exact wk_e | refine wk_n ?_ | refine wk_s ?_))))
end
end K12
set_option Elab.async false
set_option linter.all false
set_option maxRecDepth 100000
set_option maxHeartbeats 4000000
namespace K12
open PySem PySem.Spec PyProof.Rows L2 Cz
section
variable {P : Program} {w : World} {K : PySem.W.Frag} {mg : Str → Option Value} {base : Heap}
theorem gn_identity {f : Addr} {fd : FuncData} (F : FnP K "identity" 7 f fd) (B : Bi mg) :
    Gn P w K mg base 1 f fd ["n"] (spD (S := S0) K [none] mf_identity) :=
  gn_of (S := S0) (N := ["n"]) m_identity F ⟨rfl, rfl, rfl, by decide +kernel, rfl, by decide +kernel, by decide +kernel⟩ rfl (by decide) (fun _ _ => rfl) fun cdv A outer s H E c ds O hl => by
    match ds, hl with
    | [p0], _ =>
      have hcalm : (cxOf (L2.CX P w) P w K mg base ["n"] "identity" (defScope (topS 7)) f cdv A outer s H E).calm = true := rfl
      have hnd : (["n"] : List Str).Nodup := by decide +kernel
      exact (bs_ret (je_tupRg hcalm rfl B.n_tuple rfl B.n_range (je_var 0 rfl)))
end
end K12
set_option Elab.async false
set_option linter.all false
set_option maxRecDepth 100000
set_option maxHeartbeats 4000000
namespace K12
open PySem PySem.Spec PyProof.Rows L2 Cz
section
variable {P : Program} {w : World} {K : PySem.W.Frag} {mg : Str → Option Value} {base : Heap}
theorem gn_after {f : Addr} {fd : FuncData} (F : FnP K "after" 8 f fd) (B : Bi mg) :
    Gn P w K mg base 1 f fd ["t", "s"] (spD (S := S0) K [none, none] mf_after) :=
  gn_of (S := S0) (N := ["t", "s", "y"]) m_after F ⟨rfl, rfl, rfl, by decide +kernel, rfl, by decide +kernel, by decide +kernel⟩ rfl (by decide) (fun _ _ => rfl) fun cdv A outer s H E c ds O hl => by
    match ds, hl with
    | [p0, p1], _ =>
      have hcalm : (cxOf (L2.CX P w) P w K mg base ["t", "s", "y"] "after" (defScope (topS 8)) f cdv A outer s H E).calm = true := rfl
      have hnd : (["t", "s", "y"] : List Str).Nodup := by decide +kernel
      exact (bs_ret (je_callTy (b1 := true) call_tupF ok_tupOf rfl B.n_tuple boot_tuple (ja_cons (JF.je (jf_lc hcalm hnd (ji_seq (je_var 1 rfl)) (own := [("y", 2)]) (blkOk_by (N := ["t", "s", "y"]) (sc := defScope (topS 8)) (by decide +kernel)) (fun s1' H1' C1' cl1 fp1 => pg_name (i := 2) hnd rfl (by first | exact .inl rfl | exact .inr rfl)) tgok_nm (by simp) (fun x z => nomatch z) (fun s1' H1' C1' cl1 fp1 c1' c2 r1 z1 => by cases z1; exact (je_ix (b1 := true) (b2 := true) ix_seq ok_ix (je_var 0 rfl) (je_var 2 rfl) (fun _ _ => rfl))))) .nil)))
end
end K12
set_option Elab.async false
set_option linter.all false
set_option maxRecDepth 100000
set_option maxHeartbeats 4000000
namespace K12
open PySem PySem.Spec PyProof.Rows L2 Cz
section
variable {P : Program} {w : World} {K : PySem.W.Frag} {mg : Str → Option Value} {base : Heap}
theorem gn_order_and_turn {f : Addr} {fd : FuncData} (F : FnP K "order_and_turn" 27 f fd) (B : Bi mg) (C_after : Cal P w K mg base 1 "after" ["t", "s"] [none, none] mf_after) (C_identity : Cal P w K mg base 1 "identity" ["n"] [none] mf_identity) :
    Gn P w K mg base 2 f fd ["lefts", "row"] (spD (S := S0) K [none, none] mf_order_and_turn) :=
  gn_of (S := S0) (N := ["lefts", "row", "turn", "order", "x"]) m_order_and_turn F ⟨rfl, rfl, rfl, by decide +kernel, rfl, by decide +kernel, by decide +kernel⟩ rfl (by decide) (fun _ _ => rfl) fun cdv A outer s H E c ds O hl => by
    match ds, hl with
    | [p0, p1], _ =>
      have hcalm : (cxOf (L2.CX P w) P w K mg base ["lefts", "row", "turn", "order", "x"] "order_and_turn" (defScope (topS 27)) f cdv A outer s H E).calm = true := rfl
      have hnd : (["lefts", "row", "turn", "order", "x"] : List Str).Nodup := by decide +kernel
      exact (bs_set 2 hnd (je_call (C_identity.G.mono (by decide)) O rfl C_identity.g C_identity.kp C_identity.b (jg_dat (je_callB (b1 := true) Cz.call_lenD ok_len rfl B.n_len boot_len (ja_cons (je_var 0 rfl) .nil)) .nil)) fun d1 => (JSs.at [some (.v p0), some (.v p1), some (.v d1), none, none] (bs_own 3 hnd (jf_lst .nil) fun o2 => (JSs.at [some (.v p0), some (.v p1), some (.v d1), some (.own o2), none] (bs_for (fun (a3 : D × List D) => [some (.v p0), some (.v p1), some (.v a3.1), some (.own a3.2), none]) (d1, o2) (passes_of rfl) hcalm (ji_seq (je_var 1 rfl)) (pg_name (i := 4) hnd rfl (by first | exact .inl rfl | exact .inr rfl)) tgok_nm (by repeat (first | exact wk_e | refine wk_n ?_ | refine wk_s ?_)) (fun x a z => nomatch z) (fun c5 a3 r z => by cases z; exact (JSs.at [some (.v p0), some (.v p1), some (.v a3.1), some (.own a3.2), some (.v c5)] (bs_app1 3 rfl (je_ix (b1 := true) (b2 := true) ix_seq ok_ix (je_var 2 rfl) (je_var 4 rfl) (fun _ _ => rfl)) fun o8 => (JSs.at [some (.v p0), some (.v p1), some (.v a3.1), some (.own o8), some (.v c5)] (bs_set 2 hnd (je_call (C_after.G.mono (by decide)) O rfl C_after.g C_after.kp C_after.b (jg_dat (je_var 2 rfl) (jg_dat (je_ix (b1 := true) (b2 := true) ix_seq ok_ix (je_var 0 rfl) (je_var 4 rfl) (fun _ _ => rfl)) .nil))) fun d10 => (bs_nil (d10, o8) (by repeat (first | exact wk_e | refine wk_n ?_ | refine wk_s ?_)))))))) fun a3 => by exact (JSs.at [some (.v p0), some (.v p1), some (.v a3.1), some (.own a3.2), none] (bs_ret (je_tup (ja_cons (je_callTy (b1 := true) call_tupF ok_tupOf rfl B.n_tuple boot_tuple (ja_cons (je_own 3 rfl) .nil)) (ja_cons (je_var 2 rfl) .nil))))))))))
end
end K12
set_option Elab.async false
set_option linter.all false
set_option maxRecDepth 100000
set_option maxHeartbeats 4000000
namespace K12
open PySem PySem.Spec PyProof.Rows L2 Cz
section
variable {P : Program} {w : World} {K : PySem.W.Frag} {mg : Str → Option Value} {base : Heap}
theorem gn_left_turns {f : Addr} {fd : FuncData} (F : FnP K "left_turns" 18 f fd) (B : Bi mg) :
    Gn P w K mg base 1 f fd ["table"] (spD (S := S0) K [none] mf_left_turns) :=
  gn_of (S := S0) (N := ["table", "line", "pair"]) m_left_turns F ⟨rfl, rfl, rfl, by decide +kernel, rfl, by decide +kernel, by decide +kernel⟩ rfl (by decide) (fun _ _ => rfl) fun cdv A outer s H E c ds O hl => by
    match ds, hl with
    | [p0], _ =>
      have hcalm : (cxOf (L2.CX P w) P w K mg base ["table", "line", "pair"] "left_turns" (defScope (topS 18)) f cdv A outer s H E).calm = true := rfl
      have hnd : (["table", "line", "pair"] : List Str).Nodup := by decide +kernel
      exact (bs_ret (JF.je (jf_lc hcalm hnd (ji_seq (je_var 0 rfl)) (own := [("line", 1)]) (blkOk_by (N := ["table", "line", "pair"]) (sc := defScope (topS 18)) (by decide +kernel)) (fun s1' H1' C1' cl1 fp1 => pg_name (i := 1) hnd rfl (by first | exact .inl rfl | exact .inr rfl)) tgok_nm (by simp) (fun x z => nomatch z) (fun s1' H1' C1' cl1 fp1 c1' c2 r1 z1 => by cases z1; exact (je_callTy (b1 := true) call_tupF ok_tupOf rfl B.n_tuple boot_tuple (ja_cons (JF.je (jf_lc rfl hnd (ji_seq (je_var 1 rfl)) (own := [("pair", 2)]) (blkOk_by (N := ["table", "line", "pair"]) (sc := (⟨.function, [(".0", .local), ("line", .local), ("tuple", .globalImplicit)], false, false, []⟩ : Scope)) (by decide +kernel)) (fun s2' H2' C2' cl2 fp2 => pg_name (i := 2) hnd rfl (by first | exact .inl rfl | exact .inr rfl)) tgok_nm (by simp) (fun x z => nomatch z) (fun s2' H2' C2' cl2 fp2 c2' c4 r2 z2 => by cases z2; exact (je_ix (b1 := true) (b2 := true) ix_seq ok_ix (je_var 2 rfl) je_int (fun _ _ => rfl))))) .nil))))))
end
end K12
set_option Elab.async false
set_option linter.all false
set_option maxRecDepth 100000
set_option maxHeartbeats 4000000
namespace K12
open PySem PySem.Spec PyProof.Rows L2 Cz
section
variable {P : Program} {w : World} {K : PySem.W.Frag} {mg : Str → Option Value} {base : Heap}
theorem gn_turn_of_row {f : Addr} {fd : FuncData} (F : FnP K "turn_of_row" 32 f fd) (B : Bi mg) (C_require_row : Cal P w K mg base 8 "require_row" ["rule", "row"] [none, none] mf_require_row) (C_order_and_turn : Cal P w K mg base 2 "order_and_turn" ["lefts", "row"] [none, none] mf_order_and_turn) (C_left_turns : Cal P w K mg base 1 "left_turns" ["table"] [none] mf_left_turns) :
    Gn P w K mg base 9 f fd ["rule", "row"] (spD (S := S0) K [none, none] mf_turn_of_row) :=
  gn_of (S := S0) (N := ["rule", "row", "_", "turn"]) m_turn_of_row F ⟨rfl, rfl, rfl, by decide +kernel, rfl, by decide +kernel, by decide +kernel⟩ rfl (by decide) (fun _ _ => rfl) fun cdv A outer s H E c ds O hl => by
    match ds, hl with
    | [p0, p1], _ =>
      have hcalm : (cxOf (L2.CX P w) P w K mg base ["rule", "row", "_", "turn"] "turn_of_row" (defScope (topS 32)) f cdv A outer s H E).calm = true := rfl
      have hnd : (["rule", "row", "_", "turn"] : List Str).Nodup := by decide +kernel
      exact (bs_expr (b := true) (je_call (C_require_row.G.mono (by decide)) O rfl C_require_row.g C_require_row.kp C_require_row.b (jg_dat (je_var 0 rfl) (jg_dat (je_var 1 rfl) .nil))) (JSs.at [some (.v p0), some (.v p1), none, none] (bs_unp2 2 3 hcalm (je_call (C_order_and_turn.G.mono (by decide)) O rfl C_order_and_turn.g C_order_and_turn.kp C_order_and_turn.b (jg_dat (je_call (C_left_turns.G.mono (by decide)) O rfl C_left_turns.g C_left_turns.kp C_left_turns.b (jg_dat (je_var 0 rfl) .nil)) (jg_dat (je_var 1 rfl) .nil))) (pg_name (i := 2) hnd rfl (by first | exact .inl rfl | exact .inr rfl)) (pg_name (i := 3) hnd rfl (by first | exact .inl rfl | exact .inr rfl)) fun d1 d2 => (JSs.at [some (.v p0), some (.v p1), some (.v d1), some (.v d2)] (bs_ret (je_var 3 rfl))))))
end
end K12
set_option Elab.async false
set_option linter.all false
set_option maxRecDepth 100000
set_option maxHeartbeats 4000000
namespace K12
open PySem PySem.Spec PyProof.Rows L2 Cz
section
variable {P : Program} {w : World} {K : PySem.W.Frag} {mg : Str → Option Value} {base : Heap}
theorem gn__law_same {f : Addr} {fd : FuncData} (F : FnP K "_law_same" 48 f fd) (B : Bi mg) :
    Gn P w K mg base 1 f fd ["_law_told", "_law_due"] (spD (S := S0) K [none, none] mf__law_same) :=
  gn_of (S := S0) (N := ["_law_told", "_law_due"]) m__law_same F ⟨rfl, rfl, rfl, by decide +kernel, rfl, by decide +kernel, by decide +kernel⟩ rfl (by decide) (fun _ _ => rfl) fun cdv A outer s H E c ds O hl => by
    match ds, hl with
    | [p0, p1], _ =>
      have hcalm : (cxOf (L2.CX P w) P w K mg base ["_law_told", "_law_due"] "_law_same" (defScope (topS 48)) f cdv A outer s H E).calm = true := rfl
      have hnd : (["_law_told", "_law_due"] : List Str).Nodup := by decide +kernel
      exact (bs_ret (je_cmp (b1 := true) (b2 := true) (op_eqD O.room.units) ok_eq (je_callB (b1 := true) (call_reprD O.grd O.room.units) ok_repr rfl B.n_repr boot_repr (ja_cons (je_var 0 rfl) .nil)) (je_callB (b1 := true) (call_reprD O.grd O.room.units) ok_repr rfl B.n_repr boot_repr (ja_cons (je_var 1 rfl) .nil)) rfl))
end
end K12
set_option Elab.async false
set_option linter.all false
set_option maxRecDepth 100000
set_option maxHeartbeats 4000000
namespace K12
open PySem PySem.Spec PyProof.Rows L2 Cz
section
variable {P : Program} {w : World} {K : PySem.W.Frag} {mg : Str → Option Value} {base : Heap}
theorem gn_order_of {f : Addr} {fd : FuncData} (F : FnP K "order_of" 30 f fd) (B : Bi mg) (C_require_row : Cal P w K mg base 8 "require_row" ["rule", "row"] [none, none] mf_require_row) (C_order_and_turn : Cal P w K mg base 2 "order_and_turn" ["lefts", "row"] [none, none] mf_order_and_turn) (C_left_turns : Cal P w K mg base 1 "left_turns" ["table"] [none] mf_left_turns) :
    Gn P w K mg base 9 f fd ["rule", "row"] (spD (S := S0) K [none, none] mf_order_of) :=
  gn_of (S := S0) (N := ["rule", "row", "order", "_"]) m_order_of F ⟨rfl, rfl, rfl, by decide +kernel, rfl, by decide +kernel, by decide +kernel⟩ rfl (by decide) (fun _ _ => rfl) fun cdv A outer s H E c ds O hl => by
    match ds, hl with
    | [p0, p1], _ =>
      have hcalm : (cxOf (L2.CX P w) P w K mg base ["rule", "row", "order", "_"] "order_of" (defScope (topS 30)) f cdv A outer s H E).calm = true := rfl
      have hnd : (["rule", "row", "order", "_"] : List Str).Nodup := by decide +kernel
      exact (bs_expr (b := true) (je_call (C_require_row.G.mono (by decide)) O rfl C_require_row.g C_require_row.kp C_require_row.b (jg_dat (je_var 0 rfl) (jg_dat (je_var 1 rfl) .nil))) (JSs.at [some (.v p0), some (.v p1), none, none] (bs_unp2 2 3 hcalm (je_call (C_order_and_turn.G.mono (by decide)) O rfl C_order_and_turn.g C_order_and_turn.kp C_order_and_turn.b (jg_dat (je_call (C_left_turns.G.mono (by decide)) O rfl C_left_turns.g C_left_turns.kp C_left_turns.b (jg_dat (je_var 0 rfl) .nil)) (jg_dat (je_var 1 rfl) .nil))) (pg_name (i := 2) hnd rfl (by first | exact .inl rfl | exact .inr rfl)) (pg_name (i := 3) hnd rfl (by first | exact .inl rfl | exact .inr rfl)) fun d1 d2 => (JSs.at [some (.v p0), some (.v p1), some (.v d1), some (.v d2)] (bs_ret (je_var 2 rfl))))))
end
end K12
set_option Elab.async false
set_option linter.all false
set_option maxRecDepth 100000
set_option maxHeartbeats 4000000
namespace K12
open PySem PySem.Spec PyProof.Rows L2 Cz
section
variable {P : Program} {w : World} {K : PySem.W.Frag} {mg : Str → Option Value} {base : Heap}
theorem gn__law_read {f : Addr} {fd : FuncData} (F : FnP K "_law_read" 46 f fd) (B : Bi mg) (C__law_after : Cal P w K mg base 1 "_law_after" ["_law_one", "_law_other"] [none, none] mf__law_after) :
    Gn P w K mg base 2 f fd ["_law_lefts_here", "_law_row_here"] (spD (S := S0) K [none, none] mf__law_read) :=
  gn_of (S := S0) (N := ["_law_lefts_here", "_law_row_here", "_law_x", "_law_turn", "_law_found"]) m__law_read F ⟨rfl, rfl, rfl, by decide +kernel, rfl, by decide +kernel, by decide +kernel⟩ rfl (by decide) (fun _ _ => rfl) fun cdv A outer s H E c ds O hl => by
    match ds, hl with
    | [p0, p1], _ =>
      have hcalm : (cxOf (L2.CX P w) P w K mg base ["_law_lefts_here", "_law_row_here", "_law_x", "_law_turn", "_law_found"] "_law_read" (defScope (topS 46)) f cdv A outer s H E).calm = true := rfl
      have hnd : (["_law_lefts_here", "_law_row_here", "_law_x", "_law_turn", "_law_found"] : List Str).Nodup := by decide +kernel
      exact (bs_par_do 3 4 hcalm hnd (je_tupRg hcalm rfl B.n_tuple rfl B.n_range (je_callB (b1 := true) Cz.call_lenD ok_len rfl B.n_len boot_len (ja_cons (je_var 0 rfl) .nil))) (jf_lst .nil) (fun d1 o2 => (JSs.at [some (.v p0), some (.v p1), none, some (.v d1), some (.own o2)] (bs_for (fun (a4 : D × List D) => [some (.v p0), some (.v p1), none, some (.v a4.1), some (.own a4.2)]) (d1, o2) (passes_of rfl) hcalm (ji_seq (je_var 1 rfl)) (pg_name (i := 2) hnd rfl (by first | exact .inl rfl | exact .inr rfl)) tgok_nm (by repeat (first | exact wk_e | refine wk_n ?_ | refine wk_s ?_)) (fun x a z => nomatch z) (fun c6 a4 r z => by cases z; exact (JSs.at [some (.v p0), some (.v p1), some (.v c6), some (.v a4.1), some (.own a4.2)] (bs_app1 4 rfl (je_ix (b1 := true) (b2 := true) ix_seq ok_ix (je_var 3 rfl) (je_var 2 rfl) (fun _ _ => rfl)) fun o9 => (JSs.at [some (.v p0), some (.v p1), some (.v c6), some (.v a4.1), some (.own o9)] (bs_set 3 hnd (je_call (C__law_after.G.mono (by decide)) O rfl C__law_after.g C__law_after.kp C__law_after.b (jg_dat (je_var 3 rfl) (jg_dat (je_ix (b1 := true) (b2 := true) ix_seq ok_ix (je_var 0 rfl) (je_var 2 rfl) (fun _ _ => rfl)) .nil))) fun d11 => (bs_nil (d11, o9) (by repeat (first | exact wk_e | refine wk_n ?_ | refine wk_s ?_)))))))) fun a4 => by exact (JSs.at [some (.v p0), some (.v p1), none, some (.v a4.1), some (.own a4.2)] (bs_ret (je_tup (ja_cons (je_callTy (b1 := true) call_tupF ok_tupOf rfl B.n_tuple boot_tuple (ja_cons (je_own 4 rfl) .nil)) (ja_cons (je_var 3 rfl) .nil)))))))) rfl)
end
end K12
set_option Elab.async false
set_option linter.all false
set_option maxRecDepth 100000
set_option maxHeartbeats 4000000
namespace K12
open PySem PySem.Spec PyProof.Rows L2 Cz
section
variable {P : Program} {w : World} {K : PySem.W.Frag} {mg : Str → Option Value} {base : Heap}
theorem gn__law_is_joined {f : Addr} {fd : FuncData} (F : FnP K "_law_is_joined" 52 f fd) (B : Bi mg) (C__law_same : Cal P w K mg base 1 "_law_same" ["_law_told", "_law_due"] [none, none] mf__law_same) (C_order_of : Cal P w K mg base 9 "order_of" ["rule", "row"] [none, none] mf_order_of) (C__law_after : Cal P w K mg base 1 "_law_after" ["_law_one", "_law_other"] [none, none] mf__law_after) (C__law_read : Cal P w K mg base 2 "_law_read" ["_law_lefts_here", "_law_row_here"] [none, none] mf__law_read) (C_turn_of_row : Cal P w K mg base 9 "turn_of_row" ["rule", "row"] [none, none] mf_turn_of_row) :
    Gn P w K mg base 10 f fd ["_law_table_here", "_law_lefts_here", "_law_one", "_law_other"] (spD (S := S0) K [none, none, none, none] mf__law_is_joined) :=
  gn_of (S := S0) (N := ["_law_table_here", "_law_lefts_here", "_law_one", "_law_other", "_law_turn", "_law_due", "_law_y"]) m__law_is_joined F ⟨rfl, rfl, rfl, by decide +kernel, rfl, by decide +kernel, by decide +kernel⟩ rfl (by decide) (fun _ _ => rfl) fun cdv A outer s H E c ds O hl => by
    match ds, hl with
    | [p0, p1, p2, p3], _ =>
      have hcalm : (cxOf (L2.CX P w) P w K mg base ["_law_table_here", "_law_lefts_here", "_law_one", "_law_other", "_law_turn", "_law_due", "_law_y"] "_law_is_joined" (defScope (topS 52)) f cdv A outer s H E).calm = true := rfl
      have hnd : (["_law_table_here", "_law_lefts_here", "_law_one", "_law_other", "_law_turn", "_law_due", "_law_y"] : List Str).Nodup := by decide +kernel
      exact (bs_set 4 hnd (je_call (C_turn_of_row.G.mono (by decide)) O rfl C_turn_of_row.g C_turn_of_row.kp C_turn_of_row.b (jg_dat (je_var 0 rfl) (jg_dat (je_var 2 rfl) .nil))) fun d1 => (JSs.at [some (.v p0), some (.v p1), some (.v p2), some (.v p3), some (.v d1), none, none] (bs_set 5 hnd (je_bin (b1 := true) (b2 := true) op_addD ok_add (je_call (C_order_of.G.mono (by decide)) O rfl C_order_of.g C_order_of.kp C_order_of.b (jg_dat (je_var 0 rfl) (jg_dat (je_var 2 rfl) .nil))) (je_callTy (b1 := true) call_tupF ok_tupOf rfl B.n_tuple boot_tuple (ja_cons (JF.je (jf_lc hcalm hnd (ji_seq (je_call (C_order_of.G.mono (by decide)) O rfl C_order_of.g C_order_of.kp C_order_of.b (jg_dat (je_var 0 rfl) (jg_dat (je_var 3 rfl) .nil)))) (own := [("_law_y", 6)]) (blkOk_by (N := ["_law_table_here", "_law_lefts_here", "_law_one", "_law_other", "_law_turn", "_law_due", "_law_y"]) (sc := defScope (topS 52)) (by decide +kernel)) (fun s1' H1' C1' cl1 fp1 => pg_name (i := 6) hnd rfl (by first | exact .inl rfl | exact .inr rfl)) tgok_nm (by simp) (fun x z => nomatch z) (fun s1' H1' C1' cl1 fp1 c1' c17 r1 z1 => by cases z1; exact (je_ix (b1 := true) (b2 := true) ix_seq ok_ix (je_var 4 rfl) (je_var 6 rfl) (fun _ _ => rfl))))) .nil))) fun d2 => (JSs.at [some (.v p0), some (.v p1), some (.v p2), some (.v p3), some (.v d1), some (.v d2), none] (bs_ifr (jt_not (jt_val (b1 := true) (je_call (C__law_same.G.mono (by decide)) O rfl C__law_same.g C__law_same.kp C__law_same.b (jg_dat (je_call (C_order_of.G.mono (by decide)) O rfl C_order_of.g C_order_of.kp C_order_of.b (jg_dat (je_var 0 rfl) (jg_dat (je_bin (b1 := true) (b2 := true) op_addD ok_add (je_var 2 rfl) (je_var 3 rfl)) .nil))) (jg_dat (je_var 5 rfl) .nil))))) (JSs.at [some (.v p0), some (.v p1), some (.v p2), some (.v p3), some (.v d1), some (.v d2), none] (bs_ret je_bl)) (nonx_bnd fun _ => nonx_rt) (JSs.at [some (.v p0), some (.v p1), some (.v p2), some (.v p3), some (.v d1), some (.v d2), none] (bs_ret (je_call (C__law_same.G.mono (by decide)) O rfl C__law_same.g C__law_same.kp C__law_same.b (jg_dat (je_call (C_turn_of_row.G.mono (by decide)) O rfl C_turn_of_row.g C_turn_of_row.kp C_turn_of_row.b (jg_dat (je_var 0 rfl) (jg_dat (je_bin (b1 := true) (b2 := true) op_addD ok_add (je_var 2 rfl) (je_var 3 rfl)) .nil))) (jg_dat (je_call (C__law_after.G.mono (by decide)) O rfl C__law_after.g C__law_after.kp C__law_after.b (jg_dat (je_ix (b1 := true) (b2 := true) ix_seq ok_ix (je_call (C__law_read.G.mono (by decide)) O rfl C__law_read.g C__law_read.kp C__law_read.b (jg_dat (je_var 1 rfl) (jg_dat (je_var 2 rfl) .nil))) je_int (fun _ _ => rfl)) (jg_dat (je_ix (b1 := true) (b2 := true) ix_seq ok_ix (je_call (C__law_read.G.mono (by decide)) O rfl C__law_read.g C__law_read.kp C__law_read.b (jg_dat (je_var 1 rfl) (jg_dat (je_var 3 rfl) .nil))) je_int (fun _ _ => rfl)) .nil))) .nil))))))))))
end
end K12
set_option Elab.async false
set_option linter.all false
set_option maxRecDepth 100000
set_option maxHeartbeats 4000000
namespace K12
open PySem PySem.Spec PyProof.Rows L2 Cz
section
variable {P : Program} {w : World} {K : PySem.W.Frag} {mg : Str → Option Value} {base : Heap}
theorem gn_counts {f : Addr} {fd : FuncData} (F : FnP K "counts" 28 f fd) (B : Bi mg) :
    Gn P w K mg base 1 f fd ["order", "n"] (spD (S := S0) K [none, none] mf_counts) :=
  gn_of (S := S0) (N := ["order", "n", "y"]) m_counts F ⟨rfl, rfl, rfl, by decide +kernel, rfl, by decide +kernel, by decide +kernel⟩ rfl (by decide) (fun _ _ => rfl) fun cdv A outer s H E c ds O hl => by
    match ds, hl with
    | [p0, p1], _ =>
      have hcalm : (cxOf (L2.CX P w) P w K mg base ["order", "n", "y"] "counts" (defScope (topS 28)) f cdv A outer s H E).calm = true := rfl
      have hnd : (["order", "n", "y"] : List Str).Nodup := by decide +kernel
      exact (bs_ret (je_callTy (b1 := true) call_tupF ok_tupOf rfl B.n_tuple boot_tuple (ja_cons (JF.je (jf_lc hcalm hnd (ji_range1 rfl B.n_range (je_var 1 rfl)) (own := [("y", 2)]) (blkOk_by (N := ["order", "n", "y"]) (sc := defScope (topS 28)) (by decide +kernel)) (fun s1' H1' C1' cl1 fp1 => pg_name (i := 2) hnd rfl (by first | exact .inl rfl | exact .inr rfl)) tgok_nm (by simp) (fun x z => nomatch z) (fun s1' H1' C1' cl1 fp1 c1' c1 r1 z1 => by cases z1; exact (je_count (b1 := true) (je_var 0 rfl) (je_var 2 rfl))))) .nil)))
end
end K12
set_option Elab.async false
set_option linter.all false
set_option maxRecDepth 100000
set_option maxHeartbeats 4000000
namespace K12
open PySem PySem.Spec PyProof.Rows L2 Cz
section
variable {P : Program} {w : World} {K : PySem.W.Frag} {mg : Str → Option Value} {base : Heap}
theorem gn_heap_of {f : Addr} {fd : FuncData} (F : FnP K "heap_of" 31 f fd) (B : Bi mg) (C_counts : Cal P w K mg base 1 "counts" ["order", "n"] [none, none] mf_counts) (C_order_of : Cal P w K mg base 9 "order_of" ["rule", "row"] [none, none] mf_order_of) :
    Gn P w K mg base 10 f fd ["rule", "row"] (spD (S := S0) K [none, none] mf_heap_of) :=
  gn_of (S := S0) (N := ["rule", "row"]) m_heap_of F ⟨rfl, rfl, rfl, by decide +kernel, rfl, by decide +kernel, by decide +kernel⟩ rfl (by decide) (fun _ _ => rfl) fun cdv A outer s H E c ds O hl => by
    match ds, hl with
    | [p0, p1], _ =>
      have hcalm : (cxOf (L2.CX P w) P w K mg base ["rule", "row"] "heap_of" (defScope (topS 31)) f cdv A outer s H E).calm = true := rfl
      have hnd : (["rule", "row"] : List Str).Nodup := by decide +kernel
      exact (bs_ret (je_call (C_counts.G.mono (by decide)) O rfl C_counts.g C_counts.kp C_counts.b (jg_dat (je_call (C_order_of.G.mono (by decide)) O rfl C_order_of.g C_order_of.kp C_order_of.b (jg_dat (je_var 0 rfl) (jg_dat (je_var 1 rfl) .nil))) (jg_dat (je_callB (b1 := true) Cz.call_lenD ok_len rfl B.n_len boot_len (ja_cons (je_var 0 rfl) .nil)) .nil))))
end
end K12
set_option Elab.async false
set_option linter.all false
set_option maxRecDepth 100000
set_option maxHeartbeats 4000000
namespace K12
open PySem PySem.Spec PyProof.Rows L2 Cz
section
variable {P : Program} {w : World} {K : PySem.W.Frag} {mg : Str → Option Value} {base : Heap}
theorem gn_one_more {f : Addr} {fd : FuncData} (F : FnP K "one_more" 26 f fd) (B : Bi mg) (C_after : Cal P w K mg base 1 "after" ["t", "s"] [none, none] mf_after) :
    Gn P w K mg base 2 f fd ["lefts", "turn", "y"] (spD (S := S0) K [none, none, none] mf_one_more) :=
  gn_of (S := S0) (N := ["lefts", "turn", "y"]) m_one_more F ⟨rfl, rfl, rfl, by decide +kernel, rfl, by decide +kernel, by decide +kernel⟩ rfl (by decide) (fun _ _ => rfl) fun cdv A outer s H E c ds O hl => by
    match ds, hl with
    | [p0, p1, p2], _ =>
      have hcalm : (cxOf (L2.CX P w) P w K mg base ["lefts", "turn", "y"] "one_more" (defScope (topS 26)) f cdv A outer s H E).calm = true := rfl
      have hnd : (["lefts", "turn", "y"] : List Str).Nodup := by decide +kernel
      exact (bs_ret (je_call (C_after.G.mono (by decide)) O rfl C_after.g C_after.kp C_after.b (jg_dat (je_var 1 rfl) (jg_dat (je_ix (b1 := true) (b2 := true) ix_seq ok_ix (je_var 0 rfl) (je_index (b1 := true) (je_var 1 rfl) (je_var 2 rfl)) (fun _ _ => rfl)) .nil))))
end
end K12
set_option Elab.async false
set_option linter.all false
set_option maxRecDepth 100000
set_option maxHeartbeats 4000000
namespace K12
open PySem PySem.Spec PyProof.Rows L2 Cz
section
variable {P : Program} {w : World} {K : PySem.W.Frag} {mg : Str → Option Value} {base : Heap}
theorem gn_row_with_order {f : Addr} {fd : FuncData} (F : FnP K "row_with_order" 29 f fd) (B : Bi mg) (C_one_more : Cal P w K mg base 2 "one_more" ["lefts", "turn", "y"] [none, none, none] mf_one_more) (C_identity : Cal P w K mg base 1 "identity" ["n"] [none] mf_identity) :
    Gn P w K mg base 3 f fd ["lefts", "order"] (spD (S := S0) K [none, none] mf_row_with_order) :=
  gn_of (S := S0) (N := ["lefts", "order", "turn", "row", "y"]) m_row_with_order F ⟨rfl, rfl, rfl, by decide +kernel, rfl, by decide +kernel, by decide +kernel⟩ rfl (by decide) (fun _ _ => rfl) fun cdv A outer s H E c ds O hl => by
    match ds, hl with
    | [p0, p1], _ =>
      have hcalm : (cxOf (L2.CX P w) P w K mg base ["lefts", "order", "turn", "row", "y"] "row_with_order" (defScope (topS 29)) f cdv A outer s H E).calm = true := rfl
      have hnd : (["lefts", "order", "turn", "row", "y"] : List Str).Nodup := by decide +kernel
      exact (bs_set 2 hnd (je_call (C_identity.G.mono (by decide)) O rfl C_identity.g C_identity.kp C_identity.b (jg_dat (je_callB (b1 := true) Cz.call_lenD ok_len rfl B.n_len boot_len (ja_cons (je_var 0 rfl) .nil)) .nil)) fun d1 => (JSs.at [some (.v p0), some (.v p1), some (.v d1), none, none] (bs_own 3 hnd (jf_lst .nil) fun o2 => (JSs.at [some (.v p0), some (.v p1), some (.v d1), some (.own o2), none] (bs_for (fun (a3 : D × List D) => [some (.v p0), some (.v p1), some (.v a3.1), some (.own a3.2), none]) (d1, o2) (passes_of rfl) hcalm (ji_seq (je_var 1 rfl)) (pg_name (i := 4) hnd rfl (by first | exact .inl rfl | exact .inr rfl)) tgok_nm (by repeat (first | exact wk_e | refine wk_n ?_ | refine wk_s ?_)) (fun x a z => nomatch z) (fun c5 a3 r z => by cases z; exact (JSs.at [some (.v p0), some (.v p1), some (.v a3.1), some (.own a3.2), some (.v c5)] (bs_app1 3 rfl (je_index (b1 := true) (je_var 2 rfl) (je_var 4 rfl)) fun o12 => (JSs.at [some (.v p0), some (.v p1), some (.v a3.1), some (.own o12), some (.v c5)] (bs_set 2 hnd (je_call (C_one_more.G.mono (by decide)) O rfl C_one_more.g C_one_more.kp C_one_more.b (jg_dat (je_var 0 rfl) (jg_dat (je_var 2 rfl) (jg_dat (je_var 4 rfl) .nil)))) fun d14 => (bs_nil (d14, o12) (by repeat (first | exact wk_e | refine wk_n ?_ | refine wk_s ?_)))))))) fun a3 => by exact (JSs.at [some (.v p0), some (.v p1), some (.v a3.1), some (.own a3.2), none] (bs_ret (je_callTy (b1 := true) call_tupF ok_tupOf rfl B.n_tuple boot_tuple (ja_cons (je_own 3 rfl) .nil)))))))))
end
end K12
set_option Elab.async false
set_option linter.all false
set_option maxRecDepth 100000
set_option maxHeartbeats 4000000
namespace K12
open PySem PySem.Spec PyProof.Rows L2 Cz
section
variable {P : Program} {w : World} {K : PySem.W.Frag} {mg : Str → Option Value} {base : Heap}
theorem gn_row_of {f : Addr} {fd : FuncData} (F : FnP K "row_of" 33 f fd) (B : Bi mg) (C_require_rule : Cal P w K mg base 6 "require_rule" ["rule"] [none] mf_require_rule) (C_is_kinds : Cal P w K mg base 3 "is_kinds" ["thing", "n"] [none, none] mf_is_kinds) (C_row_with_order : Cal P w K mg base 3 "row_with_order" ["lefts", "order"] [none, none] mf_row_with_order) (C_left_turns : Cal P w K mg base 1 "left_turns" ["table"] [none] mf_left_turns) :
    Gn P w K mg base 7 f fd ["rule", "order"] (spD (S := S0) K [none, none] mf_row_of) :=
  gn_of (S := S0) (N := ["rule", "order"]) m_row_of F ⟨rfl, rfl, rfl, by decide +kernel, rfl, by decide +kernel, by decide +kernel⟩ rfl (by decide) (fun _ _ => rfl) fun cdv A outer s H E c ds O hl => by
    match ds, hl with
    | [p0, p1], _ =>
      have hcalm : (cxOf (L2.CX P w) P w K mg base ["rule", "order"] "row_of" (defScope (topS 33)) f cdv A outer s H E).calm = true := rfl
      have hnd : (["rule", "order"] : List Str).Nodup := by decide +kernel
      exact (bs_expr (b := true) (je_call (C_require_rule.G.mono (by decide)) O rfl C_require_rule.g C_require_rule.kp C_require_rule.b (jg_dat (je_var 0 rfl) .nil)) (JSs.at [some (.v p0), some (.v p1)] (bs_ifr (jt_not (jt_val (b1 := true) (je_call (C_is_kinds.G.mono (by decide)) O rfl C_is_kinds.g C_is_kinds.kp C_is_kinds.b (jg_dat (je_var 1 rfl) (jg_dat (je_callB (b1 := true) Cz.call_lenD ok_len rfl B.n_len boot_len (ja_cons (je_var 0 rfl) .nil)) .nil))))) (JSs.at [some (.v p0), some (.v p1)] bs_never) nonx_bad (JSs.at [some (.v p0), some (.v p1)] (bs_ret (je_call (C_row_with_order.G.mono (by decide)) O rfl C_row_with_order.g C_row_with_order.kp C_row_with_order.b (jg_dat (je_call (C_left_turns.G.mono (by decide)) O rfl C_left_turns.g C_left_turns.kp C_left_turns.b (jg_dat (je_var 0 rfl) .nil)) (jg_dat (je_var 1 rfl) .nil))))))))
end
end K12
set_option Elab.async false
set_option linter.all false
set_option maxRecDepth 100000
set_option maxHeartbeats 4000000
namespace K12
open PySem PySem.Spec PyProof.Rows L2 Cz
section
variable {P : Program} {w : World} {K : PySem.W.Frag} {mg : Str → Option Value} {base : Heap}
theorem gn__law_is_read {f : Addr} {fd : FuncData} (F : FnP K "_law_is_read" 50 f fd) (B : Bi mg) (C__law_read : Cal P w K mg base 2 "_law_read" ["_law_lefts_here", "_law_row_here"] [none, none] mf__law_read) (C__law_same : Cal P w K mg base 1 "_law_same" ["_law_told", "_law_due"] [none, none] mf__law_same) (C_is_row : Cal P w K mg base 7 "is_row" ["rule", "thing"] [none, none] mf_is_row) (C_row_of : Cal P w K mg base 7 "row_of" ["rule", "order"] [none, none] mf_row_of) (C_order_of : Cal P w K mg base 9 "order_of" ["rule", "row"] [none, none] mf_order_of) (C_heap_of : Cal P w K mg base 10 "heap_of" ["rule", "row"] [none, none] mf_heap_of) (C_turn_of_row : Cal P w K mg base 9 "turn_of_row" ["rule", "row"] [none, none] mf_turn_of_row) (bk_is_row_0_1 : C_is_row.BK ["rule", "thing"] [0, 1]) (bk_order_of_1_0 : C_order_of.BK ["row", "rule"] [1, 0]) (bk_heap_of_1_0 : C_heap_of.BK ["row", "rule"] [1, 0]) (bk_turn_of_row_0_1 : C_turn_of_row.BK ["rule", "row"] [0, 1]) :
    Gn P w K mg base 11 f fd ["_law_table_here", "_law_lefts_here", "_law_row_here"] (spD (S := S0) K [none, none, none] mf__law_is_read) :=
  gn_of (S := S0) (N := ["_law_table_here", "_law_lefts_here", "_law_row_here", "_law_heap", "_law_told", "_law_order", "_law_turn", "_law_y"]) m__law_is_read F ⟨rfl, rfl, rfl, by decide +kernel, rfl, by decide +kernel, by decide +kernel⟩ rfl (by decide) (fun _ _ => rfl) fun cdv A outer s H E c ds O hl => by
    match ds, hl with
    | [p0, p1, p2], _ =>
      have hcalm : (cxOf (L2.CX P w) P w K mg base ["_law_table_here", "_law_lefts_here", "_law_row_here", "_law_heap", "_law_told", "_law_order", "_law_turn", "_law_y"] "_law_is_read" (defScope (topS 50)) f cdv A outer s H E).calm = true := rfl
      have hnd : (["_law_table_here", "_law_lefts_here", "_law_row_here", "_law_heap", "_law_told", "_law_order", "_law_turn", "_law_y"] : List Str).Nodup := by decide +kernel
      exact (bs_unp2 5 6 hcalm (je_call (C__law_read.G.mono (by decide)) O rfl C__law_read.g C__law_read.kp C__law_read.b (jg_dat (je_var 1 rfl) (jg_dat (je_var 2 rfl) .nil))) (pg_name (i := 5) hnd rfl (by first | exact .inl rfl | exact .inr rfl)) (pg_name (i := 6) hnd rfl (by first | exact .inl rfl | exact .inr rfl)) fun d1 d2 => (JSs.at [some (.v p0), some (.v p1), some (.v p2), none, none, some (.v d1), some (.v d2), none] (bs_set 3 hnd (je_callTy (b1 := true) call_tupF ok_tupOf rfl B.n_tuple boot_tuple (ja_cons (JF.je (jf_lc hcalm hnd (ji_range1 rfl B.n_range (je_callB (b1 := true) Cz.call_lenD ok_len rfl B.n_len boot_len (ja_cons (je_var 1 rfl) .nil))) (own := [("_law_y", 7)]) (blkOk_by (N := ["_law_table_here", "_law_lefts_here", "_law_row_here", "_law_heap", "_law_told", "_law_order", "_law_turn", "_law_y"]) (sc := defScope (topS 50)) (by decide +kernel)) (fun s1' H1' C1' cl1 fp1 => pg_name (i := 7) hnd rfl (by first | exact .inl rfl | exact .inr rfl)) tgok_nm (by simp) (fun x z => nomatch z) (fun s1' H1' C1' cl1 fp1 c1' c19 r1 z1 => by cases z1; exact (je_count (b1 := true) (je_var 5 rfl) (je_var 7 rfl))))) .nil)) fun d3 => (JSs.at [some (.v p0), some (.v p1), some (.v p2), some (.v d3), none, some (.v d1), some (.v d2), none] (bs_set 4 hnd (JF.je (jf_lst (ja_cons (je_call (C_order_of.G.mono (by decide)) O rfl C_order_of.g C_order_of.kp C_order_of.b (jg_dat (je_var 0 rfl) (jg_dat (je_var 2 rfl) .nil))) (ja_cons (je_call (C_heap_of.G.mono (by decide)) O rfl C_heap_of.g C_heap_of.kp C_heap_of.b (jg_dat (je_var 0 rfl) (jg_dat (je_var 2 rfl) .nil))) (ja_cons (je_call (C_turn_of_row.G.mono (by decide)) O rfl C_turn_of_row.g C_turn_of_row.kp C_turn_of_row.b (jg_dat (je_var 0 rfl) (jg_dat (je_var 2 rfl) .nil))) .nil))))) fun d4 => (JSs.at [some (.v p0), some (.v p1), some (.v p2), some (.v d3), some (.v d4), some (.v d1), some (.v d2), none] (bs_ifr (jt_not (jt_val (b1 := true) (je_call (C__law_same.G.mono (by decide)) O rfl C__law_same.g C__law_same.kp C__law_same.b (jg_dat (je_var 4 rfl) (jg_dat (JF.je (jf_lst (ja_cons (je_var 5 rfl) (ja_cons (je_var 3 rfl) (ja_cons (je_var 6 rfl) .nil))))) .nil))))) (JSs.at [some (.v p0), some (.v p1), some (.v p2), some (.v d3), some (.v d4), some (.v d1), some (.v d2), none] (bs_ret je_bl)) (nonx_bnd fun _ => nonx_rt) (JSs.at [some (.v p0), some (.v p1), some (.v p2), some (.v d3), some (.v d4), some (.v d1), some (.v d2), none] (bs_set 4 hnd (JF.je (jf_lst (ja_cons (je_callK0 (C_order_of.G.mono (by decide)) O rfl C_order_of.g C_order_of.kp bk_order_of_1_0 (JK.cons (je_var 2 rfl) (JK.cons (je_var 0 rfl) JK.nil))) (ja_cons (je_callK0 (C_heap_of.G.mono (by decide)) O rfl C_heap_of.g C_heap_of.kp bk_heap_of_1_0 (JK.cons (je_var 2 rfl) (JK.cons (je_var 0 rfl) JK.nil))) (ja_cons (je_callK0 (C_turn_of_row.G.mono (by decide)) O rfl C_turn_of_row.g C_turn_of_row.kp bk_turn_of_row_0_1 (JK.cons (je_var 0 rfl) (JK.cons (je_var 2 rfl) JK.nil))) .nil))))) fun d9 => (JSs.at [some (.v p0), some (.v p1), some (.v p2), some (.v d3), some (.v d9), some (.v d1), some (.v d2), none] (bs_ifr (jt_not (jt_val (b1 := true) (je_call (C__law_same.G.mono (by decide)) O rfl C__law_same.g C__law_same.kp C__law_same.b (jg_dat (je_var 4 rfl) (jg_dat (JF.je (jf_lst (ja_cons (je_var 5 rfl) (ja_cons (je_var 3 rfl) (ja_cons (je_var 6 rfl) .nil))))) .nil))))) (JSs.at [some (.v p0), some (.v p1), some (.v p2), some (.v d3), some (.v d9), some (.v d1), some (.v d2), none] (bs_ret je_bl)) (nonx_bnd fun _ => nonx_rt) (JSs.at [some (.v p0), some (.v p1), some (.v p2), some (.v d3), some (.v d9), some (.v d1), some (.v d2), none] (bs_ifr (jt_not (jt_val (b1 := true) (je_call (C__law_same.G.mono (by decide)) O rfl C__law_same.g C__law_same.kp C__law_same.b (jg_dat (JF.je (jf_lst (ja_cons (je_call (C_is_row.G.mono (by decide)) O rfl C_is_row.g C_is_row.kp C_is_row.b (jg_dat (je_var 0 rfl) (jg_dat (je_var 2 rfl) .nil))) (ja_cons (je_callK0 (C_is_row.G.mono (by decide)) O rfl C_is_row.g C_is_row.kp bk_is_row_0_1 (JK.cons (je_var 0 rfl) (JK.cons (je_var 5 rfl) JK.nil))) .nil)))) (jg_dat (JF.je (jf_lst (ja_cons je_bl (ja_cons je_bl .nil)))) .nil))))) (JSs.at [some (.v p0), some (.v p1), some (.v p2), some (.v d3), some (.v d9), some (.v d1), some (.v d2), none] (bs_ret je_bl)) (nonx_bnd fun _ => nonx_rt) (JSs.at [some (.v p0), some (.v p1), some (.v p2), some (.v d3), some (.v d9), some (.v d1), some (.v d2), none] (bs_ret (je_call (C__law_same.G.mono (by decide)) O rfl C__law_same.g C__law_same.kp C__law_same.b (jg_dat (je_call (C_row_of.G.mono (by decide)) O rfl C_row_of.g C_row_of.kp C_row_of.b (jg_dat (je_var 0 rfl) (jg_dat (je_var 5 rfl) .nil))) (jg_dat (je_var 2 rfl) .nil))))))))))))))))))
end
end K12
set_option Elab.async false
set_option linter.all false
set_option maxRecDepth 100000
set_option maxHeartbeats 4000000
namespace K12
open PySem PySem.Spec PyProof.Rows L2 Cz
section
variable {P : Program} {w : World} {K : PySem.W.Frag} {mg : Str → Option Value} {base : Heap}
theorem gn__law_written {f : Addr} {fd : FuncData} (F : FnP K "_law_written" 47 f fd) (B : Bi mg) (C__law_after : Cal P w K mg base 1 "_law_after" ["_law_one", "_law_other"] [none, none] mf__law_after) :
    Gn P w K mg base 2 f fd ["_law_lefts_here", "_law_order"] (spD (S := S0) K [none, none] mf__law_written) :=
  gn_of (S := S0) (N := ["_law_lefts_here", "_law_order", "_law_y", "_law_turn", "_law_found", "_law_x"]) m__law_written F ⟨rfl, rfl, rfl, by decide +kernel, rfl, by decide +kernel, by decide +kernel⟩ rfl (by decide) (fun _ _ => rfl) fun cdv A outer s H E c ds O hl => by
    match ds, hl with
    | [p0, p1], _ =>
      have hcalm : (cxOf (L2.CX P w) P w K mg base ["_law_lefts_here", "_law_order", "_law_y", "_law_turn", "_law_found", "_law_x"] "_law_written" (defScope (topS 47)) f cdv A outer s H E).calm = true := rfl
      have hnd : (["_law_lefts_here", "_law_order", "_law_y", "_law_turn", "_law_found", "_law_x"] : List Str).Nodup := by decide +kernel
      exact (bs_par_do 3 4 hcalm hnd (je_tupRg hcalm rfl B.n_tuple rfl B.n_range (je_callB (b1 := true) Cz.call_lenD ok_len rfl B.n_len boot_len (ja_cons (je_var 0 rfl) .nil))) (jf_lst .nil) (fun d1 o2 => (JSs.at [some (.v p0), some (.v p1), none, some (.v d1), some (.own o2), none] (bs_for (fun (a4 : D × List D) => [some (.v p0), some (.v p1), none, some (.v a4.1), some (.own a4.2), none]) (d1, o2) (passes_of rfl) hcalm (ji_seq (je_var 1 rfl)) (pg_name (i := 2) hnd rfl (by first | exact .inl rfl | exact .inr rfl)) tgok_nm (by repeat (first | exact wk_e | refine wk_n ?_ | refine wk_s ?_)) (fun x a z => nomatch z) (fun c6 a4 r z => by cases z; exact (JSs.at [some (.v p0), some (.v p1), some (.v c6), some (.v a4.1), some (.own a4.2), none] (bs_set 5 hnd (je_index (b1 := true) (je_var 3 rfl) (je_var 2 rfl)) fun d7 => (JSs.at [some (.v p0), some (.v p1), some (.v c6), some (.v a4.1), some (.own a4.2), some (.v d7)] (bs_app1 4 rfl (je_var 5 rfl) fun o8 => (JSs.at [some (.v p0), some (.v p1), some (.v c6), some (.v a4.1), some (.own o8), some (.v d7)] (bs_set 3 hnd (je_call (C__law_after.G.mono (by decide)) O rfl C__law_after.g C__law_after.kp C__law_after.b (jg_dat (je_var 3 rfl) (jg_dat (je_ix (b1 := true) (b2 := true) ix_seq ok_ix (je_var 0 rfl) (je_var 5 rfl) (fun _ _ => rfl)) .nil))) fun d10 => (bs_nil (d10, o8) (by repeat (first | exact wk_e | refine wk_n ?_ | refine wk_s ?_)))))))))) fun a4 => by exact (JSs.at [some (.v p0), some (.v p1), none, some (.v a4.1), some (.own a4.2), none] (bs_ret (je_callTy (b1 := true) call_tupF ok_tupOf rfl B.n_tuple boot_tuple (ja_cons (je_own 4 rfl) .nil))))))) rfl)
end
end K12
set_option Elab.async false
set_option linter.all false
set_option maxRecDepth 100000
set_option maxHeartbeats 4000000
namespace K12
open PySem PySem.Spec PyProof.Rows L2 Cz
section
variable {P : Program} {w : World} {K : PySem.W.Frag} {mg : Str → Option Value} {base : Heap}
theorem gn__law_is_written {f : Addr} {fd : FuncData} (F : FnP K "_law_is_written" 51 f fd) (B : Bi mg) (C__law_same : Cal P w K mg base 1 "_law_same" ["_law_told", "_law_due"] [none, none] mf__law_same) (C_order_of : Cal P w K mg base 9 "order_of" ["rule", "row"] [none, none] mf_order_of) (C_row_of : Cal P w K mg base 7 "row_of" ["rule", "order"] [none, none] mf_row_of) (C__law_written : Cal P w K mg base 2 "_law_written" ["_law_lefts_here", "_law_order"] [none, none] mf__law_written) (bk_row_of_1_0 : C_row_of.BK ["order", "rule"] [1, 0]) :
    Gn P w K mg base 10 f fd ["_law_table_here", "_law_lefts_here", "_law_order"] (spD (S := S0) K [none, none, none] mf__law_is_written) :=
  gn_of (S := S0) (N := ["_law_table_here", "_law_lefts_here", "_law_order", "_law_row_here", "_law_told"]) m__law_is_written F ⟨rfl, rfl, rfl, by decide +kernel, rfl, by decide +kernel, by decide +kernel⟩ rfl (by decide) (fun _ _ => rfl) fun cdv A outer s H E c ds O hl => by
    match ds, hl with
    | [p0, p1, p2], _ =>
      have hcalm : (cxOf (L2.CX P w) P w K mg base ["_law_table_here", "_law_lefts_here", "_law_order", "_law_row_here", "_law_told"] "_law_is_written" (defScope (topS 51)) f cdv A outer s H E).calm = true := rfl
      have hnd : (["_law_table_here", "_law_lefts_here", "_law_order", "_law_row_here", "_law_told"] : List Str).Nodup := by decide +kernel
      exact (bs_set 3 hnd (je_call (C__law_written.G.mono (by decide)) O rfl C__law_written.g C__law_written.kp C__law_written.b (jg_dat (je_var 1 rfl) (jg_dat (je_var 2 rfl) .nil))) fun d1 => (JSs.at [some (.v p0), some (.v p1), some (.v p2), some (.v d1), none] (bs_set 4 hnd (JF.je (jf_lst (ja_cons (je_call (C_row_of.G.mono (by decide)) O rfl C_row_of.g C_row_of.kp C_row_of.b (jg_dat (je_var 0 rfl) (jg_dat (je_var 2 rfl) .nil))) (ja_cons (je_callK0 (C_row_of.G.mono (by decide)) O rfl C_row_of.g C_row_of.kp bk_row_of_1_0 (JK.cons (je_var 2 rfl) (JK.cons (je_var 0 rfl) JK.nil))) .nil)))) fun d2 => (JSs.at [some (.v p0), some (.v p1), some (.v p2), some (.v d1), some (.v d2)] (bs_ret (je_and (b1 := true) (je_call (C__law_same.G.mono (by decide)) O rfl C__law_same.g C__law_same.kp C__law_same.b (jg_dat (je_var 4 rfl) (jg_dat (JF.je (jf_lst (ja_cons (je_var 3 rfl) (ja_cons (je_var 3 rfl) .nil)))) .nil))) (je_one (je_call (C__law_same.G.mono (by decide)) O rfl C__law_same.g C__law_same.kp C__law_same.b (jg_dat (je_call (C_order_of.G.mono (by decide)) O rfl C_order_of.g C_order_of.kp C_order_of.b (jg_dat (je_var 0 rfl) (jg_dat (je_var 3 rfl) .nil))) (jg_dat (je_var 2 rfl) .nil))))))))))
end
end K12
set_option Elab.async false
set_option linter.all false
set_option maxRecDepth 100000
set_option maxHeartbeats 4000000
namespace K12
open PySem PySem.Spec PyProof.Rows L2 Cz
section
variable {P : Program} {w : World} {K : PySem.W.Frag} {mg : Str → Option Value} {base : Heap}
theorem gn_law {f : Addr} {fd : FuncData} (F : FnP K "law" 53 f fd) (B : Bi mg) (C__law_row : Cal P w K mg base 2 "_law_row" ["_law_deck_here", "_law_n", "_law_most"] [some 0, none, none] mf__law_row) (C__law_is_read : Cal P w K mg base 11 "_law_is_read" ["_law_table_here", "_law_lefts_here", "_law_row_here"] [none, none, none] mf__law_is_read) (C__law_is_written : Cal P w K mg base 10 "_law_is_written" ["_law_table_here", "_law_lefts_here", "_law_order"] [none, none, none] mf__law_is_written) (C_is_row : Cal P w K mg base 7 "is_row" ["rule", "thing"] [none, none] mf_is_row) (C__law_is_joined : Cal P w K mg base 10 "_law_is_joined" ["_law_table_here", "_law_lefts_here", "_law_one", "_law_other"] [none, none, none, none] mf__law_is_joined) (C__law_table : Cal P w K mg base 1 "_law_table" ["_law_lefts_here"] [none] mf__law_table) (C__law_lefts : Cal P w K mg base 4 "_law_lefts" ["_law_deck_here", "_law_n"] [some 0, none] mf__law_lefts) (C__law_draw : Cal P w K mg base 1 "_law_draw" ["_law_deck_here", "_law_many"] [some 0, none] mf__law_draw) (C__law_deck : Cal (S := Sc K) P w K mg base 1 "_law_deck" ["_law_script"] [some 0] mf__law_deck) (Pn : List Int → Prop)
    (hD : ∀ ns, Pn ns → ∃ (l : List Int) (i j : Int) (s' : Sc K) (s2 : S0), mD_law ⟨ns⟩ = .ok (deckD "cells" (l.map .int) i j) s' ∧ m_law ⟨l, i, j⟩ = .ok (.rt (.bool true)) s2) : Gn P w K mg base 12 f fd ["_law_script"] (spLaw K Pn) := by
  obtain ⟨oc, od, dV, kV, doc, pm, an, cdv, ct, osl, rfl, lk, hcd, _, _⟩ := F.ex
  refine law_gn (mD := mD_law) (mL := m_law) (N := ["_law_script", "_law_deck_here", "_law_n", "_law_lefts_here", "_law_table_here", "_law_other", "_law_one"]) Pn lk hcd ⟨rfl, rfl, rfl, by decide +kernel, rfl, by decide +kernel, by decide +kernel⟩ rfl (fun A outer s H E c O => ?_) (fun A outer s H E => ⟨by first | exact .inl rfl | exact .inr rfl, rfl, by first | exact .inl rfl | exact .inr rfl⟩) (fun A outer s H E c O => ?_) hD
  · exact je_call (C__law_deck.G.mono (by decide)) O rfl C__law_deck.g C__law_deck.kp C__law_deck.b (jg_opq 0 0 .nil)
  · have hcalm : (cxOf (L2.CX P w) P w K mg base ["_law_script", "_law_deck_here", "_law_n", "_law_lefts_here", "_law_table_here", "_law_other", "_law_one"] "law" (defScope (topS 53)) f cdv A outer s H E).calm = true := rfl
    have hnd : (["_law_script", "_law_deck_here", "_law_n", "_law_lefts_here", "_law_table_here", "_law_other", "_law_one"] : List Str).Nodup := by decide +kernel
    exact (JSs.at [none, some (.opq 0), none, none, none, none, none] (bs_set 2 hnd (je_ix (b1 := true) (b2 := true) ix_seq ok_ix (je_tup (ja_cons je_int (ja_cons je_int (ja_cons je_int (ja_cons je_int (ja_cons je_int (ja_cons je_int (ja_cons je_int (ja_cons je_int (ja_cons je_int (ja_cons je_int (ja_cons je_int (ja_cons je_int .nil))))))))))))) (je_call (C__law_draw.G.mono (by decide)) O rfl C__law_draw.g C__law_draw.kp C__law_draw.b (jg_opq 1 0 (jg_dat je_int .nil))) (fun _ _ => rfl)) fun d1 => (JSs.at [none, some (.opq 0), some (.v d1), none, none, none, none] (bs_set 3 hnd (je_call (C__law_lefts.G.mono (by decide)) O rfl C__law_lefts.g C__law_lefts.kp C__law_lefts.b (jg_opq 1 0 (jg_dat (je_var 2 rfl) .nil))) fun d2 => (JSs.at [none, some (.opq 0), some (.v d1), some (.v d2), none, none, none] (bs_set 4 hnd (je_call (C__law_table.G.mono (by decide)) O rfl C__law_table.g C__law_table.kp C__law_table.b (jg_dat (je_var 3 rfl) .nil)) fun d3 => (JSs.at [none, some (.opq 0), some (.v d1), some (.v d2), some (.v d3), none, none] (bs_par_dd 6 5 hcalm hnd (je_call (C__law_row.G.mono (by decide)) O rfl C__law_row.g C__law_row.kp C__law_row.b (jg_opq 1 0 (jg_dat (je_var 2 rfl) (jg_dat je_int .nil)))) (je_call (C__law_row.G.mono (by decide)) O rfl C__law_row.g C__law_row.kp C__law_row.b (jg_opq 1 0 (jg_dat (je_var 2 rfl) (jg_dat je_int .nil)))) (fun d4 d5 => (JSs.at [none, some (.opq 0), some (.v d1), some (.v d2), some (.v d3), some (.v d5), some (.v d4)] (bs_ifr (jt_w (jw_or (jt_not (jt_val (b1 := true) (je_call (C__law_is_read.G.mono (by decide)) O rfl C__law_is_read.g C__law_is_read.kp C__law_is_read.b (jg_dat (je_var 4 rfl) (jg_dat (je_var 3 rfl) (jg_dat (je_var 6 rfl) .nil)))))) (jw_or1 (jt_not (jt_val (b1 := true) (je_call (C__law_is_written.G.mono (by decide)) O rfl C__law_is_written.g C__law_is_written.kp C__law_is_written.b (jg_dat (je_var 4 rfl) (jg_dat (je_var 3 rfl) (jg_dat (je_var 5 rfl) .nil))))))))) (JSs.at [none, some (.opq 0), some (.v d1), some (.v d2), some (.v d3), some (.v d5), some (.v d4)] (bs_ret je_bl)) (nonx_bnd fun _ => nonx_rt) (JSs.at [none, some (.opq 0), some (.v d1), some (.v d2), some (.v d3), some (.v d5), some (.v d4)] (bs_ifr (jt_cmp (b1 := true) (b2 := true) op_isnot_bl ok_isNotB (je_call (C_is_row.G.mono (by decide)) O rfl C_is_row.g C_is_row.kp C_is_row.b (jg_dat (je_var 4 rfl) (jg_dat (je_bin (b1 := true) (b2 := true) op_addD ok_add (je_var 6 rfl) (je_var 5 rfl)) .nil))) je_bl rfl) (JSs.at [none, some (.opq 0), some (.v d1), some (.v d2), some (.v d3), some (.v d5), some (.v d4)] (bs_ret je_bl)) (nonx_bnd fun _ => nonx_rt) (JSs.at [none, some (.opq 0), some (.v d1), some (.v d2), some (.v d3), some (.v d5), some (.v d4)] (bs_set 5 hnd (je_slice (b1 := true) (je_var 5 rfl) jo_none (jo_some (je_bin (b1 := true) (b2 := true) op_sub ok_sub je_int (je_callB (b1 := true) Cz.call_lenD ok_len rfl B.n_len boot_len (ja_cons (je_var 6 rfl) .nil))))) fun d20 => (JSs.at [none, some (.opq 0), some (.v d1), some (.v d2), some (.v d3), some (.v d20), some (.v d4)] (bs_ifr (jt_not (jt_val (b1 := true) (je_call (C__law_is_joined.G.mono (by decide)) O rfl C__law_is_joined.g C__law_is_joined.kp C__law_is_joined.b (jg_dat (je_var 4 rfl) (jg_dat (je_var 3 rfl) (jg_dat (je_var 6 rfl) (jg_dat (je_var 5 rfl) .nil))))))) (JSs.at [none, some (.opq 0), some (.v d1), some (.v d2), some (.v d3), some (.v d20), some (.v d4)] (bs_ret je_bl)) (nonx_bnd fun _ => nonx_rt) (JSs.at [none, some (.opq 0), some (.v d1), some (.v d2), some (.v d3), some (.v d20), some (.v d4)] (bs_ret (je_or (b1 := true) (je_cmp (b1 := true) (b2 := true) op_gt ok_gt (je_var 2 rfl) je_int rfl) (je_one (je_call (C__law_is_read.G.mono (by decide)) O rfl C__law_is_read.g C__law_is_read.kp C__law_is_read.b (jg_dat (je_var 4 rfl) (jg_dat (je_var 3 rfl) (jg_dat (je_bin (b1 := true) (b2 := true) op_addD ok_add (je_var 6 rfl) (je_var 5 rfl)) .nil))))))))))))))))) rfl))))))))
end
end K12
set_option Elab.async false
set_option linter.all false
set_option maxRecDepth 100000
set_option maxHeartbeats 0
namespace K12
open PySem PySem.Spec PyProof.Rows L2 Cz
def d__law_deck : He.DefD := ⟨("_law_deck", none), "_law_deck", "_law_deck", defArgs (topS 35), defBody (topS 35), defScope (topS 35), [], []⟩
def d__law_draw : He.DefD := ⟨("_law_draw", none), "_law_draw", "_law_draw", defArgs (topS 36), defBody (topS 36), defScope (topS 36), [], []⟩
def d__law_shuffled : He.DefD := ⟨("_law_shuffled", none), "_law_shuffled", "_law_shuffled", defArgs (topS 38), defBody (topS 38), defScope (topS 38), [], []⟩
def d__law_base : He.DefD := ⟨("_law_base", none), "_law_base", "_law_base", defArgs (topS 39), defBody (topS 39), defScope (topS 39), [], []⟩
def d__law_mirrored : He.DefD := ⟨("_law_mirrored", none), "_law_mirrored", "_law_mirrored", defArgs (topS 43), defBody (topS 43), defScope (topS 43), [], []⟩
def d__law_crossed : He.DefD := ⟨("_law_crossed", none), "_law_crossed", "_law_crossed", defArgs (topS 42), defBody (topS 42), defScope (topS 42), [], []⟩
def d__law_after : He.DefD := ⟨("_law_after", none), "_law_after", "_law_after", defArgs (topS 37), defBody (topS 37), defScope (topS 37), [], []⟩
def d__law_keeps : He.DefD := ⟨("_law_keeps", none), "_law_keeps", "_law_keeps", defArgs (topS 40), defBody (topS 40), defScope (topS 40), [], []⟩
def d__law_kept : He.DefD := ⟨("_law_kept", none), "_law_kept", "_law_kept", defArgs (topS 41), defBody (topS 41), defScope (topS 41), [], []⟩
def d__law_lefts : He.DefD := ⟨("_law_lefts", none), "_law_lefts", "_law_lefts", defArgs (topS 44), defBody (topS 44), defScope (topS 44), [], []⟩
def d__law_table : He.DefD := ⟨("_law_table", none), "_law_table", "_law_table", defArgs (topS 45), defBody (topS 45), defScope (topS 45), [], []⟩
def d__law_row : He.DefD := ⟨("_law_row", none), "_law_row", "_law_row", defArgs (topS 49), defBody (topS 49), defScope (topS 49), [], []⟩
def d_is_square : He.DefD := ⟨("is_square", none), "is_square", "is_square", defArgs (topS 6), defBody (topS 6), defScope (topS 6), [], []⟩
def d_is_whole : He.DefD := ⟨("is_whole", none), "is_whole", "is_whole", defArgs (topS 3), defBody (topS 3), defScope (topS 3), [], []⟩
def d_is_below : He.DefD := ⟨("is_below", none), "is_below", "is_below", defArgs (topS 4), defBody (topS 4), defScope (topS 4), [], []⟩
def d_is_kinds : He.DefD := ⟨("is_kinds", none), "is_kinds", "is_kinds", defArgs (topS 5), defBody (topS 5), defScope (topS 5), [], []⟩
def d_is_table : He.DefD := ⟨("is_table", none), "is_table", "is_table", defArgs (topS 15), defBody (topS 15), defScope (topS 15), [], []⟩
def d__breaks_twice : He.DefD := ⟨("_breaks_twice", none), "_breaks_twice", "_breaks_twice", defArgs (topS 19), defBody (topS 19), defScope (topS 19), [], []⟩
def d__breaks_three : He.DefD := ⟨("_breaks_three", none), "_breaks_three", "_breaks_three", defArgs (topS 20), defBody (topS 20), defScope (topS 20), [], []⟩
def d__breaks : He.DefD := ⟨("_breaks", none), "_breaks", "_breaks", defArgs (topS 21), defBody (topS 21), defScope (topS 21), [], []⟩
def d__first_fault : He.DefD := ⟨("_first_fault", none), "_first_fault", "_first_fault", defArgs (topS 22), defBody (topS 22), defScope (topS 22), [], []⟩
def d_is_rule : He.DefD := ⟨("is_rule", none), "is_rule", "is_rule", defArgs (topS 16), defBody (topS 16), defScope (topS 16), [], []⟩
def d_require_rule : He.DefD := ⟨("require_rule", none), "require_rule", "require_rule", defArgs (topS 17), defBody (topS 17), defScope (topS 17), [], []⟩
def d_is_row : He.DefD := ⟨("is_row", none), "is_row", "is_row", defArgs (topS 24), defBody (topS 24), defScope (topS 24), [], []⟩
def d_require_row : He.DefD := ⟨("require_row", none), "require_row", "require_row", defArgs (topS 25), defBody (topS 25), defScope (topS 25), [], []⟩
def d_identity : He.DefD := ⟨("identity", none), "identity", "identity", defArgs (topS 7), defBody (topS 7), defScope (topS 7), [], []⟩
def d_after : He.DefD := ⟨("after", none), "after", "after", defArgs (topS 8), defBody (topS 8), defScope (topS 8), [], []⟩
def d_order_and_turn : He.DefD := ⟨("order_and_turn", none), "order_and_turn", "order_and_turn", defArgs (topS 27), defBody (topS 27), defScope (topS 27), [], []⟩
def d_left_turns : He.DefD := ⟨("left_turns", none), "left_turns", "left_turns", defArgs (topS 18), defBody (topS 18), defScope (topS 18), [], []⟩
def d_turn_of_row : He.DefD := ⟨("turn_of_row", none), "turn_of_row", "turn_of_row", defArgs (topS 32), defBody (topS 32), defScope (topS 32), [], []⟩
def d__law_same : He.DefD := ⟨("_law_same", none), "_law_same", "_law_same", defArgs (topS 48), defBody (topS 48), defScope (topS 48), [], []⟩
def d_order_of : He.DefD := ⟨("order_of", none), "order_of", "order_of", defArgs (topS 30), defBody (topS 30), defScope (topS 30), [], []⟩
def d__law_read : He.DefD := ⟨("_law_read", none), "_law_read", "_law_read", defArgs (topS 46), defBody (topS 46), defScope (topS 46), [], []⟩
def d__law_is_joined : He.DefD := ⟨("_law_is_joined", none), "_law_is_joined", "_law_is_joined", defArgs (topS 52), defBody (topS 52), defScope (topS 52), [], []⟩
def d_counts : He.DefD := ⟨("counts", none), "counts", "counts", defArgs (topS 28), defBody (topS 28), defScope (topS 28), [], []⟩
def d_heap_of : He.DefD := ⟨("heap_of", none), "heap_of", "heap_of", defArgs (topS 31), defBody (topS 31), defScope (topS 31), [], []⟩
def d_one_more : He.DefD := ⟨("one_more", none), "one_more", "one_more", defArgs (topS 26), defBody (topS 26), defScope (topS 26), [], []⟩
def d_row_with_order : He.DefD := ⟨("row_with_order", none), "row_with_order", "row_with_order", defArgs (topS 29), defBody (topS 29), defScope (topS 29), [], []⟩
def d_row_of : He.DefD := ⟨("row_of", none), "row_of", "row_of", defArgs (topS 33), defBody (topS 33), defScope (topS 33), [], []⟩
def d__law_is_read : He.DefD := ⟨("_law_is_read", none), "_law_is_read", "_law_is_read", defArgs (topS 50), defBody (topS 50), defScope (topS 50), [], []⟩
def d__law_written : He.DefD := ⟨("_law_written", none), "_law_written", "_law_written", defArgs (topS 47), defBody (topS 47), defScope (topS 47), [], []⟩
def d__law_is_written : He.DefD := ⟨("_law_is_written", none), "_law_is_written", "_law_is_written", defArgs (topS 51), defBody (topS 51), defScope (topS 51), [], []⟩
def d_law : He.DefD := ⟨("law", none), "law", "law", defArgs (topS 53), defBody (topS 53), defScope (topS 53), [], []⟩
def fn : List He.DefD := ([d__law_deck, d__law_draw, d__law_shuffled, d__law_base, d__law_mirrored, d__law_crossed, d__law_after, d__law_keeps, d__law_kept, d__law_lefts, d__law_table, d__law_row, d_is_square, d_is_whole, d_is_below, d_is_kinds, d_is_table, d__breaks_twice, d__breaks_three, d__breaks, d__first_fault, d_is_rule, d_require_rule, d_is_row, d_require_row, d_identity, d_after, d_order_and_turn, d_left_turns, d_turn_of_row] : List He.DefD) ++ ([d__law_same, d_order_of, d__law_read, d__law_is_joined, d_counts, d_heap_of, d_one_more, d_row_with_order, d_row_of, d__law_is_read, d__law_written, d__law_is_written, d_law] : List He.DefD)
def fa : List He.Fa := ([.glo "_law_deck", .glo "_law_draw", .glo "_law_shuffled", .glo "_law_base", .glo "_law_mirrored", .glo "_law_crossed", .glo "_law_after", .glo "_law_keeps", .glo "_law_kept", .glo "_law_lefts", .glo "_law_table", .glo "_law_row", .glo "is_square", .glo "is_whole", .glo "is_below", .glo "is_kinds", .glo "is_table", .glo "_breaks_twice", .glo "_breaks_three", .glo "_breaks", .glo "_first_fault", .glo "is_rule", .glo "require_rule", .glo "is_row", .glo "require_row", .glo "identity", .glo "after", .glo "order_and_turn", .glo "left_turns", .glo "turn_of_row"] : List He.Fa) ++ ([.glo "_law_same", .glo "order_of", .glo "_law_read", .glo "_law_is_joined", .glo "counts", .glo "heap_of", .glo "one_more", .glo "row_with_order", .glo "row_of", .glo "_law_is_read", .glo "_law_written", .glo "_law_is_written", .glo "law", .free "isinstance", .free "int", .free "bool", .free "tuple", .free "list", .free "len", .free "range", .free "all", .free "max", .free "min", .free "repr", .free "sorted", .free "abs", .free "enumerate", .free "zip", .free "set", .free "sum"] : List He.Fa) ++ ([.free "any", .free "str", .free "divmod", .free "reversed", .free "dict", .int "MOST_KINDS" 8] : List He.Fa)
def ex (K : PySem.W.Frag) : Bool := He.eqO (PySem.W.nsIn K mainGlobals "product") (some (some (.type "itertools.product")))
abbrev R : PySem.W.OpenRow := PySem.W.OpenLaw.row PySem.Challenge.rw_threesfit_k12_orders_and_rows
abbrev hk : PySem.W.Hook := He.hookX 4 fa fn [] [] ex
def ob (s : PySem.W.SharedT) : He.AlX := He.obsX 4 fa fn [] [] ex (HandSHeadRun.getT s)
theorem ob_eq (s : PySem.W.SharedT) : ob s = hk.obs s.abs := He.obsX_eq (HandSHeadRun.getT_eq s)
def names : List PySem.Str := (["__name__", "MOST_KINDS", "is_whole", "is_below", "is_kinds", "is_square", "identity", "after", "FitError", "BadRule", "BadRow", "BadOrder", "is_table", "is_rule", "require_rule", "left_turns", "_breaks_twice", "_breaks_three", "_breaks", "_first_fault", "is_row", "require_row", "one_more", "order_and_turn", "counts", "row_with_order", "order_of", "heap_of", "turn_of_row", "row_of"] : List PySem.Str) ++ (["_law_deck", "_law_draw", "_law_after", "_law_shuffled", "_law_base", "_law_keeps", "_law_kept", "_law_crossed", "_law_mirrored", "_law_lefts", "_law_table", "_law_read", "_law_written", "_law_same", "_law_row", "_law_is_read", "_law_is_written", "_law_is_joined"] : List PySem.Str)
theorem run (w : World) : HandSHeadRun.RunEqI R (PySem.W.view R.prog [0, 53]) hk ob 8000 names w := by
  unfold HandSHeadRun.RunEqI
  kernel_rfl
end K12
set_option Elab.async false
set_option linter.all false
set_option maxRecDepth 100000
set_option maxHeartbeats 0
namespace K12
open PySem PySem.Spec PyProof.Rows L2 Cz
theorem kbinds {K : PySem.W.Frag} {x qual : Str} {params : Arguments} {body : List Stmt} {scope : Scope} {kws : List (Str × V)} {f : Addr} {fd : FuncData} {ps ks : List Str} {n : Nat} {ix : List Nat} (F : FunD K x qual params body scope [] kws f fd)
    (h : ∀ (kV doc pm : Value) (an : Option Addr) (cdv ct : Value) (us ws : List Value), us.length = n → ws.length = ks.length → bindArgs (PySem.W.fnOf x qual params body scope .none kV doc pm an cdv ct) ⟨us, ks.zip ws⟩ = pure (ps.zip (pickU ix (us ++ ws)))) : BindsK K fd ps ks n ix := by
  obtain ⟨oc, od, dV, kV, doc, pm, an, cdv, ct, osl, rfl, lk, hcd, hD, hK⟩ := F.ex
  rcases hD with ⟨_, rfl⟩ | ⟨e, _⟩
  · exact fun s us ws X l1 l2 => .of_eq (h kV doc pm an cdv ct us ws l1 l2)
  · exact absurd rfl e
theorem law_ok {P : Program} {w : World} {K : PySem.W.Frag} {h : Heap} {mg : Str → Option Value} {f : Addr} (X : K.In h) (G : h.Ns mainGlobals mg) (hfa : mg "law" = some (.ref f)) (c : He.SaysX fa fn [] [] ex w h K) (Pn : List Int → Prop)
    (hD : ∀ ns, Pn ns → ∃ (l : List Int) (i j : Int) (s' : Sc K) (s2 : S0), mD_law ⟨ns⟩ = .ok (deckD "cells" (l.map .int) i j) s' ∧ m_law ⟨l, i, j⟩ = .ok (.rt (.bool true)) s2) :
    ∃ fd : FuncData, (∀ (s : Shared) (v : Value), BindsTo s fd ⟨[v], []⟩ [("_law_script", v)]) ∧ ∀ base : Heap, K.In base → base.Ns mainGlobals mg → Gn P w K mg base 12 f fd ["_law_script"] (spLaw K Pn) := by
  have B : Bi mg := ⟨He.free_ok X G (c.t.d.fact 43 (f := .free "isinstance") rfl), He.free_ok X G (c.t.d.fact 44 (f := .free "int") rfl), He.free_ok X G (c.t.d.fact 45 (f := .free "bool") rfl), He.free_ok X G (c.t.d.fact 46 (f := .free "tuple") rfl), He.free_ok X G (c.t.d.fact 47 (f := .free "list") rfl), He.free_ok X G (c.t.d.fact 48 (f := .free "len") rfl), He.free_ok X G (c.t.d.fact 49 (f := .free "range") rfl), He.free_ok X G (c.t.d.fact 50 (f := .free "all") rfl), He.free_ok X G (c.t.d.fact 51 (f := .free "max") rfl), He.free_ok X G (c.t.d.fact 52 (f := .free "min") rfl), He.free_ok X G (c.t.d.fact 53 (f := .free "repr") rfl), He.free_ok X G (c.t.d.fact 54 (f := .free "sorted") rfl), He.free_ok X G (c.t.d.fact 55 (f := .free "abs") rfl), He.free_ok X G (c.t.d.fact 56 (f := .free "enumerate") rfl), He.free_ok X G (c.t.d.fact 57 (f := .free "zip") rfl), He.free_ok X G (c.t.d.fact 58 (f := .free "set") rfl), He.free_ok X G (c.t.d.fact 59 (f := .free "sum") rfl), He.free_ok X G (c.t.d.fact 60 (f := .free "any") rfl), He.free_ok X G (c.t.d.fact 61 (f := .free "str") rfl), He.free_ok X G (c.t.d.fact 62 (f := .free "divmod") rfl), He.free_ok X G (c.t.d.fact 63 (f := .free "reversed") rfl), He.free_ok X G (c.t.d.fact 64 (f := .free "dict") rfl), PySem.W.mg_of X G (He.eqO_ok c.more), (let ⟨t, e⟩ := He.int_ok X G (c.t.d.fact 65 (f := .int "MOST_KINDS" 8) rfl); ⟨_, e, ⟨t, rfl⟩⟩)⟩
  obtain ⟨fd__law_deck, F__law_deck⟩ := c.t.d.def_ 0 (d := d__law_deck) rfl
  obtain ⟨fd__law_draw, F__law_draw⟩ := c.t.d.def_ 1 (d := d__law_draw) rfl
  obtain ⟨fd__law_shuffled, F__law_shuffled⟩ := c.t.d.def_ 2 (d := d__law_shuffled) rfl
  obtain ⟨fd__law_base, F__law_base⟩ := c.t.d.def_ 3 (d := d__law_base) rfl
  obtain ⟨fd__law_mirrored, F__law_mirrored⟩ := c.t.d.def_ 4 (d := d__law_mirrored) rfl
  obtain ⟨fd__law_crossed, F__law_crossed⟩ := c.t.d.def_ 5 (d := d__law_crossed) rfl
  obtain ⟨fd__law_after, F__law_after⟩ := c.t.d.def_ 6 (d := d__law_after) rfl
  obtain ⟨fd__law_keeps, F__law_keeps⟩ := c.t.d.def_ 7 (d := d__law_keeps) rfl
  obtain ⟨fd__law_kept, F__law_kept⟩ := c.t.d.def_ 8 (d := d__law_kept) rfl
  obtain ⟨fd__law_lefts, F__law_lefts⟩ := c.t.d.def_ 9 (d := d__law_lefts) rfl
  obtain ⟨fd__law_table, F__law_table⟩ := c.t.d.def_ 10 (d := d__law_table) rfl
  obtain ⟨fd__law_row, F__law_row⟩ := c.t.d.def_ 11 (d := d__law_row) rfl
  obtain ⟨fd_is_square, F_is_square⟩ := c.t.d.def_ 12 (d := d_is_square) rfl
  obtain ⟨fd_is_whole, F_is_whole⟩ := c.t.d.def_ 13 (d := d_is_whole) rfl
  obtain ⟨fd_is_below, F_is_below⟩ := c.t.d.def_ 14 (d := d_is_below) rfl
  obtain ⟨fd_is_kinds, F_is_kinds⟩ := c.t.d.def_ 15 (d := d_is_kinds) rfl
  obtain ⟨fd_is_table, F_is_table⟩ := c.t.d.def_ 16 (d := d_is_table) rfl
  obtain ⟨fd__breaks_twice, F__breaks_twice⟩ := c.t.d.def_ 17 (d := d__breaks_twice) rfl
  obtain ⟨fd__breaks_three, F__breaks_three⟩ := c.t.d.def_ 18 (d := d__breaks_three) rfl
  obtain ⟨fd__breaks, F__breaks⟩ := c.t.d.def_ 19 (d := d__breaks) rfl
  obtain ⟨fd__first_fault, F__first_fault⟩ := c.t.d.def_ 20 (d := d__first_fault) rfl
  obtain ⟨fd_is_rule, F_is_rule⟩ := c.t.d.def_ 21 (d := d_is_rule) rfl
  obtain ⟨fd_require_rule, F_require_rule⟩ := c.t.d.def_ 22 (d := d_require_rule) rfl
  obtain ⟨fd_is_row, F_is_row⟩ := c.t.d.def_ 23 (d := d_is_row) rfl
  obtain ⟨fd_require_row, F_require_row⟩ := c.t.d.def_ 24 (d := d_require_row) rfl
  obtain ⟨fd_identity, F_identity⟩ := c.t.d.def_ 25 (d := d_identity) rfl
  obtain ⟨fd_after, F_after⟩ := c.t.d.def_ 26 (d := d_after) rfl
  obtain ⟨fd_order_and_turn, F_order_and_turn⟩ := c.t.d.def_ 27 (d := d_order_and_turn) rfl
  obtain ⟨fd_left_turns, F_left_turns⟩ := c.t.d.def_ 28 (d := d_left_turns) rfl
  obtain ⟨fd_turn_of_row, F_turn_of_row⟩ := c.t.d.def_ 29 (d := d_turn_of_row) rfl
  obtain ⟨fd__law_same, F__law_same⟩ := c.t.d.def_ 30 (d := d__law_same) rfl
  obtain ⟨fd_order_of, F_order_of⟩ := c.t.d.def_ 31 (d := d_order_of) rfl
  obtain ⟨fd__law_read, F__law_read⟩ := c.t.d.def_ 32 (d := d__law_read) rfl
  obtain ⟨fd__law_is_joined, F__law_is_joined⟩ := c.t.d.def_ 33 (d := d__law_is_joined) rfl
  obtain ⟨fd_counts, F_counts⟩ := c.t.d.def_ 34 (d := d_counts) rfl
  obtain ⟨fd_heap_of, F_heap_of⟩ := c.t.d.def_ 35 (d := d_heap_of) rfl
  obtain ⟨fd_one_more, F_one_more⟩ := c.t.d.def_ 36 (d := d_one_more) rfl
  obtain ⟨fd_row_with_order, F_row_with_order⟩ := c.t.d.def_ 37 (d := d_row_with_order) rfl
  obtain ⟨fd_row_of, F_row_of⟩ := c.t.d.def_ 38 (d := d_row_of) rfl
  obtain ⟨fd__law_is_read, F__law_is_read⟩ := c.t.d.def_ 39 (d := d__law_is_read) rfl
  obtain ⟨fd__law_written, F__law_written⟩ := c.t.d.def_ 40 (d := d__law_written) rfl
  obtain ⟨fd__law_is_written, F__law_is_written⟩ := c.t.d.def_ 41 (d := d__law_is_written) rfl
  obtain ⟨fd_law, F_law⟩ := c.t.d.def_ 42 (d := d_law) rfl
  have e := hfa.symm.trans (He.glo_ok X G (c.t.d.fact 42 (f := .glo "law") rfl))
  cases e
  have b := FunD.bindsA (ps := ["_law_script"]) F_law fun _ _ _ _ _ _ us hl => match us, hl with | [_], _ => rfl
  refine ⟨fd_law, fun s v => b s [v] rfl, fun base _ _ => ?_⟩
  let C__law_deck : Cal (S := Sc K) P w K mg base 1 "_law_deck" ["_law_script"] [some 0] mf__law_deck := ⟨_, fd__law_deck, gn__law_deck F__law_deck B, F__law_deck.kp, F__law_deck.bindsN (fun _ _ _ _ _ _ us hl => match us, hl with | [_], _ => rfl), He.glo_ok X G (c.t.d.fact 0 (f := .glo "_law_deck") rfl)⟩
  let C__law_draw : Cal (S := S0) P w K mg base 1 "_law_draw" ["_law_deck_here", "_law_many"] [some 0, none] mf__law_draw := ⟨_, fd__law_draw, gn__law_draw F__law_draw B, F__law_draw.kp, F__law_draw.bindsN (fun _ _ _ _ _ _ us hl => match us, hl with | [_, _], _ => rfl), He.glo_ok X G (c.t.d.fact 1 (f := .glo "_law_draw") rfl)⟩
  let C__law_shuffled : Cal (S := S0) P w K mg base 2 "_law_shuffled" ["_law_deck_here", "_law_n"] [some 0, none] mf__law_shuffled := ⟨_, fd__law_shuffled, gn__law_shuffled F__law_shuffled B C__law_draw, F__law_shuffled.kp, F__law_shuffled.bindsN (fun _ _ _ _ _ _ us hl => match us, hl with | [_, _], _ => rfl), He.glo_ok X G (c.t.d.fact 2 (f := .glo "_law_shuffled") rfl)⟩
  let C__law_base : Cal (S := S0) P w K mg base 3 "_law_base" ["_law_deck_here", "_law_n"] [some 0, none] mf__law_base := ⟨_, fd__law_base, gn__law_base F__law_base B C__law_draw C__law_shuffled, F__law_base.kp, F__law_base.bindsN (fun _ _ _ _ _ _ us hl => match us, hl with | [_, _], _ => rfl), He.glo_ok X G (c.t.d.fact 3 (f := .glo "_law_base") rfl)⟩
  let C__law_mirrored : Cal (S := S0) P w K mg base 1 "_law_mirrored" ["_law_lefts_here"] [none] mf__law_mirrored := ⟨_, fd__law_mirrored, gn__law_mirrored F__law_mirrored B, F__law_mirrored.kp, F__law_mirrored.bindsN (fun _ _ _ _ _ _ us hl => match us, hl with | [_], _ => rfl), He.glo_ok X G (c.t.d.fact 4 (f := .glo "_law_mirrored") rfl)⟩
  let C__law_crossed : Cal (S := S0) P w K mg base 1 "_law_crossed" ["_law_one", "_law_other", "_law_f", "_law_g"] [none, none, none, none] mf__law_crossed := ⟨_, fd__law_crossed, gn__law_crossed F__law_crossed B, F__law_crossed.kp, F__law_crossed.bindsN (fun _ _ _ _ _ _ us hl => match us, hl with | [_, _, _, _], _ => rfl), He.glo_ok X G (c.t.d.fact 5 (f := .glo "_law_crossed") rfl)⟩
  let C__law_after : Cal (S := S0) P w K mg base 1 "_law_after" ["_law_one", "_law_other"] [none, none] mf__law_after := ⟨_, fd__law_after, gn__law_after F__law_after B, F__law_after.kp, F__law_after.bindsN (fun _ _ _ _ _ _ us hl => match us, hl with | [_, _], _ => rfl), He.glo_ok X G (c.t.d.fact 6 (f := .glo "_law_after") rfl)⟩
  let C__law_keeps : Cal (S := S0) P w K mg base 2 "_law_keeps" ["_law_lefts_here", "_law_names"] [none, none] mf__law_keeps := ⟨_, fd__law_keeps, gn__law_keeps F__law_keeps B C__law_after, F__law_keeps.kp, F__law_keeps.bindsN (fun _ _ _ _ _ _ us hl => match us, hl with | [_, _], _ => rfl), He.glo_ok X G (c.t.d.fact 7 (f := .glo "_law_keeps") rfl)⟩
  let C__law_kept : Cal (S := S0) P w K mg base 3 "_law_kept" ["_law_deck_here", "_law_lefts_here"] [some 0, none] mf__law_kept := ⟨_, fd__law_kept, gn__law_kept F__law_kept B C__law_draw C__law_after C__law_keeps C__law_shuffled, F__law_kept.kp, F__law_kept.bindsN (fun _ _ _ _ _ _ us hl => match us, hl with | [_, _], _ => rfl), He.glo_ok X G (c.t.d.fact 8 (f := .glo "_law_kept") rfl)⟩
  let C__law_lefts : Cal (S := S0) P w K mg base 4 "_law_lefts" ["_law_deck_here", "_law_n"] [some 0, none] mf__law_lefts := ⟨_, fd__law_lefts, gn__law_lefts F__law_lefts B C__law_draw C__law_crossed C__law_kept C__law_base C__law_mirrored C__law_shuffled, F__law_lefts.kp, F__law_lefts.bindsN (fun _ _ _ _ _ _ us hl => match us, hl with | [_, _], _ => rfl), He.glo_ok X G (c.t.d.fact 9 (f := .glo "_law_lefts") rfl)⟩
  let C__law_table : Cal (S := S0) P w K mg base 1 "_law_table" ["_law_lefts_here"] [none] mf__law_table := ⟨_, fd__law_table, gn__law_table F__law_table B, F__law_table.kp, F__law_table.bindsN (fun _ _ _ _ _ _ us hl => match us, hl with | [_], _ => rfl), He.glo_ok X G (c.t.d.fact 10 (f := .glo "_law_table") rfl)⟩
  let C__law_row : Cal (S := S0) P w K mg base 2 "_law_row" ["_law_deck_here", "_law_n", "_law_most"] [some 0, none, none] mf__law_row := ⟨_, fd__law_row, gn__law_row F__law_row B C__law_draw, F__law_row.kp, F__law_row.bindsN (fun _ _ _ _ _ _ us hl => match us, hl with | [_, _, _], _ => rfl), He.glo_ok X G (c.t.d.fact 11 (f := .glo "_law_row") rfl)⟩
  let C_is_square : Cal (S := S0) P w K mg base 1 "is_square" ["thing"] [none] mf_is_square := ⟨_, fd_is_square, gn_is_square F_is_square B, F_is_square.kp, F_is_square.bindsN (fun _ _ _ _ _ _ us hl => match us, hl with | [_], _ => rfl), He.glo_ok X G (c.t.d.fact 12 (f := .glo "is_square") rfl)⟩
  let C_is_whole : Cal (S := S0) P w K mg base 1 "is_whole" ["thing"] [none] mf_is_whole := ⟨_, fd_is_whole, gn_is_whole F_is_whole B, F_is_whole.kp, F_is_whole.bindsN (fun _ _ _ _ _ _ us hl => match us, hl with | [_], _ => rfl), He.glo_ok X G (c.t.d.fact 13 (f := .glo "is_whole") rfl)⟩
  let C_is_below : Cal (S := S0) P w K mg base 2 "is_below" ["thing", "n"] [none, none] mf_is_below := ⟨_, fd_is_below, gn_is_below F_is_below B C_is_whole, F_is_below.kp, F_is_below.bindsN (fun _ _ _ _ _ _ us hl => match us, hl with | [_, _], _ => rfl), He.glo_ok X G (c.t.d.fact 14 (f := .glo "is_below") rfl)⟩
  let C_is_kinds : Cal (S := S0) P w K mg base 3 "is_kinds" ["thing", "n"] [none, none] mf_is_kinds := ⟨_, fd_is_kinds, gn_is_kinds F_is_kinds B C_is_below, F_is_kinds.kp, F_is_kinds.bindsN (fun _ _ _ _ _ _ us hl => match us, hl with | [_, _], _ => rfl), He.glo_ok X G (c.t.d.fact 15 (f := .glo "is_kinds") rfl)⟩
  let C_is_table : Cal (S := S0) P w K mg base 4 "is_table" ["thing"] [none] mf_is_table := ⟨_, fd_is_table, gn_is_table F_is_table B C_is_square C_is_kinds, F_is_table.kp, F_is_table.bindsN (fun _ _ _ _ _ _ us hl => match us, hl with | [_], _ => rfl), He.glo_ok X G (c.t.d.fact 16 (f := .glo "is_table") rfl)⟩
  let C__breaks_twice : Cal (S := S0) P w K mg base 1 "_breaks_twice" ["table", "x", "y"] [none, none, none] mf__breaks_twice := ⟨_, fd__breaks_twice, gn__breaks_twice F__breaks_twice B, F__breaks_twice.kp, F__breaks_twice.bindsN (fun _ _ _ _ _ _ us hl => match us, hl with | [_, _, _], _ => rfl), He.glo_ok X G (c.t.d.fact 17 (f := .glo "_breaks_twice") rfl)⟩
  let C__breaks_three : Cal (S := S0) P w K mg base 1 "_breaks_three" ["table", "x", "y", "z"] [none, none, none, none] mf__breaks_three := ⟨_, fd__breaks_three, gn__breaks_three F__breaks_three B, F__breaks_three.kp, F__breaks_three.bindsN (fun _ _ _ _ _ _ us hl => match us, hl with | [_, _, _, _], _ => rfl), He.glo_ok X G (c.t.d.fact 18 (f := .glo "_breaks_three") rfl)⟩
  let C__breaks : Cal (S := S0) P w K mg base 2 "_breaks" ["table", "name", "a", "b", "c"] [none, none, none, none, none] mf__breaks := ⟨_, fd__breaks, gn__breaks F__breaks B C__breaks_three, F__breaks.kp, F__breaks.bindsN (fun _ _ _ _ _ _ us hl => match us, hl with | [_, _, _, _, _], _ => rfl), He.glo_ok X G (c.t.d.fact 19 (f := .glo "_breaks") rfl)⟩
  let C__first_fault : Cal (S := S0) P w K mg base 3 "_first_fault" ["table"] [none] mf__first_fault := ⟨_, fd__first_fault, gn__first_fault F__first_fault B C__breaks_twice C__breaks, F__first_fault.kp, F__first_fault.bindsN (fun _ _ _ _ _ _ us hl => match us, hl with | [_], _ => rfl), He.glo_ok X G (c.t.d.fact 20 (f := .glo "_first_fault") rfl)⟩
  let C_is_rule : Cal (S := S0) P w K mg base 5 "is_rule" ["thing"] [none] mf_is_rule := ⟨_, fd_is_rule, gn_is_rule F_is_rule B C_is_table C__first_fault, F_is_rule.kp, F_is_rule.bindsN (fun _ _ _ _ _ _ us hl => match us, hl with | [_], _ => rfl), He.glo_ok X G (c.t.d.fact 21 (f := .glo "is_rule") rfl)⟩
  let C_require_rule : Cal (S := S0) P w K mg base 6 "require_rule" ["rule"] [none] mf_require_rule := ⟨_, fd_require_rule, gn_require_rule F_require_rule B C_is_rule, F_require_rule.kp, F_require_rule.bindsN (fun _ _ _ _ _ _ us hl => match us, hl with | [_], _ => rfl), He.glo_ok X G (c.t.d.fact 22 (f := .glo "require_rule") rfl)⟩
  let C_is_row : Cal (S := S0) P w K mg base 7 "is_row" ["rule", "thing"] [none, none] mf_is_row := ⟨_, fd_is_row, gn_is_row F_is_row B C_require_rule C_is_kinds, F_is_row.kp, F_is_row.bindsN (fun _ _ _ _ _ _ us hl => match us, hl with | [_, _], _ => rfl), He.glo_ok X G (c.t.d.fact 23 (f := .glo "is_row") rfl)⟩
  have bk_is_row_0_1 : C_is_row.BK ["rule", "thing"] [0, 1] := kbinds F_is_row (fun _ _ _ _ _ _ us ws h1 h2 => match us, ws, h1, h2 with | [], [_, _], _, _ => rfl)
  let C_require_row : Cal (S := S0) P w K mg base 8 "require_row" ["rule", "row"] [none, none] mf_require_row := ⟨_, fd_require_row, gn_require_row F_require_row B C_is_row, F_require_row.kp, F_require_row.bindsN (fun _ _ _ _ _ _ us hl => match us, hl with | [_, _], _ => rfl), He.glo_ok X G (c.t.d.fact 24 (f := .glo "require_row") rfl)⟩
  let C_identity : Cal (S := S0) P w K mg base 1 "identity" ["n"] [none] mf_identity := ⟨_, fd_identity, gn_identity F_identity B, F_identity.kp, F_identity.bindsN (fun _ _ _ _ _ _ us hl => match us, hl with | [_], _ => rfl), He.glo_ok X G (c.t.d.fact 25 (f := .glo "identity") rfl)⟩
  let C_after : Cal (S := S0) P w K mg base 1 "after" ["t", "s"] [none, none] mf_after := ⟨_, fd_after, gn_after F_after B, F_after.kp, F_after.bindsN (fun _ _ _ _ _ _ us hl => match us, hl with | [_, _], _ => rfl), He.glo_ok X G (c.t.d.fact 26 (f := .glo "after") rfl)⟩
  let C_order_and_turn : Cal (S := S0) P w K mg base 2 "order_and_turn" ["lefts", "row"] [none, none] mf_order_and_turn := ⟨_, fd_order_and_turn, gn_order_and_turn F_order_and_turn B C_after C_identity, F_order_and_turn.kp, F_order_and_turn.bindsN (fun _ _ _ _ _ _ us hl => match us, hl with | [_, _], _ => rfl), He.glo_ok X G (c.t.d.fact 27 (f := .glo "order_and_turn") rfl)⟩
  let C_left_turns : Cal (S := S0) P w K mg base 1 "left_turns" ["table"] [none] mf_left_turns := ⟨_, fd_left_turns, gn_left_turns F_left_turns B, F_left_turns.kp, F_left_turns.bindsN (fun _ _ _ _ _ _ us hl => match us, hl with | [_], _ => rfl), He.glo_ok X G (c.t.d.fact 28 (f := .glo "left_turns") rfl)⟩
  let C_turn_of_row : Cal (S := S0) P w K mg base 9 "turn_of_row" ["rule", "row"] [none, none] mf_turn_of_row := ⟨_, fd_turn_of_row, gn_turn_of_row F_turn_of_row B C_require_row C_order_and_turn C_left_turns, F_turn_of_row.kp, F_turn_of_row.bindsN (fun _ _ _ _ _ _ us hl => match us, hl with | [_, _], _ => rfl), He.glo_ok X G (c.t.d.fact 29 (f := .glo "turn_of_row") rfl)⟩
  have bk_turn_of_row_0_1 : C_turn_of_row.BK ["rule", "row"] [0, 1] := kbinds F_turn_of_row (fun _ _ _ _ _ _ us ws h1 h2 => match us, ws, h1, h2 with | [], [_, _], _, _ => rfl)
  let C__law_same : Cal (S := S0) P w K mg base 1 "_law_same" ["_law_told", "_law_due"] [none, none] mf__law_same := ⟨_, fd__law_same, gn__law_same F__law_same B, F__law_same.kp, F__law_same.bindsN (fun _ _ _ _ _ _ us hl => match us, hl with | [_, _], _ => rfl), He.glo_ok X G (c.t.d.fact 30 (f := .glo "_law_same") rfl)⟩
  let C_order_of : Cal (S := S0) P w K mg base 9 "order_of" ["rule", "row"] [none, none] mf_order_of := ⟨_, fd_order_of, gn_order_of F_order_of B C_require_row C_order_and_turn C_left_turns, F_order_of.kp, F_order_of.bindsN (fun _ _ _ _ _ _ us hl => match us, hl with | [_, _], _ => rfl), He.glo_ok X G (c.t.d.fact 31 (f := .glo "order_of") rfl)⟩
  have bk_order_of_1_0 : C_order_of.BK ["row", "rule"] [1, 0] := kbinds F_order_of (fun _ _ _ _ _ _ us ws h1 h2 => match us, ws, h1, h2 with | [], [_, _], _, _ => rfl)
  let C__law_read : Cal (S := S0) P w K mg base 2 "_law_read" ["_law_lefts_here", "_law_row_here"] [none, none] mf__law_read := ⟨_, fd__law_read, gn__law_read F__law_read B C__law_after, F__law_read.kp, F__law_read.bindsN (fun _ _ _ _ _ _ us hl => match us, hl with | [_, _], _ => rfl), He.glo_ok X G (c.t.d.fact 32 (f := .glo "_law_read") rfl)⟩
  let C__law_is_joined : Cal (S := S0) P w K mg base 10 "_law_is_joined" ["_law_table_here", "_law_lefts_here", "_law_one", "_law_other"] [none, none, none, none] mf__law_is_joined := ⟨_, fd__law_is_joined, gn__law_is_joined F__law_is_joined B C__law_same C_order_of C__law_after C__law_read C_turn_of_row, F__law_is_joined.kp, F__law_is_joined.bindsN (fun _ _ _ _ _ _ us hl => match us, hl with | [_, _, _, _], _ => rfl), He.glo_ok X G (c.t.d.fact 33 (f := .glo "_law_is_joined") rfl)⟩
  let C_counts : Cal (S := S0) P w K mg base 1 "counts" ["order", "n"] [none, none] mf_counts := ⟨_, fd_counts, gn_counts F_counts B, F_counts.kp, F_counts.bindsN (fun _ _ _ _ _ _ us hl => match us, hl with | [_, _], _ => rfl), He.glo_ok X G (c.t.d.fact 34 (f := .glo "counts") rfl)⟩
  let C_heap_of : Cal (S := S0) P w K mg base 10 "heap_of" ["rule", "row"] [none, none] mf_heap_of := ⟨_, fd_heap_of, gn_heap_of F_heap_of B C_counts C_order_of, F_heap_of.kp, F_heap_of.bindsN (fun _ _ _ _ _ _ us hl => match us, hl with | [_, _], _ => rfl), He.glo_ok X G (c.t.d.fact 35 (f := .glo "heap_of") rfl)⟩
  have bk_heap_of_1_0 : C_heap_of.BK ["row", "rule"] [1, 0] := kbinds F_heap_of (fun _ _ _ _ _ _ us ws h1 h2 => match us, ws, h1, h2 with | [], [_, _], _, _ => rfl)
  let C_one_more : Cal (S := S0) P w K mg base 2 "one_more" ["lefts", "turn", "y"] [none, none, none] mf_one_more := ⟨_, fd_one_more, gn_one_more F_one_more B C_after, F_one_more.kp, F_one_more.bindsN (fun _ _ _ _ _ _ us hl => match us, hl with | [_, _, _], _ => rfl), He.glo_ok X G (c.t.d.fact 36 (f := .glo "one_more") rfl)⟩
  let C_row_with_order : Cal (S := S0) P w K mg base 3 "row_with_order" ["lefts", "order"] [none, none] mf_row_with_order := ⟨_, fd_row_with_order, gn_row_with_order F_row_with_order B C_one_more C_identity, F_row_with_order.kp, F_row_with_order.bindsN (fun _ _ _ _ _ _ us hl => match us, hl with | [_, _], _ => rfl), He.glo_ok X G (c.t.d.fact 37 (f := .glo "row_with_order") rfl)⟩
  let C_row_of : Cal (S := S0) P w K mg base 7 "row_of" ["rule", "order"] [none, none] mf_row_of := ⟨_, fd_row_of, gn_row_of F_row_of B C_require_rule C_is_kinds C_row_with_order C_left_turns, F_row_of.kp, F_row_of.bindsN (fun _ _ _ _ _ _ us hl => match us, hl with | [_, _], _ => rfl), He.glo_ok X G (c.t.d.fact 38 (f := .glo "row_of") rfl)⟩
  have bk_row_of_1_0 : C_row_of.BK ["order", "rule"] [1, 0] := kbinds F_row_of (fun _ _ _ _ _ _ us ws h1 h2 => match us, ws, h1, h2 with | [], [_, _], _, _ => rfl)
  let C__law_is_read : Cal (S := S0) P w K mg base 11 "_law_is_read" ["_law_table_here", "_law_lefts_here", "_law_row_here"] [none, none, none] mf__law_is_read := ⟨_, fd__law_is_read, gn__law_is_read F__law_is_read B C__law_read C__law_same C_is_row C_row_of C_order_of C_heap_of C_turn_of_row bk_is_row_0_1 bk_order_of_1_0 bk_heap_of_1_0 bk_turn_of_row_0_1, F__law_is_read.kp, F__law_is_read.bindsN (fun _ _ _ _ _ _ us hl => match us, hl with | [_, _, _], _ => rfl), He.glo_ok X G (c.t.d.fact 39 (f := .glo "_law_is_read") rfl)⟩
  let C__law_written : Cal (S := S0) P w K mg base 2 "_law_written" ["_law_lefts_here", "_law_order"] [none, none] mf__law_written := ⟨_, fd__law_written, gn__law_written F__law_written B C__law_after, F__law_written.kp, F__law_written.bindsN (fun _ _ _ _ _ _ us hl => match us, hl with | [_, _], _ => rfl), He.glo_ok X G (c.t.d.fact 40 (f := .glo "_law_written") rfl)⟩
  let C__law_is_written : Cal (S := S0) P w K mg base 10 "_law_is_written" ["_law_table_here", "_law_lefts_here", "_law_order"] [none, none, none] mf__law_is_written := ⟨_, fd__law_is_written, gn__law_is_written F__law_is_written B C__law_same C_order_of C_row_of C__law_written bk_row_of_1_0, F__law_is_written.kp, F__law_is_written.bindsN (fun _ _ _ _ _ _ us hl => match us, hl with | [_, _, _], _ => rfl), He.glo_ok X G (c.t.d.fact 41 (f := .glo "_law_is_written") rfl)⟩
  exact gn_law F_law B C__law_row C__law_is_read C__law_is_written C_is_row C__law_is_joined C__law_table C__law_lefts C__law_draw C__law_deck Pn hD
end K12
set_option Elab.async false
set_option linter.all false
set_option maxRecDepth 100000
set_option maxHeartbeats 2000000
namespace K12
open PySem PySem.Spec PyProof.Rows L2 Cz Rl
/-! ### the program's defs, on kinds -/
theorem e_whole (a : Nat) : mf_is_whole [dn a] = mRet (.bool true) := by
  simp -implicitDefEqProofs only [mf_is_whole, m_is_whole, bnd_ret, of_some, all_nil, all_cons, g_nil, g_inl, g_inr, and_t, and_f, or_t, or_f, elt1_ret, eltIf_t, eltIf_f, it_t, it_f, bndF_nx, bndF_rt, fin_rt, fin_nx, t2_at, t3_at, part_n, add_n, lt_n, le_n, gt_n, ge_n, bl_b, tru_b, not_b, isN_n, isB_b, isNB_b, int_n, isi_int, isi_bool, isi_tup, seq_t, seq_l, len_t, len_l, tupOf_l, tupOf_t, tup1, tup2, tup3, tup4, sm0, sm1, sm2, sm3, sm4, ix_t, ix_l, lit0, lit1, lit2, lit3, lit4, lit5, lit6, lit8, lit9, lit12, lit16, lit60, Bool.not_true, Bool.not_false, g_0, g_1, nxL_ret, ite_true, ite_false, Bool.false_eq_true, seq_p, seq_tD, len_p, len_tD, Option.map_some]
theorem e_below (a n : Nat) : mf_is_below [dn a, dn n] = mRet (.bool (decide (a < n))) := by
  simp -implicitDefEqProofs only [mf_is_below, m_is_below, bnd_ret, of_some, all_nil, all_cons, g_nil, g_inl, g_inr, and_t, and_f, or_t, or_f, elt1_ret, eltIf_t, eltIf_f, it_t, it_f, bndF_nx, bndF_rt, fin_rt, fin_nx, t2_at, t3_at, part_n, add_n, lt_n, le_n, gt_n, ge_n, bl_b, tru_b, not_b, isN_n, isB_b, isNB_b, int_n, isi_int, isi_bool, isi_tup, seq_t, seq_l, len_t, len_l, tupOf_l, tupOf_t, tup1, tup2, tup3, tup4, sm0, sm1, sm2, sm3, sm4, ix_t, ix_l, lit0, lit1, lit2, lit3, lit4, lit5, lit6, lit8, lit9, lit12, lit16, lit60, Bool.not_true, Bool.not_false, g_0, g_1, nxL_ret, ite_true, ite_false, Bool.false_eq_true, seq_p, seq_tD, len_p, len_tD, Option.map_some, e_whole, Nat.zero_le, decide_true]
theorem e_kinds (l : List Nat) (n : Nat) (hl : l.length ≤ 1000) (h : ∀ x ∈ l, x < n) : mf_is_kinds [tD l, dn n] = mRet (.bool true) := by
  unfold tD
  simp -implicitDefEqProofs only [mf_is_kinds, m_is_kinds, bnd_ret, of_some, all_nil, all_cons, g_nil, g_inl, g_inr, and_t, and_f, or_t, or_f, elt1_ret, eltIf_t, eltIf_f, it_t, it_f, bndF_nx, bndF_rt, fin_rt, fin_nx, t2_at, t3_at, part_n, add_n, lt_n, le_n, gt_n, ge_n, bl_b, tru_b, not_b, isN_n, isB_b, isNB_b, int_n, isi_int, isi_bool, isi_tup, seq_t, seq_l, len_t, len_l, tupOf_l, tupOf_t, tup1, tup2, tup3, tup4, sm0, sm1, sm2, sm3, sm4, ix_t, ix_l, lit0, lit1, lit2, lit3, lit4, lit5, lit6, lit8, lit9, lit12, lit16, lit60, Bool.not_true, Bool.not_false, g_0, g_1, nxL_ret, ite_true, ite_false, Bool.false_eq_true, seq_p, seq_tD, len_p, len_tD, Option.map_some]
  rw [comp_list (g := fun _ => .bool true) (fun i hi => ?_) (by simpa using hl)]
  · simp -implicitDefEqProofs only [bnd_ret, of_some, all_nil, all_cons, g_nil, g_inl, g_inr, and_t, and_f, or_t, or_f, elt1_ret, eltIf_t, eltIf_f, it_t, it_f, bndF_nx, bndF_rt, fin_rt, fin_nx, t2_at, t3_at, part_n, add_n, lt_n, le_n, gt_n, ge_n, bl_b, tru_b, not_b, isN_n, isB_b, isNB_b, int_n, isi_int, isi_bool, isi_tup, seq_t, seq_l, len_t, len_l, tupOf_l, tupOf_t, tup1, tup2, tup3, tup4, sm0, sm1, sm2, sm3, sm4, ix_t, ix_l, lit0, lit1, lit2, lit3, lit4, lit5, lit6, lit8, lit9, lit12, lit16, lit60, Bool.not_true, Bool.not_false, g_0, g_1, nxL_ret, ite_true, ite_false, Bool.false_eq_true, seq_p, seq_tD, len_p, len_tD, Option.map_some, List.nil_append]
    rw [all_b fun _ _ => rfl]
    simp -implicitDefEqProofs only [bnd_ret, of_some, all_nil, all_cons, g_nil, g_inl, g_inr, and_t, and_f, or_t, or_f, elt1_ret, eltIf_t, eltIf_f, it_t, it_f, bndF_nx, bndF_rt, fin_rt, fin_nx, t2_at, t3_at, part_n, add_n, lt_n, le_n, gt_n, ge_n, bl_b, tru_b, not_b, isN_n, isB_b, isNB_b, int_n, isi_int, isi_bool, isi_tup, seq_t, seq_l, len_t, len_l, tupOf_l, tupOf_t, tup1, tup2, tup3, tup4, sm0, sm1, sm2, sm3, sm4, ix_t, ix_l, lit0, lit1, lit2, lit3, lit4, lit5, lit6, lit8, lit9, lit12, lit16, lit60, Bool.not_true, Bool.not_false, g_0, g_1, nxL_ret, ite_true, ite_false, Bool.false_eq_true, seq_p, seq_tD, len_p, len_tD, Option.map_some]
  · simp -implicitDefEqProofs only [bnd_ret, of_some, all_nil, all_cons, g_nil, g_inl, g_inr, and_t, and_f, or_t, or_f, elt1_ret, eltIf_t, eltIf_f, it_t, it_f, bndF_nx, bndF_rt, fin_rt, fin_nx, t2_at, t3_at, part_n, add_n, lt_n, le_n, gt_n, ge_n, bl_b, tru_b, not_b, isN_n, isB_b, isNB_b, int_n, isi_int, isi_bool, isi_tup, seq_t, seq_l, len_t, len_l, tupOf_l, tupOf_t, tup1, tup2, tup3, tup4, sm0, sm1, sm2, sm3, sm4, ix_t, ix_l, lit0, lit1, lit2, lit3, lit4, lit5, lit6, lit8, lit9, lit12, lit16, lit60, Bool.not_true, Bool.not_false, g_0, g_1, nxL_ret, ite_true, ite_false, Bool.false_eq_true, seq_p, seq_tD, len_p, len_tD, Option.map_some, List.getElem_map, e_below]
    rw [decide_eq_true (h _ (List.getElem_mem (by simpa using hi)))]
theorem e_identity (n : Nat) (hn : n ≤ 8) : mf_identity [dn n] = mRet (pD n fun i => i) := by
  simp -implicitDefEqProofs only [mf_identity, m_identity, bnd_ret, of_some, all_nil, all_cons, g_nil, g_inl, g_inr, and_t, and_f, or_t, or_f, elt1_ret, eltIf_t, eltIf_f, it_t, it_f, bndF_nx, bndF_rt, fin_rt, fin_nx, t2_at, t3_at, part_n, add_n, lt_n, le_n, gt_n, ge_n, bl_b, tru_b, not_b, isN_n, isB_b, isNB_b, int_n, isi_int, isi_bool, isi_tup, seq_t, seq_l, len_t, len_l, tupOf_l, tupOf_t, tup1, tup2, tup3, tup4, sm0, sm1, sm2, sm3, sm4, ix_t, ix_l, lit0, lit1, lit2, lit3, lit4, lit5, lit6, lit8, lit9, lit12, lit16, lit60, Bool.not_true, Bool.not_false, g_0, g_1, nxL_ret, ite_true, ite_false, Bool.false_eq_true, seq_p, seq_tD, len_p, len_tD, Option.map_some]
  rw [rgL_n (by omega)]
  rfl
theorem e_after {n m : Nat} (hm : m ≤ 8) {f g : Nat → Nat} (h : ∀ i, i < m → g i < n) : mf_after [pD n f, pD m g] = mRet (pD m fun i => f (g i)) := by
  unfold pD
  simp -implicitDefEqProofs only [mf_after, m_after, bnd_ret, of_some, all_nil, all_cons, g_nil, g_inl, g_inr, and_t, and_f, or_t, or_f, elt1_ret, eltIf_t, eltIf_f, it_t, it_f, bndF_nx, bndF_rt, fin_rt, fin_nx, t2_at, t3_at, part_n, add_n, lt_n, le_n, gt_n, ge_n, bl_b, tru_b, not_b, isN_n, isB_b, isNB_b, int_n, isi_int, isi_bool, isi_tup, seq_t, seq_l, len_t, len_l, tupOf_l, tupOf_t, tup1, tup2, tup3, tup4, sm0, sm1, sm2, sm3, sm4, ix_t, ix_l, lit0, lit1, lit2, lit3, lit4, lit5, lit6, lit8, lit9, lit12, lit16, lit60, Bool.not_true, Bool.not_false, g_0, g_1, nxL_ret, ite_true, ite_false, Bool.false_eq_true, seq_p, seq_tD, len_p, len_tD, Option.map_some]
  rw [comp_range (g := fun i => dn (f (g i))) (by omega) fun i hi => by simp -implicitDefEqProofs only [bnd_ret, of_some, all_nil, all_cons, g_nil, g_inl, g_inr, and_t, and_f, or_t, or_f, elt1_ret, eltIf_t, eltIf_f, it_t, it_f, bndF_nx, bndF_rt, fin_rt, fin_nx, t2_at, t3_at, part_n, add_n, lt_n, le_n, gt_n, ge_n, bl_b, tru_b, not_b, isN_n, isB_b, isNB_b, int_n, isi_int, isi_bool, isi_tup, seq_t, seq_l, len_t, len_l, tupOf_l, tupOf_t, tup1, tup2, tup3, tup4, sm0, sm1, sm2, sm3, sm4, ix_t, ix_l, lit0, lit1, lit2, lit3, lit4, lit5, lit6, lit8, lit9, lit12, lit16, lit60, Bool.not_true, Bool.not_false, g_0, g_1, nxL_ret, ite_true, ite_false, Bool.false_eq_true, seq_p, seq_tD, len_p, len_tD, Option.map_some, tab_at (h i hi)]]
  simp -implicitDefEqProofs only [bnd_ret, of_some, all_nil, all_cons, g_nil, g_inl, g_inr, and_t, and_f, or_t, or_f, elt1_ret, eltIf_t, eltIf_f, it_t, it_f, bndF_nx, bndF_rt, fin_rt, fin_nx, t2_at, t3_at, part_n, add_n, lt_n, le_n, gt_n, ge_n, bl_b, tru_b, not_b, isN_n, isB_b, isNB_b, int_n, isi_int, isi_bool, isi_tup, seq_t, seq_l, len_t, len_l, tupOf_l, tupOf_t, tup1, tup2, tup3, tup4, sm0, sm1, sm2, sm3, sm4, ix_t, ix_l, lit0, lit1, lit2, lit3, lit4, lit5, lit6, lit8, lit9, lit12, lit16, lit60, Bool.not_true, Bool.not_false, g_0, g_1, nxL_ret, ite_true, ite_false, Bool.false_eq_true, seq_p, seq_tD, len_p, len_tD, Option.map_some]
/-- a table -/
def tbD (n : Nat) (T : Nat → Nat → Nat × Nat) : D := .tuple ((List.range n).map fun x => .tuple ((List.range n).map fun y => .tuple [dn (T x y).1, dn (T x y).2]))
theorem e_square {n : Nat} (h1 : 1 ≤ n) (h8 : n ≤ 8) (T : Nat → Nat → Nat × Nat) : mf_is_square [tbD n T] = mRet (.bool true) := by
  unfold tbD
  simp -implicitDefEqProofs only [mf_is_square, m_is_square, bnd_ret, of_some, all_nil, all_cons, g_nil, g_inl, g_inr, and_t, and_f, or_t, or_f, elt1_ret, eltIf_t, eltIf_f, it_t, it_f, bndF_nx, bndF_rt, fin_rt, fin_nx, t2_at, t3_at, part_n, add_n, lt_n, le_n, gt_n, ge_n, bl_b, tru_b, not_b, isN_n, isB_b, isNB_b, int_n, isi_int, isi_bool, isi_tup, seq_t, seq_l, len_t, len_l, tupOf_l, tupOf_t, tup1, tup2, tup3, tup4, sm0, sm1, sm2, sm3, sm4, ix_t, ix_l, lit0, lit1, lit2, lit3, lit4, lit5, lit6, lit8, lit9, lit12, lit16, lit60, Bool.not_true, Bool.not_false, g_0, g_1, nxL_ret, ite_true, ite_false, Bool.false_eq_true, seq_p, seq_tD, len_p, len_tD, Option.map_some, tab_len, h1, h8, decide_true]
  rw [comp_range (g := fun i => .bool true) (by omega) fun i hi => by simp -implicitDefEqProofs only [bnd_ret, of_some, all_nil, all_cons, g_nil, g_inl, g_inr, and_t, and_f, or_t, or_f, elt1_ret, eltIf_t, eltIf_f, it_t, it_f, bndF_nx, bndF_rt, fin_rt, fin_nx, t2_at, t3_at, part_n, add_n, lt_n, le_n, gt_n, ge_n, bl_b, tru_b, not_b, isN_n, isB_b, isNB_b, int_n, isi_int, isi_bool, isi_tup, seq_t, seq_l, len_t, len_l, tupOf_l, tupOf_t, tup1, tup2, tup3, tup4, sm0, sm1, sm2, sm3, sm4, ix_t, ix_l, lit0, lit1, lit2, lit3, lit4, lit5, lit6, lit8, lit9, lit12, lit16, lit60, Bool.not_true, Bool.not_false, g_0, g_1, nxL_ret, ite_true, ite_false, Bool.false_eq_true, seq_p, seq_tD, len_p, len_tD, Option.map_some, tab_len, eq_n, decide_true]]
  simp -implicitDefEqProofs only [bnd_ret, of_some, all_nil, all_cons, g_nil, g_inl, g_inr, and_t, and_f, or_t, or_f, elt1_ret, eltIf_t, eltIf_f, it_t, it_f, bndF_nx, bndF_rt, fin_rt, fin_nx, t2_at, t3_at, part_n, add_n, lt_n, le_n, gt_n, ge_n, bl_b, tru_b, not_b, isN_n, isB_b, isNB_b, int_n, isi_int, isi_bool, isi_tup, seq_t, seq_l, len_t, len_l, tupOf_l, tupOf_t, tup1, tup2, tup3, tup4, sm0, sm1, sm2, sm3, sm4, ix_t, ix_l, lit0, lit1, lit2, lit3, lit4, lit5, lit6, lit8, lit9, lit12, lit16, lit60, Bool.not_true, Bool.not_false, g_0, g_1, nxL_ret, ite_true, ite_false, Bool.false_eq_true, seq_p, seq_tD, len_p, len_tD, Option.map_some]
  rw [all_b fun _ _ => rfl]
  simp -implicitDefEqProofs only [bnd_ret, of_some, all_nil, all_cons, g_nil, g_inl, g_inr, and_t, and_f, or_t, or_f, elt1_ret, eltIf_t, eltIf_f, it_t, it_f, bndF_nx, bndF_rt, fin_rt, fin_nx, t2_at, t3_at, part_n, add_n, lt_n, le_n, gt_n, ge_n, bl_b, tru_b, not_b, isN_n, isB_b, isNB_b, int_n, isi_int, isi_bool, isi_tup, seq_t, seq_l, len_t, len_l, tupOf_l, tupOf_t, tup1, tup2, tup3, tup4, sm0, sm1, sm2, sm3, sm4, ix_t, ix_l, lit0, lit1, lit2, lit3, lit4, lit5, lit6, lit8, lit9, lit12, lit16, lit60, Bool.not_true, Bool.not_false, g_0, g_1, nxL_ret, ite_true, ite_false, Bool.false_eq_true, seq_p, seq_tD, len_p, len_tD, Option.map_some]

theorem e_table {n : Nat} (h1 : 1 ≤ n) (h8 : n ≤ 8) {T : Nat → Nat → Nat × Nat} (hT : ∀ x, x < n → ∀ y, y < n → (T x y).1 < n ∧ (T x y).2 < n) : mf_is_table [tbD n T] = mRet (.bool true) := by
  simp -implicitDefEqProofs only [mf_is_table, m_is_table, bnd_ret, of_some, all_nil, all_cons, g_nil, g_inl, g_inr, and_t, and_f, or_t, or_f, elt1_ret, eltIf_t, eltIf_f, it_t, it_f, bndF_nx, bndF_rt, fin_rt, fin_nx, t2_at, t3_at, part_n, add_n, lt_n, le_n, gt_n, ge_n, bl_b, tru_b, not_b, isN_n, isB_b, isNB_b, int_n, isi_int, isi_bool, isi_tup, seq_t, seq_l, len_t, len_l, tupOf_l, tupOf_t, tup1, tup2, tup3, tup4, sm0, sm1, sm2, sm3, sm4, ix_t, ix_l, lit0, lit1, lit2, lit3, lit4, lit5, lit6, lit8, lit9, lit12, lit16, lit60, Bool.not_true, Bool.not_false, g_0, g_1, nxL_ret, ite_true, ite_false, Bool.false_eq_true, seq_p, seq_tD, len_p, len_tD, Option.map_some, e_square h1 h8]
  unfold tbD
  simp -implicitDefEqProofs only [bnd_ret, of_some, all_nil, all_cons, g_nil, g_inl, g_inr, and_t, and_f, or_t, or_f, elt1_ret, eltIf_t, eltIf_f, it_t, it_f, bndF_nx, bndF_rt, fin_rt, fin_nx, t2_at, t3_at, part_n, add_n, lt_n, le_n, gt_n, ge_n, bl_b, tru_b, not_b, isN_n, isB_b, isNB_b, int_n, isi_int, isi_bool, isi_tup, seq_t, seq_l, len_t, len_l, tupOf_l, tupOf_t, tup1, tup2, tup3, tup4, sm0, sm1, sm2, sm3, sm4, ix_t, ix_l, lit0, lit1, lit2, lit3, lit4, lit5, lit6, lit8, lit9, lit12, lit16, lit60, Bool.not_true, Bool.not_false, g_0, g_1, nxL_ret, ite_true, ite_false, Bool.false_eq_true, seq_p, seq_tD, len_p, len_tD, Option.map_some, tab_len]
  obtain ⟨k, e⟩ := comp2_const (S := S0) (mi := fun c7 => (mBnd (mRet c7) fun x9 => mOf (gSeq x9))) (f := fun c7 c8 => elt1 (mAnd (mBnd (mG [.inl (mRet c8), .inl (mRet (dn n))]) mf_is_kinds) (mBnd (mBnd (mAll [(mRet c8)]) fun ds => mOf (gLen ds)) fun x10 => mBnd (mRet (dn 2)) fun y11 => mOf (gEq x10 y11)))) (d := .bool true)
    (xs := (List.range n).map fun x => .tuple ((List.range n).map fun y => .tuple [dn (T x y).1, dn (T x y).2])) (acc := []) (fun x hx => by
      obtain ⟨i, hi, rfl⟩ := List.mem_map.mp hx
      refine ⟨_, rfl, by simpa using h8, fun y hy => ?_⟩
      obtain ⟨j, hj, rfl⟩ := List.mem_map.mp hy
      have hT := hT i (by simpa using hi) j (by simpa using hj)
      have e := e_kinds [(T i j).1, (T i j).2] n (by simp) (by intro z hz; simp at hz; rcases hz with rfl | rfl; exact hT.1; exact hT.2)
      simp -implicitDefEqProofs only [tD, List.map_cons, List.map_nil] at e
      simp -implicitDefEqProofs only [bnd_ret, of_some, all_nil, all_cons, g_nil, g_inl, g_inr, and_t, and_f, or_t, or_f, elt1_ret, eltIf_t, eltIf_f, it_t, it_f, bndF_nx, bndF_rt, fin_rt, fin_nx, t2_at, t3_at, part_n, add_n, lt_n, le_n, gt_n, ge_n, bl_b, tru_b, not_b, isN_n, isB_b, isNB_b, int_n, isi_int, isi_bool, isi_tup, seq_t, seq_l, len_t, len_l, tupOf_l, tupOf_t, tup1, tup2, tup3, tup4, sm0, sm1, sm2, sm3, sm4, ix_t, ix_l, lit0, lit1, lit2, lit3, lit4, lit5, lit6, lit8, lit9, lit12, lit16, lit60, Bool.not_true, Bool.not_false, g_0, g_1, nxL_ret, ite_true, ite_false, Bool.false_eq_true, seq_p, seq_tD, len_p, len_tD, Option.map_some, e, List.length_cons, List.length_nil]
      rfl) (by simp; omega)
  simp -implicitDefEqProofs only [bnd_ret, of_some, all_nil, all_cons, g_nil, g_inl, g_inr, and_t, and_f, or_t, or_f, elt1_ret, eltIf_t, eltIf_f, it_t, it_f, bndF_nx, bndF_rt, fin_rt, fin_nx, t2_at, t3_at, part_n, add_n, lt_n, le_n, gt_n, ge_n, bl_b, tru_b, not_b, isN_n, isB_b, isNB_b, int_n, isi_int, isi_bool, isi_tup, seq_t, seq_l, len_t, len_l, tupOf_l, tupOf_t, tup1, tup2, tup3, tup4, sm0, sm1, sm2, sm3, sm4, ix_t, ix_l, lit0, lit1, lit2, lit3, lit4, lit5, lit6, lit8, lit9, lit12, lit16, lit60, Bool.not_true, Bool.not_false, g_0, g_1, nxL_ret, ite_true, ite_false, Bool.false_eq_true, seq_p, seq_tD, len_p, len_tD, Option.map_some] at e
  rw [e]
  simp -implicitDefEqProofs only [bnd_ret, of_some, all_nil, all_cons, g_nil, g_inl, g_inr, and_t, and_f, or_t, or_f, elt1_ret, eltIf_t, eltIf_f, it_t, it_f, bndF_nx, bndF_rt, fin_rt, fin_nx, t2_at, t3_at, part_n, add_n, lt_n, le_n, gt_n, ge_n, bl_b, tru_b, not_b, isN_n, isB_b, isNB_b, int_n, isi_int, isi_bool, isi_tup, seq_t, seq_l, len_t, len_l, tupOf_l, tupOf_t, tup1, tup2, tup3, tup4, sm0, sm1, sm2, sm3, sm4, ix_t, ix_l, lit0, lit1, lit2, lit3, lit4, lit5, lit6, lit8, lit9, lit12, lit16, lit60, Bool.not_true, Bool.not_false, g_0, g_1, nxL_ret, ite_true, ite_false, Bool.false_eq_true, seq_p, seq_tD, len_p, len_tD, Option.map_some, List.nil_append, all_rep]
/-- the table of a rule -/
def rtD (n : Nat) (L : Nat → Nat → Nat) : D := tbD n fun x y => (L x y, Rt n L y x)
section
variable {n : Nat} {L : Nat → Nat → Nat}
theorem e_is_table (h1 : 1 ≤ n) (h8 : n ≤ 8) (h : Ru n L) : mf_is_table [rtD n L] = mRet (.bool true) := e_table h1 h8 fun x hx y hy => ⟨h.lt hx hy, h.rlt hx hy⟩
theorem rt_1 {x : Nat} (hx : x < n) : gIx (rtD n L) (dn x) = some (.tuple ((List.range n).map fun y => .tuple [dn (L x y), dn (Rt n L y x)])) := by
  unfold rtD tbD
  rw [ix_t, tab_at hx]
theorem rt_2 {x y : Nat} (hy : y < n) : gIx (.tuple ((List.range n).map fun y => .tuple [dn (L x y), dn (Rt n L y x)])) (dn y) = some (.tuple [dn (L x y), dn (Rt n L y x)]) := by
  rw [ix_t, tab_at hy]
theorem e_twice (h : Ru n L) {x y : Nat} (hx : x < n) (hy : y < n) : mf__breaks_twice [rtD n L, dn x, dn y] = mRet (.bool false) := by
  have e : ∀ a b c d : Nat, gNe (.tuple [dn a, dn b]) (.tuple [dn c, dn d]) = some (.bool (!decide ([a, b] = [c, d]))) := fun a b c d => ne_t (l := [a, b]) (m := [c, d])
  simp -implicitDefEqProofs only [mf__breaks_twice, m__breaks_twice, bnd_ret, of_some, all_nil, all_cons, g_nil, g_inl, g_inr, and_t, and_f, or_t, or_f, elt1_ret, eltIf_t, eltIf_f, it_t, it_f, bndF_nx, bndF_rt, fin_rt, fin_nx, t2_at, t3_at, part_n, add_n, lt_n, le_n, gt_n, ge_n, bl_b, tru_b, not_b, isN_n, isB_b, isNB_b, int_n, isi_int, isi_bool, isi_tup, seq_t, seq_l, len_t, len_l, tupOf_l, tupOf_t, tup1, tup2, tup3, tup4, sm0, sm1, sm2, sm3, sm4, ix_t, ix_l, lit0, lit1, lit2, lit3, lit4, lit5, lit6, lit8, lit9, lit12, lit16, lit60, Bool.not_true, Bool.not_false, g_0, g_1, nxL_ret, ite_true, ite_false, Bool.false_eq_true, seq_p, seq_tD, len_p, len_tD, Option.map_some, rt_1 hx, rt_2 hy, rt_1 (h.lt hx hy), rt_2 (h.rlt hx hy), e, h.uv hx hy, h.back hx hy, decide_true]
theorem e_three (h : Ru n L) {x y z : Nat} (hx : x < n) (hy : y < n) (hz : z < n) : mf__breaks_three [rtD n L, dn x, dn y, dn z] = mRet (.bool false) := by
  have e : ∀ a b c d e f : Nat, gNe (.tuple [dn a, dn b, dn c]) (.tuple [dn d, dn e, dn f]) = some (.bool (!decide ([a, b, c] = [d, e, f]))) := fun a b c d e f => ne_t (l := [a, b, c]) (m := [d, e, f])
  have q := h.three hx hy hz rfl rfl rfl rfl rfl rfl rfl rfl rfl rfl rfl rfl
  have lb := h.rlt hx hy
  have la := h.lt hx hy
  have le := h.lt hy hz
  have lf := h.rlt hy hz
  have lb' := h.lt lb hz
  have le' := h.rlt hx le
  simp -implicitDefEqProofs only [mf__breaks_three, m__breaks_three, bnd_ret, of_some, all_nil, all_cons, g_nil, g_inl, g_inr, and_t, and_f, or_t, or_f, elt1_ret, eltIf_t, eltIf_f, it_t, it_f, bndF_nx, bndF_rt, fin_rt, fin_nx, t2_at, t3_at, part_n, add_n, lt_n, le_n, gt_n, ge_n, bl_b, tru_b, not_b, isN_n, isB_b, isNB_b, int_n, isi_int, isi_bool, isi_tup, seq_t, seq_l, len_t, len_l, tupOf_l, tupOf_t, tup1, tup2, tup3, tup4, sm0, sm1, sm2, sm3, sm4, ix_t, ix_l, lit0, lit1, lit2, lit3, lit4, lit5, lit6, lit8, lit9, lit12, lit16, lit60, Bool.not_true, Bool.not_false, g_0, g_1, nxL_ret, ite_true, ite_false, Bool.false_eq_true, seq_p, seq_tD, len_p, len_tD, Option.map_some, rt_1 hx, rt_2 hy, rt_1 lb, rt_2 hz, rt_1 la, rt_2 lb', rt_1 hy, rt_2 le, rt_1 le', rt_2 lf, e]
  rw [q.1, q.2.1, q.2.2, decide_eq_true rfl]
  rfl
theorem e_breaks (h : Ru n L) {a b c : Nat} (ha : a < n) (hb : b < n) (hc : c < n) {x : Str} (hx : x = "left" ∨ x = "right" ∨ x = "three") : mf__breaks [rtD n L, .str x, dn a, dn b, dn c] = mRet (.bool false) := by
  rcases hx with rfl | rfl | rfl
  · have e1 : gEq (.str "left") (.str "left") = some (.bool true) := eqs (by decide +kernel) (by decide +kernel) (by decide +kernel)
    simp -implicitDefEqProofs only [mf__breaks, m__breaks, bnd_ret, of_some, all_nil, all_cons, g_nil, g_inl, g_inr, and_t, and_f, or_t, or_f, elt1_ret, eltIf_t, eltIf_f, it_t, it_f, bndF_nx, bndF_rt, fin_rt, fin_nx, t2_at, t3_at, part_n, add_n, lt_n, le_n, gt_n, ge_n, bl_b, tru_b, not_b, isN_n, isB_b, isNB_b, int_n, isi_int, isi_bool, isi_tup, seq_t, seq_l, len_t, len_l, tupOf_l, tupOf_t, tup1, tup2, tup3, tup4, sm0, sm1, sm2, sm3, sm4, ix_t, ix_l, lit0, lit1, lit2, lit3, lit4, lit5, lit6, lit8, lit9, lit12, lit16, lit60, Bool.not_true, Bool.not_false, g_0, g_1, nxL_ret, ite_true, ite_false, Bool.false_eq_true, seq_p, seq_tD, len_p, len_tD, Option.map_some, e1, rt_1 ha, rt_2 hb, rt_2 hc, eq_n]
    by_cases q : b < c
    · have ne : ¬ L a b = L a c := fun z => by have := (h.b a ha).2 b hb c hc z; omega
      simp -implicitDefEqProofs only [decide_eq_true q, bnd_ret, of_some, all_nil, all_cons, g_nil, g_inl, g_inr, and_t, and_f, or_t, or_f, elt1_ret, eltIf_t, eltIf_f, it_t, it_f, bndF_nx, bndF_rt, fin_rt, fin_nx, t2_at, t3_at, part_n, add_n, lt_n, le_n, gt_n, ge_n, bl_b, tru_b, not_b, isN_n, isB_b, isNB_b, int_n, isi_int, isi_bool, isi_tup, seq_t, seq_l, len_t, len_l, tupOf_l, tupOf_t, tup1, tup2, tup3, tup4, sm0, sm1, sm2, sm3, sm4, ix_t, ix_l, lit0, lit1, lit2, lit3, lit4, lit5, lit6, lit8, lit9, lit12, lit16, lit60, Bool.not_true, Bool.not_false, g_0, g_1, nxL_ret, ite_true, ite_false, Bool.false_eq_true, seq_p, seq_tD, len_p, len_tD, Option.map_some, decide_eq_false ne]
    · simp -implicitDefEqProofs only [decide_eq_false q, bnd_ret, of_some, all_nil, all_cons, g_nil, g_inl, g_inr, and_t, and_f, or_t, or_f, elt1_ret, eltIf_t, eltIf_f, it_t, it_f, bndF_nx, bndF_rt, fin_rt, fin_nx, t2_at, t3_at, part_n, add_n, lt_n, le_n, gt_n, ge_n, bl_b, tru_b, not_b, isN_n, isB_b, isNB_b, int_n, isi_int, isi_bool, isi_tup, seq_t, seq_l, len_t, len_l, tupOf_l, tupOf_t, tup1, tup2, tup3, tup4, sm0, sm1, sm2, sm3, sm4, ix_t, ix_l, lit0, lit1, lit2, lit3, lit4, lit5, lit6, lit8, lit9, lit12, lit16, lit60, Bool.not_true, Bool.not_false, g_0, g_1, nxL_ret, ite_true, ite_false, Bool.false_eq_true, seq_p, seq_tD, len_p, len_tD, Option.map_some]
  · have e1 : gEq (.str "right") (.str "left") = some (.bool false) := eqs (by decide +kernel) (by decide +kernel) (by decide +kernel)
    have e2 : gEq (.str "right") (.str "right") = some (.bool true) := eqs (by decide +kernel) (by decide +kernel) (by decide +kernel)
    simp -implicitDefEqProofs only [mf__breaks, m__breaks, bnd_ret, of_some, all_nil, all_cons, g_nil, g_inl, g_inr, and_t, and_f, or_t, or_f, elt1_ret, eltIf_t, eltIf_f, it_t, it_f, bndF_nx, bndF_rt, fin_rt, fin_nx, t2_at, t3_at, part_n, add_n, lt_n, le_n, gt_n, ge_n, bl_b, tru_b, not_b, isN_n, isB_b, isNB_b, int_n, isi_int, isi_bool, isi_tup, seq_t, seq_l, len_t, len_l, tupOf_l, tupOf_t, tup1, tup2, tup3, tup4, sm0, sm1, sm2, sm3, sm4, ix_t, ix_l, lit0, lit1, lit2, lit3, lit4, lit5, lit6, lit8, lit9, lit12, lit16, lit60, Bool.not_true, Bool.not_false, g_0, g_1, nxL_ret, ite_true, ite_false, Bool.false_eq_true, seq_p, seq_tD, len_p, len_tD, Option.map_some, e1, e2, rt_1 hb, rt_1 hc, rt_2 ha, eq_n]
    by_cases q : b < c
    · have ne : ¬ Rt n L a b = Rt n L a c := fun z => by have := (h.r a ha).2 b hb c hc z; omega
      simp -implicitDefEqProofs only [decide_eq_true q, bnd_ret, of_some, all_nil, all_cons, g_nil, g_inl, g_inr, and_t, and_f, or_t, or_f, elt1_ret, eltIf_t, eltIf_f, it_t, it_f, bndF_nx, bndF_rt, fin_rt, fin_nx, t2_at, t3_at, part_n, add_n, lt_n, le_n, gt_n, ge_n, bl_b, tru_b, not_b, isN_n, isB_b, isNB_b, int_n, isi_int, isi_bool, isi_tup, seq_t, seq_l, len_t, len_l, tupOf_l, tupOf_t, tup1, tup2, tup3, tup4, sm0, sm1, sm2, sm3, sm4, ix_t, ix_l, lit0, lit1, lit2, lit3, lit4, lit5, lit6, lit8, lit9, lit12, lit16, lit60, Bool.not_true, Bool.not_false, g_0, g_1, nxL_ret, ite_true, ite_false, Bool.false_eq_true, seq_p, seq_tD, len_p, len_tD, Option.map_some, decide_eq_false ne]
    · simp -implicitDefEqProofs only [decide_eq_false q, bnd_ret, of_some, all_nil, all_cons, g_nil, g_inl, g_inr, and_t, and_f, or_t, or_f, elt1_ret, eltIf_t, eltIf_f, it_t, it_f, bndF_nx, bndF_rt, fin_rt, fin_nx, t2_at, t3_at, part_n, add_n, lt_n, le_n, gt_n, ge_n, bl_b, tru_b, not_b, isN_n, isB_b, isNB_b, int_n, isi_int, isi_bool, isi_tup, seq_t, seq_l, len_t, len_l, tupOf_l, tupOf_t, tup1, tup2, tup3, tup4, sm0, sm1, sm2, sm3, sm4, ix_t, ix_l, lit0, lit1, lit2, lit3, lit4, lit5, lit6, lit8, lit9, lit12, lit16, lit60, Bool.not_true, Bool.not_false, g_0, g_1, nxL_ret, ite_true, ite_false, Bool.false_eq_true, seq_p, seq_tD, len_p, len_tD, Option.map_some]
  · have e1 : gEq (.str "three") (.str "left") = some (.bool false) := eqs (by decide +kernel) (by decide +kernel) (by decide +kernel)
    have e2 : gEq (.str "three") (.str "right") = some (.bool false) := eqs (by decide +kernel) (by decide +kernel) (by decide +kernel)
    have e3 : gEq (.str "three") (.str "three") = some (.bool true) := eqs (by decide +kernel) (by decide +kernel) (by decide +kernel)
    simp -implicitDefEqProofs only [mf__breaks, m__breaks, bnd_ret, of_some, all_nil, all_cons, g_nil, g_inl, g_inr, and_t, and_f, or_t, or_f, elt1_ret, eltIf_t, eltIf_f, it_t, it_f, bndF_nx, bndF_rt, fin_rt, fin_nx, t2_at, t3_at, part_n, add_n, lt_n, le_n, gt_n, ge_n, bl_b, tru_b, not_b, isN_n, isB_b, isNB_b, int_n, isi_int, isi_bool, isi_tup, seq_t, seq_l, len_t, len_l, tupOf_l, tupOf_t, tup1, tup2, tup3, tup4, sm0, sm1, sm2, sm3, sm4, ix_t, ix_l, lit0, lit1, lit2, lit3, lit4, lit5, lit6, lit8, lit9, lit12, lit16, lit60, Bool.not_true, Bool.not_false, g_0, g_1, nxL_ret, ite_true, ite_false, Bool.false_eq_true, seq_p, seq_tD, len_p, len_tD, Option.map_some, e1, e2, e3, e_three h ha hb hc]

theorem e_fault (h1 : 1 ≤ n) (h8 : n ≤ 8) (h : Ru n L) : mf__first_fault [rtD n L] = mRet .none := by
  have e0 : gLen [rtD n L] = some (dn n) := by unfold rtD tbD; rw [len_t, tab_len]
  simp -implicitDefEqProofs only [mf__first_fault, m__first_fault, bnd_ret, of_some, all_nil, all_cons, g_nil, g_inl, g_inr, and_t, and_f, or_t, or_f, elt1_ret, eltIf_t, eltIf_f, it_t, it_f, bndF_nx, bndF_rt, fin_rt, fin_nx, t2_at, t3_at, part_n, add_n, lt_n, le_n, gt_n, ge_n, bl_b, tru_b, not_b, isN_n, isB_b, isNB_b, int_n, isi_int, isi_bool, isi_tup, seq_t, seq_l, len_t, len_l, tupOf_l, tupOf_t, tup1, tup2, tup3, tup4, sm0, sm1, sm2, sm3, sm4, ix_t, ix_l, lit0, lit1, lit2, lit3, lit4, lit5, lit6, lit8, lit9, lit12, lit16, lit60, Bool.not_true, Bool.not_false, g_0, g_1, nxL_ret, ite_true, ite_false, Bool.false_eq_true, seq_p, seq_tD, len_p, len_tD, Option.map_some, e0, prd2 h1 h8, prd3 h1 h8]
  rw [for_all fun x hx => by
    obtain ⟨a, b, ha, hb, rfl⟩ := prd2_mem h1 hx
    simp -implicitDefEqProofs only [bnd_ret, of_some, all_nil, all_cons, g_nil, g_inl, g_inr, and_t, and_f, or_t, or_f, elt1_ret, eltIf_t, eltIf_f, it_t, it_f, bndF_nx, bndF_rt, fin_rt, fin_nx, t2_at, t3_at, part_n, add_n, lt_n, le_n, gt_n, ge_n, bl_b, tru_b, not_b, isN_n, isB_b, isNB_b, int_n, isi_int, isi_bool, isi_tup, seq_t, seq_l, len_t, len_l, tupOf_l, tupOf_t, tup1, tup2, tup3, tup4, sm0, sm1, sm2, sm3, sm4, ix_t, ix_l, lit0, lit1, lit2, lit3, lit4, lit5, lit6, lit8, lit9, lit12, lit16, lit60, Bool.not_true, Bool.not_false, g_0, g_1, nxL_ret, ite_true, ite_false, Bool.false_eq_true, seq_p, seq_tD, len_p, len_tD, Option.map_some, e_twice h ha hb]]
  simp -implicitDefEqProofs only [bnd_ret, of_some, all_nil, all_cons, g_nil, g_inl, g_inr, and_t, and_f, or_t, or_f, elt1_ret, eltIf_t, eltIf_f, it_t, it_f, bndF_nx, bndF_rt, fin_rt, fin_nx, t2_at, t3_at, part_n, add_n, lt_n, le_n, gt_n, ge_n, bl_b, tru_b, not_b, isN_n, isB_b, isNB_b, int_n, isi_int, isi_bool, isi_tup, seq_t, seq_l, len_t, len_l, tupOf_l, tupOf_t, tup1, tup2, tup3, tup4, sm0, sm1, sm2, sm3, sm4, ix_t, ix_l, lit0, lit1, lit2, lit3, lit4, lit5, lit6, lit8, lit9, lit12, lit16, lit60, Bool.not_true, Bool.not_false, g_0, g_1, nxL_ret, ite_true, ite_false, Bool.false_eq_true, seq_p, seq_tD, len_p, len_tD, Option.map_some]
  rw [for_all fun x hx => by
    have hs : ∃ z : Str, x = .str z ∧ (z = "left" ∨ z = "right" ∨ z = "three") := by
      simp -implicitDefEqProofs only [List.mem_cons, List.not_mem_nil, or_false] at hx
      rcases hx with rfl | rfl | rfl
      · exact ⟨_, rfl, .inl rfl⟩
      · exact ⟨_, rfl, .inr (.inl rfl)⟩
      · exact ⟨_, rfl, .inr (.inr rfl)⟩
    obtain ⟨z, rfl, hz⟩ := hs
    rw [for_all fun y hy => by
      obtain ⟨a, b, c, ha, hb, hc, rfl⟩ := prd3_mem h1 hy
      simp -implicitDefEqProofs only [bnd_ret, of_some, all_nil, all_cons, g_nil, g_inl, g_inr, and_t, and_f, or_t, or_f, elt1_ret, eltIf_t, eltIf_f, it_t, it_f, bndF_nx, bndF_rt, fin_rt, fin_nx, t2_at, t3_at, part_n, add_n, lt_n, le_n, gt_n, ge_n, bl_b, tru_b, not_b, isN_n, isB_b, isNB_b, int_n, isi_int, isi_bool, isi_tup, seq_t, seq_l, len_t, len_l, tupOf_l, tupOf_t, tup1, tup2, tup3, tup4, sm0, sm1, sm2, sm3, sm4, ix_t, ix_l, lit0, lit1, lit2, lit3, lit4, lit5, lit6, lit8, lit9, lit12, lit16, lit60, Bool.not_true, Bool.not_false, g_0, g_1, nxL_ret, ite_true, ite_false, Bool.false_eq_true, seq_p, seq_tD, len_p, len_tD, Option.map_some, e_breaks h ha hb hc hz]]
    simp -implicitDefEqProofs only [bnd_ret, of_some, all_nil, all_cons, g_nil, g_inl, g_inr, and_t, and_f, or_t, or_f, elt1_ret, eltIf_t, eltIf_f, it_t, it_f, bndF_nx, bndF_rt, fin_rt, fin_nx, t2_at, t3_at, part_n, add_n, lt_n, le_n, gt_n, ge_n, bl_b, tru_b, not_b, isN_n, isB_b, isNB_b, int_n, isi_int, isi_bool, isi_tup, seq_t, seq_l, len_t, len_l, tupOf_l, tupOf_t, tup1, tup2, tup3, tup4, sm0, sm1, sm2, sm3, sm4, ix_t, ix_l, lit0, lit1, lit2, lit3, lit4, lit5, lit6, lit8, lit9, lit12, lit16, lit60, Bool.not_true, Bool.not_false, g_0, g_1, nxL_ret, ite_true, ite_false, Bool.false_eq_true, seq_p, seq_tD, len_p, len_tD, Option.map_some]]
  simp -implicitDefEqProofs only [bnd_ret, of_some, all_nil, all_cons, g_nil, g_inl, g_inr, and_t, and_f, or_t, or_f, elt1_ret, eltIf_t, eltIf_f, it_t, it_f, bndF_nx, bndF_rt, fin_rt, fin_nx, t2_at, t3_at, part_n, add_n, lt_n, le_n, gt_n, ge_n, bl_b, tru_b, not_b, isN_n, isB_b, isNB_b, int_n, isi_int, isi_bool, isi_tup, seq_t, seq_l, len_t, len_l, tupOf_l, tupOf_t, tup1, tup2, tup3, tup4, sm0, sm1, sm2, sm3, sm4, ix_t, ix_l, lit0, lit1, lit2, lit3, lit4, lit5, lit6, lit8, lit9, lit12, lit16, lit60, Bool.not_true, Bool.not_false, g_0, g_1, nxL_ret, ite_true, ite_false, Bool.false_eq_true, seq_p, seq_tD, len_p, len_tD, Option.map_some]
theorem e_rule (h1 : 1 ≤ n) (h8 : n ≤ 8) (h : Ru n L) : mf_is_rule [rtD n L] = mRet (.bool true) := by
  simp -implicitDefEqProofs only [mf_is_rule, m_is_rule, bnd_ret, of_some, all_nil, all_cons, g_nil, g_inl, g_inr, and_t, and_f, or_t, or_f, elt1_ret, eltIf_t, eltIf_f, it_t, it_f, bndF_nx, bndF_rt, fin_rt, fin_nx, t2_at, t3_at, part_n, add_n, lt_n, le_n, gt_n, ge_n, bl_b, tru_b, not_b, isN_n, isB_b, isNB_b, int_n, isi_int, isi_bool, isi_tup, seq_t, seq_l, len_t, len_l, tupOf_l, tupOf_t, tup1, tup2, tup3, tup4, sm0, sm1, sm2, sm3, sm4, ix_t, ix_l, lit0, lit1, lit2, lit3, lit4, lit5, lit6, lit8, lit9, lit12, lit16, lit60, Bool.not_true, Bool.not_false, g_0, g_1, nxL_ret, ite_true, ite_false, Bool.false_eq_true, seq_p, seq_tD, len_p, len_tD, Option.map_some, e_is_table h1 h8 h, e_fault h1 h8 h]
theorem e_require (h1 : 1 ≤ n) (h8 : n ≤ 8) (h : Ru n L) : mf_require_rule [rtD n L] = mRet .none := by
  simp -implicitDefEqProofs only [mf_require_rule, m_require_rule, bnd_ret, of_some, all_nil, all_cons, g_nil, g_inl, g_inr, and_t, and_f, or_t, or_f, elt1_ret, eltIf_t, eltIf_f, it_t, it_f, bndF_nx, bndF_rt, fin_rt, fin_nx, t2_at, t3_at, part_n, add_n, lt_n, le_n, gt_n, ge_n, bl_b, tru_b, not_b, isN_n, isB_b, isNB_b, int_n, isi_int, isi_bool, isi_tup, seq_t, seq_l, len_t, len_l, tupOf_l, tupOf_t, tup1, tup2, tup3, tup4, sm0, sm1, sm2, sm3, sm4, ix_t, ix_l, lit0, lit1, lit2, lit3, lit4, lit5, lit6, lit8, lit9, lit12, lit16, lit60, Bool.not_true, Bool.not_false, g_0, g_1, nxL_ret, ite_true, ite_false, Bool.false_eq_true, seq_p, seq_tD, len_p, len_tD, Option.map_some, e_rule h1 h8 h]
theorem e_len : gLen [rtD n L] = some (dn n) := by unfold rtD tbD; rw [len_t, tab_len]
theorem e_is_row (h1 : 1 ≤ n) (h8 : n ≤ 8) (h : Ru n L) {r : List Nat} (hl : r.length ≤ 1000) (hr : ∀ x ∈ r, x < n) : mf_is_row [rtD n L, tD r] = mRet (.bool true) := by
  simp -implicitDefEqProofs only [mf_is_row, m_is_row, bnd_ret, of_some, all_nil, all_cons, g_nil, g_inl, g_inr, and_t, and_f, or_t, or_f, elt1_ret, eltIf_t, eltIf_f, it_t, it_f, bndF_nx, bndF_rt, fin_rt, fin_nx, t2_at, t3_at, part_n, add_n, lt_n, le_n, gt_n, ge_n, bl_b, tru_b, not_b, isN_n, isB_b, isNB_b, int_n, isi_int, isi_bool, isi_tup, seq_t, seq_l, len_t, len_l, tupOf_l, tupOf_t, tup1, tup2, tup3, tup4, sm0, sm1, sm2, sm3, sm4, ix_t, ix_l, lit0, lit1, lit2, lit3, lit4, lit5, lit6, lit8, lit9, lit12, lit16, lit60, Bool.not_true, Bool.not_false, g_0, g_1, nxL_ret, ite_true, ite_false, Bool.false_eq_true, seq_p, seq_tD, len_p, len_tD, Option.map_some, e_require h1 h8 h, e_len, e_kinds r n hl hr]
theorem e_require_row (h1 : 1 ≤ n) (h8 : n ≤ 8) (h : Ru n L) {r : List Nat} (hl : r.length ≤ 1000) (hr : ∀ x ∈ r, x < n) : mf_require_row [rtD n L, tD r] = mRet .none := by
  simp -implicitDefEqProofs only [mf_require_row, m_require_row, bnd_ret, of_some, all_nil, all_cons, g_nil, g_inl, g_inr, and_t, and_f, or_t, or_f, elt1_ret, eltIf_t, eltIf_f, it_t, it_f, bndF_nx, bndF_rt, fin_rt, fin_nx, t2_at, t3_at, part_n, add_n, lt_n, le_n, gt_n, ge_n, bl_b, tru_b, not_b, isN_n, isB_b, isNB_b, int_n, isi_int, isi_bool, isi_tup, seq_t, seq_l, len_t, len_l, tupOf_l, tupOf_t, tup1, tup2, tup3, tup4, sm0, sm1, sm2, sm3, sm4, ix_t, ix_l, lit0, lit1, lit2, lit3, lit4, lit5, lit6, lit8, lit9, lit12, lit16, lit60, Bool.not_true, Bool.not_false, g_0, g_1, nxL_ret, ite_true, ite_false, Bool.false_eq_true, seq_p, seq_tD, len_p, len_tD, Option.map_some, e_is_row h1 h8 h hl hr]
theorem e_lefts (h8 : n ≤ 8) : mf_left_turns [rtD n L] = mRet (ruD n L) := by
  unfold rtD tbD
  simp -implicitDefEqProofs only [mf_left_turns, m_left_turns, bnd_ret, of_some, all_nil, all_cons, g_nil, g_inl, g_inr, and_t, and_f, or_t, or_f, elt1_ret, eltIf_t, eltIf_f, it_t, it_f, bndF_nx, bndF_rt, fin_rt, fin_nx, t2_at, t3_at, part_n, add_n, lt_n, le_n, gt_n, ge_n, bl_b, tru_b, not_b, isN_n, isB_b, isNB_b, int_n, isi_int, isi_bool, isi_tup, seq_t, seq_l, len_t, len_l, tupOf_l, tupOf_t, tup1, tup2, tup3, tup4, sm0, sm1, sm2, sm3, sm4, ix_t, ix_l, lit0, lit1, lit2, lit3, lit4, lit5, lit6, lit8, lit9, lit12, lit16, lit60, Bool.not_true, Bool.not_false, g_0, g_1, nxL_ret, ite_true, ite_false, Bool.false_eq_true, seq_p, seq_tD, len_p, len_tD, Option.map_some]
  rw [comp_range (g := fun x => pD n (L x)) (by omega) fun i hi => by
    simp -implicitDefEqProofs only [bnd_ret, of_some, all_nil, all_cons, g_nil, g_inl, g_inr, and_t, and_f, or_t, or_f, elt1_ret, eltIf_t, eltIf_f, it_t, it_f, bndF_nx, bndF_rt, fin_rt, fin_nx, t2_at, t3_at, part_n, add_n, lt_n, le_n, gt_n, ge_n, bl_b, tru_b, not_b, isN_n, isB_b, isNB_b, int_n, isi_int, isi_bool, isi_tup, seq_t, seq_l, len_t, len_l, tupOf_l, tupOf_t, tup1, tup2, tup3, tup4, sm0, sm1, sm2, sm3, sm4, ix_t, ix_l, lit0, lit1, lit2, lit3, lit4, lit5, lit6, lit8, lit9, lit12, lit16, lit60, Bool.not_true, Bool.not_false, g_0, g_1, nxL_ret, ite_true, ite_false, Bool.false_eq_true, seq_p, seq_tD, len_p, len_tD, Option.map_some]
    rw [comp_range (g := fun y => dn (L i y)) (by omega) fun j hj => by simp -implicitDefEqProofs only [bnd_ret, of_some, all_nil, all_cons, g_nil, g_inl, g_inr, and_t, and_f, or_t, or_f, elt1_ret, eltIf_t, eltIf_f, it_t, it_f, bndF_nx, bndF_rt, fin_rt, fin_nx, t2_at, t3_at, part_n, add_n, lt_n, le_n, gt_n, ge_n, bl_b, tru_b, not_b, isN_n, isB_b, isNB_b, int_n, isi_int, isi_bool, isi_tup, seq_t, seq_l, len_t, len_l, tupOf_l, tupOf_t, tup1, tup2, tup3, tup4, sm0, sm1, sm2, sm3, sm4, ix_t, ix_l, lit0, lit1, lit2, lit3, lit4, lit5, lit6, lit8, lit9, lit12, lit16, lit60, Bool.not_true, Bool.not_false, g_0, g_1, nxL_ret, ite_true, ite_false, Bool.false_eq_true, seq_p, seq_tD, len_p, len_tD, Option.map_some]]
    simp -implicitDefEqProofs only [bnd_ret, of_some, all_nil, all_cons, g_nil, g_inl, g_inr, and_t, and_f, or_t, or_f, elt1_ret, eltIf_t, eltIf_f, it_t, it_f, bndF_nx, bndF_rt, fin_rt, fin_nx, t2_at, t3_at, part_n, add_n, lt_n, le_n, gt_n, ge_n, bl_b, tru_b, not_b, isN_n, isB_b, isNB_b, int_n, isi_int, isi_bool, isi_tup, seq_t, seq_l, len_t, len_l, tupOf_l, tupOf_t, tup1, tup2, tup3, tup4, sm0, sm1, sm2, sm3, sm4, ix_t, ix_l, lit0, lit1, lit2, lit3, lit4, lit5, lit6, lit8, lit9, lit12, lit16, lit60, Bool.not_true, Bool.not_false, g_0, g_1, nxL_ret, ite_true, ite_false, Bool.false_eq_true, seq_p, seq_tD, len_p, len_tD, Option.map_some]
    rfl]
  simp -implicitDefEqProofs only [bnd_ret, of_some, all_nil, all_cons, g_nil, g_inl, g_inr, and_t, and_f, or_t, or_f, elt1_ret, eltIf_t, eltIf_f, it_t, it_f, bndF_nx, bndF_rt, fin_rt, fin_nx, t2_at, t3_at, part_n, add_n, lt_n, le_n, gt_n, ge_n, bl_b, tru_b, not_b, isN_n, isB_b, isNB_b, int_n, isi_int, isi_bool, isi_tup, seq_t, seq_l, len_t, len_l, tupOf_l, tupOf_t, tup1, tup2, tup3, tup4, sm0, sm1, sm2, sm3, sm4, ix_t, ix_l, lit0, lit1, lit2, lit3, lit4, lit5, lit6, lit8, lit9, lit12, lit16, lit60, Bool.not_true, Bool.not_false, g_0, g_1, nxL_ret, ite_true, ite_false, Bool.false_eq_true, seq_p, seq_tD, len_p, len_tD, Option.map_some]
  rfl
theorem ru_len : gLen [ruD n L] = some (dn n) := by unfold ruD; rw [len_l, tab_len]
theorem ru_ix {x : Nat} (hx : x < n) : gIx (ruD n L) (dn x) = some (pD n (L x)) := by unfold ruD; rw [ix_l, tab_at hx]
theorem pD_ix {f : Nat → Nat} {x : Nat} (hx : x < n) : gIx (pD n f) (dn x) = some (dn (f x)) := by unfold pD; rw [ix_t, tab_at hx]
/-- reading a row: the loop -/
theorem rd_loop (h : Ru n L) {f : D → D × List D → Mo S0 (Fl (D × List D))} (hf : ∀ (x : Nat) (o : List D) (t : Nat → Nat), x < n → o.length ≤ 900 → Bij n t → f (dn x) (pD n t, o) = mRet (.nx (pD n fun i => t (L x i), o ++ [dn (t x)]))) :
    ∀ (r : List Nat) (o : List D) (t : Nat → Nat), (∀ x ∈ r, x < n) → o.length + r.length ≤ 900 → Bij n t → mFor (r.map dn) (pD n t, o) f = mRet (.nx (pD n (rdT L t r), o ++ (rdO L t r).map dn))
  | [], o, t, _, _, _ => by rw [rdO, List.map_nil, List.append_nil]; rfl
  | x :: r, o, t, hr, hl, ht => by
    have hx := hr x List.mem_cons_self
    have hl' : o.length + (r.length + 1) ≤ 900 := by simpa using hl
    show mBndF (f (dn x) (pD n t, o)) _ = _
    rw [hf x o t hx (by omega) ht, bndF_nx, rd_loop h hf r _ _ (fun z hz => hr z (List.mem_cons_of_mem _ hz)) (by simp; omega) (ht.comp (h.b x hx)), List.append_assoc]
    rfl
theorem e_order_turn (h8 : n ≤ 8) (h : Ru n L) {r : List Nat} (hl : r.length ≤ 900) (hr : ∀ x ∈ r, x < n) : mf_order_and_turn [ruD n L, tD r] = mRet (.tuple [tD (rdO L (fun i => i) r), pD n (rdT L (fun i => i) r)]) := by
  simp -implicitDefEqProofs only [mf_order_and_turn, m_order_and_turn, bnd_ret, of_some, all_nil, all_cons, g_nil, g_inl, g_inr, and_t, and_f, or_t, or_f, elt1_ret, eltIf_t, eltIf_f, it_t, it_f, bndF_nx, bndF_rt, fin_rt, fin_nx, t2_at, t3_at, part_n, add_n, lt_n, le_n, gt_n, ge_n, bl_b, tru_b, not_b, isN_n, isB_b, isNB_b, int_n, isi_int, isi_bool, isi_tup, seq_t, seq_l, len_t, len_l, tupOf_l, tupOf_t, tup1, tup2, tup3, tup4, sm0, sm1, sm2, sm3, sm4, ix_t, ix_l, lit0, lit1, lit2, lit3, lit4, lit5, lit6, lit8, lit9, lit12, lit16, lit60, Bool.not_true, Bool.not_false, g_0, g_1, nxL_ret, ite_true, ite_false, Bool.false_eq_true, seq_p, seq_tD, len_p, len_tD, Option.map_some, ru_len, e_identity n h8]
  rw [rd_loop h (fun x o t hx ho ht => by simp -implicitDefEqProofs only [bnd_ret, of_some, all_nil, all_cons, g_nil, g_inl, g_inr, and_t, and_f, or_t, or_f, elt1_ret, eltIf_t, eltIf_f, it_t, it_f, bndF_nx, bndF_rt, fin_rt, fin_nx, t2_at, t3_at, part_n, add_n, lt_n, le_n, gt_n, ge_n, bl_b, tru_b, not_b, isN_n, isB_b, isNB_b, int_n, isi_int, isi_bool, isi_tup, seq_t, seq_l, len_t, len_l, tupOf_l, tupOf_t, tup1, tup2, tup3, tup4, sm0, sm1, sm2, sm3, sm4, ix_t, ix_l, lit0, lit1, lit2, lit3, lit4, lit5, lit6, lit8, lit9, lit12, lit16, lit60, Bool.not_true, Bool.not_false, g_0, g_1, nxL_ret, ite_true, ite_false, Bool.false_eq_true, seq_p, seq_tD, len_p, len_tD, Option.map_some, pD_ix hx, ru_ix hx, app_le (l := o) (d := dn (t x)) (by omega), e_after h8 (h.b x hx).1]) r [] (fun i => i) hr (by simpa using hl) Bij.id]
  simp -implicitDefEqProofs only [bnd_ret, of_some, all_nil, all_cons, g_nil, g_inl, g_inr, and_t, and_f, or_t, or_f, elt1_ret, eltIf_t, eltIf_f, it_t, it_f, bndF_nx, bndF_rt, fin_rt, fin_nx, t2_at, t3_at, part_n, add_n, lt_n, le_n, gt_n, ge_n, bl_b, tru_b, not_b, isN_n, isB_b, isNB_b, int_n, isi_int, isi_bool, isi_tup, seq_t, seq_l, len_t, len_l, tupOf_l, tupOf_t, tup1, tup2, tup3, tup4, sm0, sm1, sm2, sm3, sm4, ix_t, ix_l, lit0, lit1, lit2, lit3, lit4, lit5, lit6, lit8, lit9, lit12, lit16, lit60, Bool.not_true, Bool.not_false, g_0, g_1, nxL_ret, ite_true, ite_false, Bool.false_eq_true, seq_p, seq_tD, len_p, len_tD, Option.map_some, List.nil_append, tup_tD]
theorem e_law_after {n m : Nat} (hm : m ≤ 8) {f g : Nat → Nat} (h : ∀ i, i < m → g i < n) : mf__law_after [pD n f, pD m g] = mRet (pD m fun i => f (g i)) := by
  unfold pD
  simp -implicitDefEqProofs only [mf__law_after, m__law_after, bnd_ret, of_some, all_nil, all_cons, g_nil, g_inl, g_inr, and_t, and_f, or_t, or_f, elt1_ret, eltIf_t, eltIf_f, it_t, it_f, bndF_nx, bndF_rt, fin_rt, fin_nx, t2_at, t3_at, part_n, add_n, lt_n, le_n, gt_n, ge_n, bl_b, tru_b, not_b, isN_n, isB_b, isNB_b, int_n, isi_int, isi_bool, isi_tup, seq_t, seq_l, len_t, len_l, tupOf_l, tupOf_t, tup1, tup2, tup3, tup4, sm0, sm1, sm2, sm3, sm4, ix_t, ix_l, lit0, lit1, lit2, lit3, lit4, lit5, lit6, lit8, lit9, lit12, lit16, lit60, Bool.not_true, Bool.not_false, g_0, g_1, nxL_ret, ite_true, ite_false, Bool.false_eq_true, seq_p, seq_tD, len_p, len_tD, Option.map_some]
  rw [comp_range (g := fun i => dn (f (g i))) (by omega) fun i hi => by simp -implicitDefEqProofs only [bnd_ret, of_some, all_nil, all_cons, g_nil, g_inl, g_inr, and_t, and_f, or_t, or_f, elt1_ret, eltIf_t, eltIf_f, it_t, it_f, bndF_nx, bndF_rt, fin_rt, fin_nx, t2_at, t3_at, part_n, add_n, lt_n, le_n, gt_n, ge_n, bl_b, tru_b, not_b, isN_n, isB_b, isNB_b, int_n, isi_int, isi_bool, isi_tup, seq_t, seq_l, len_t, len_l, tupOf_l, tupOf_t, tup1, tup2, tup3, tup4, sm0, sm1, sm2, sm3, sm4, ix_t, ix_l, lit0, lit1, lit2, lit3, lit4, lit5, lit6, lit8, lit9, lit12, lit16, lit60, Bool.not_true, Bool.not_false, g_0, g_1, nxL_ret, ite_true, ite_false, Bool.false_eq_true, seq_p, seq_tD, len_p, len_tD, Option.map_some, tab_at (h i hi)]]
  simp -implicitDefEqProofs only [bnd_ret, of_some, all_nil, all_cons, g_nil, g_inl, g_inr, and_t, and_f, or_t, or_f, elt1_ret, eltIf_t, eltIf_f, it_t, it_f, bndF_nx, bndF_rt, fin_rt, fin_nx, t2_at, t3_at, part_n, add_n, lt_n, le_n, gt_n, ge_n, bl_b, tru_b, not_b, isN_n, isB_b, isNB_b, int_n, isi_int, isi_bool, isi_tup, seq_t, seq_l, len_t, len_l, tupOf_l, tupOf_t, tup1, tup2, tup3, tup4, sm0, sm1, sm2, sm3, sm4, ix_t, ix_l, lit0, lit1, lit2, lit3, lit4, lit5, lit6, lit8, lit9, lit12, lit16, lit60, Bool.not_true, Bool.not_false, g_0, g_1, nxL_ret, ite_true, ite_false, Bool.false_eq_true, seq_p, seq_tD, len_p, len_tD, Option.map_some]
theorem e_law_read (h8 : n ≤ 8) (h : Ru n L) {r : List Nat} (hl : r.length ≤ 900) (hr : ∀ x ∈ r, x < n) : mf__law_read [ruD n L, tD r] = mRet (.tuple [tD (rdO L (fun i => i) r), pD n (rdT L (fun i => i) r)]) := by
  simp -implicitDefEqProofs only [mf__law_read, m__law_read, bnd_ret, of_some, all_nil, all_cons, g_nil, g_inl, g_inr, and_t, and_f, or_t, or_f, elt1_ret, eltIf_t, eltIf_f, it_t, it_f, bndF_nx, bndF_rt, fin_rt, fin_nx, t2_at, t3_at, part_n, add_n, lt_n, le_n, gt_n, ge_n, bl_b, tru_b, not_b, isN_n, isB_b, isNB_b, int_n, isi_int, isi_bool, isi_tup, seq_t, seq_l, len_t, len_l, tupOf_l, tupOf_t, tup1, tup2, tup3, tup4, sm0, sm1, sm2, sm3, sm4, ix_t, ix_l, lit0, lit1, lit2, lit3, lit4, lit5, lit6, lit8, lit9, lit12, lit16, lit60, Bool.not_true, Bool.not_false, g_0, g_1, nxL_ret, ite_true, ite_false, Bool.false_eq_true, seq_p, seq_tD, len_p, len_tD, Option.map_some, ru_len]
  rw [rgL_n (by omega)]
  unfold tD
  simp -implicitDefEqProofs only [bnd_ret, of_some, all_nil, all_cons, g_nil, g_inl, g_inr, and_t, and_f, or_t, or_f, elt1_ret, eltIf_t, eltIf_f, it_t, it_f, bndF_nx, bndF_rt, fin_rt, fin_nx, t2_at, t3_at, part_n, add_n, lt_n, le_n, gt_n, ge_n, bl_b, tru_b, not_b, isN_n, isB_b, isNB_b, int_n, isi_int, isi_bool, isi_tup, seq_t, seq_l, len_t, len_l, tupOf_l, tupOf_t, tup1, tup2, tup3, tup4, sm0, sm1, sm2, sm3, sm4, ix_t, ix_l, lit0, lit1, lit2, lit3, lit4, lit5, lit6, lit8, lit9, lit12, lit16, lit60, Bool.not_true, Bool.not_false, g_0, g_1, nxL_ret, ite_true, ite_false, Bool.false_eq_true, seq_p, seq_tD, len_p, len_tD, Option.map_some, tup_dn]
  rw [rd_loop h (fun x o t hx ho ht => by simp -implicitDefEqProofs only [bnd_ret, of_some, all_nil, all_cons, g_nil, g_inl, g_inr, and_t, and_f, or_t, or_f, elt1_ret, eltIf_t, eltIf_f, it_t, it_f, bndF_nx, bndF_rt, fin_rt, fin_nx, t2_at, t3_at, part_n, add_n, lt_n, le_n, gt_n, ge_n, bl_b, tru_b, not_b, isN_n, isB_b, isNB_b, int_n, isi_int, isi_bool, isi_tup, seq_t, seq_l, len_t, len_l, tupOf_l, tupOf_t, tup1, tup2, tup3, tup4, sm0, sm1, sm2, sm3, sm4, ix_t, ix_l, lit0, lit1, lit2, lit3, lit4, lit5, lit6, lit8, lit9, lit12, lit16, lit60, Bool.not_true, Bool.not_false, g_0, g_1, nxL_ret, ite_true, ite_false, Bool.false_eq_true, seq_p, seq_tD, len_p, len_tD, Option.map_some, pD_ix hx, ru_ix hx, app_le (l := o) (d := dn (t x)) (by omega), e_law_after h8 (h.b x hx).1]) r [] (fun i => i) hr (by simpa using hl) Bij.id]
  simp -implicitDefEqProofs only [bnd_ret, of_some, all_nil, all_cons, g_nil, g_inl, g_inr, and_t, and_f, or_t, or_f, elt1_ret, eltIf_t, eltIf_f, it_t, it_f, bndF_nx, bndF_rt, fin_rt, fin_nx, t2_at, t3_at, part_n, add_n, lt_n, le_n, gt_n, ge_n, bl_b, tru_b, not_b, isN_n, isB_b, isNB_b, int_n, isi_int, isi_bool, isi_tup, seq_t, seq_l, len_t, len_l, tupOf_l, tupOf_t, tup1, tup2, tup3, tup4, sm0, sm1, sm2, sm3, sm4, ix_t, ix_l, lit0, lit1, lit2, lit3, lit4, lit5, lit6, lit8, lit9, lit12, lit16, lit60, Bool.not_true, Bool.not_false, g_0, g_1, nxL_ret, ite_true, ite_false, Bool.false_eq_true, seq_p, seq_tD, len_p, len_tD, Option.map_some, List.nil_append, tup_tD]
/-- writing a row: the loop -/
theorem wr_loop (h : Ru n L) {f : D → D × List D → Mo S0 (Fl (D × List D))} (hf : ∀ (y : Nat) (o : List D) (t : Nat → Nat), y < n → o.length ≤ 900 → Bij n t → f (dn y) (pD n t, o) = mRet (.nx (pD n fun i => t (L (iv n t y) i), o ++ [dn (iv n t y)]))) :
    ∀ (r : List Nat) (o : List D) (t : Nat → Nat), (∀ x ∈ r, x < n) → o.length + r.length ≤ 900 → Bij n t → mFor (r.map dn) (pD n t, o) f = mRet (.nx (pD n (wrT n L t r), o ++ (wrR n L t r).map dn))
  | [], o, t, _, _, _ => by rw [wrR, List.map_nil, List.append_nil]; rfl
  | y :: r, o, t, hr, hl, ht => by
    have hy := hr y List.mem_cons_self
    have hl' : o.length + (r.length + 1) ≤ 900 := by simpa using hl
    show mBndF (f (dn y) (pD n t, o)) _ = _
    rw [hf y o t hy (by omega) ht, bndF_nx, wr_loop h hf r (o ++ [dn (iv n t y)]) _ (fun z hz => hr z (List.mem_cons_of_mem _ hz)) (by simp; omega) (ht.comp (h.b _ (iv_lt ht hy))), List.append_assoc]
    rfl
theorem e_one_more (h8 : n ≤ 8) (h : Ru n L) {t : Nat → Nat} (ht : Bij n t) {y : Nat} (hy : y < n) : mf_one_more [ruD n L, pD n t, dn y] = mRet (pD n fun i => t (L (iv n t y) i)) := by
  simp -implicitDefEqProofs only [mf_one_more, m_one_more, bnd_ret, of_some, all_nil, all_cons, g_nil, g_inl, g_inr, and_t, and_f, or_t, or_f, elt1_ret, eltIf_t, eltIf_f, it_t, it_f, bndF_nx, bndF_rt, fin_rt, fin_nx, t2_at, t3_at, part_n, add_n, lt_n, le_n, gt_n, ge_n, bl_b, tru_b, not_b, isN_n, isB_b, isNB_b, int_n, isi_int, isi_bool, isi_tup, seq_t, seq_l, len_t, len_l, tupOf_l, tupOf_t, tup1, tup2, tup3, tup4, sm0, sm1, sm2, sm3, sm4, ix_t, ix_l, lit0, lit1, lit2, lit3, lit4, lit5, lit6, lit8, lit9, lit12, lit16, lit60, Bool.not_true, Bool.not_false, g_0, g_1, nxL_ret, ite_true, ite_false, Bool.false_eq_true, seq_p, seq_tD, len_p, len_tD, Option.map_some, index_p ht hy, ru_ix (iv_lt ht hy), e_after h8 (h.b _ (iv_lt ht hy)).1]
theorem e_row_with (h8 : n ≤ 8) (h : Ru n L) {r : List Nat} (hl : r.length ≤ 900) (hr : ∀ x ∈ r, x < n) : mf_row_with_order [ruD n L, tD r] = mRet (tD (wrR n L (fun i => i) r)) := by
  simp -implicitDefEqProofs only [mf_row_with_order, m_row_with_order, bnd_ret, of_some, all_nil, all_cons, g_nil, g_inl, g_inr, and_t, and_f, or_t, or_f, elt1_ret, eltIf_t, eltIf_f, it_t, it_f, bndF_nx, bndF_rt, fin_rt, fin_nx, t2_at, t3_at, part_n, add_n, lt_n, le_n, gt_n, ge_n, bl_b, tru_b, not_b, isN_n, isB_b, isNB_b, int_n, isi_int, isi_bool, isi_tup, seq_t, seq_l, len_t, len_l, tupOf_l, tupOf_t, tup1, tup2, tup3, tup4, sm0, sm1, sm2, sm3, sm4, ix_t, ix_l, lit0, lit1, lit2, lit3, lit4, lit5, lit6, lit8, lit9, lit12, lit16, lit60, Bool.not_true, Bool.not_false, g_0, g_1, nxL_ret, ite_true, ite_false, Bool.false_eq_true, seq_p, seq_tD, len_p, len_tD, Option.map_some, ru_len, e_identity n h8]
  rw [wr_loop h (fun y o t hy ho ht => by simp -implicitDefEqProofs only [bnd_ret, of_some, all_nil, all_cons, g_nil, g_inl, g_inr, and_t, and_f, or_t, or_f, elt1_ret, eltIf_t, eltIf_f, it_t, it_f, bndF_nx, bndF_rt, fin_rt, fin_nx, t2_at, t3_at, part_n, add_n, lt_n, le_n, gt_n, ge_n, bl_b, tru_b, not_b, isN_n, isB_b, isNB_b, int_n, isi_int, isi_bool, isi_tup, seq_t, seq_l, len_t, len_l, tupOf_l, tupOf_t, tup1, tup2, tup3, tup4, sm0, sm1, sm2, sm3, sm4, ix_t, ix_l, lit0, lit1, lit2, lit3, lit4, lit5, lit6, lit8, lit9, lit12, lit16, lit60, Bool.not_true, Bool.not_false, g_0, g_1, nxL_ret, ite_true, ite_false, Bool.false_eq_true, seq_p, seq_tD, len_p, len_tD, Option.map_some, index_p ht hy, app_le (l := o) (d := dn (iv n t y)) (by omega), e_one_more h8 h ht hy]) r [] (fun i => i) hr (by simpa using hl) Bij.id]
  simp -implicitDefEqProofs only [bnd_ret, of_some, all_nil, all_cons, g_nil, g_inl, g_inr, and_t, and_f, or_t, or_f, elt1_ret, eltIf_t, eltIf_f, it_t, it_f, bndF_nx, bndF_rt, fin_rt, fin_nx, t2_at, t3_at, part_n, add_n, lt_n, le_n, gt_n, ge_n, bl_b, tru_b, not_b, isN_n, isB_b, isNB_b, int_n, isi_int, isi_bool, isi_tup, seq_t, seq_l, len_t, len_l, tupOf_l, tupOf_t, tup1, tup2, tup3, tup4, sm0, sm1, sm2, sm3, sm4, ix_t, ix_l, lit0, lit1, lit2, lit3, lit4, lit5, lit6, lit8, lit9, lit12, lit16, lit60, Bool.not_true, Bool.not_false, g_0, g_1, nxL_ret, ite_true, ite_false, Bool.false_eq_true, seq_p, seq_tD, len_p, len_tD, Option.map_some, List.nil_append, tup_tD]
theorem e_law_written' (h8 : n ≤ 8) (h : Ru n L) {r : List Nat} {d : D} (hd : gSeq d = some (r.map dn)) (hl : r.length ≤ 900) (hr : ∀ x ∈ r, x < n) : mf__law_written [ruD n L, d] = mRet (tD (wrR n L (fun i => i) r)) := by
  simp -implicitDefEqProofs only [mf__law_written, m__law_written, bnd_ret, of_some, all_nil, all_cons, g_nil, g_inl, g_inr, and_t, and_f, or_t, or_f, elt1_ret, eltIf_t, eltIf_f, it_t, it_f, bndF_nx, bndF_rt, fin_rt, fin_nx, t2_at, t3_at, part_n, add_n, lt_n, le_n, gt_n, ge_n, bl_b, tru_b, not_b, isN_n, isB_b, isNB_b, int_n, isi_int, isi_bool, isi_tup, seq_t, seq_l, len_t, len_l, tupOf_l, tupOf_t, tup1, tup2, tup3, tup4, sm0, sm1, sm2, sm3, sm4, ix_t, ix_l, lit0, lit1, lit2, lit3, lit4, lit5, lit6, lit8, lit9, lit12, lit16, lit60, Bool.not_true, Bool.not_false, g_0, g_1, nxL_ret, ite_true, ite_false, Bool.false_eq_true, seq_p, seq_tD, len_p, len_tD, Option.map_some, ru_len, hd]
  rw [rgL_n (by omega)]
  simp -implicitDefEqProofs only [bnd_ret, of_some, all_nil, all_cons, g_nil, g_inl, g_inr, and_t, and_f, or_t, or_f, elt1_ret, eltIf_t, eltIf_f, it_t, it_f, bndF_nx, bndF_rt, fin_rt, fin_nx, t2_at, t3_at, part_n, add_n, lt_n, le_n, gt_n, ge_n, bl_b, tru_b, not_b, isN_n, isB_b, isNB_b, int_n, isi_int, isi_bool, isi_tup, seq_t, seq_l, len_t, len_l, tupOf_l, tupOf_t, tup1, tup2, tup3, tup4, sm0, sm1, sm2, sm3, sm4, ix_t, ix_l, lit0, lit1, lit2, lit3, lit4, lit5, lit6, lit8, lit9, lit12, lit16, lit60, Bool.not_true, Bool.not_false, g_0, g_1, nxL_ret, ite_true, ite_false, Bool.false_eq_true, seq_p, seq_tD, len_p, len_tD, Option.map_some, tup_dn]
  rw [wr_loop h (fun y o t hy ho ht => by simp -implicitDefEqProofs only [bnd_ret, of_some, all_nil, all_cons, g_nil, g_inl, g_inr, and_t, and_f, or_t, or_f, elt1_ret, eltIf_t, eltIf_f, it_t, it_f, bndF_nx, bndF_rt, fin_rt, fin_nx, t2_at, t3_at, part_n, add_n, lt_n, le_n, gt_n, ge_n, bl_b, tru_b, not_b, isN_n, isB_b, isNB_b, int_n, isi_int, isi_bool, isi_tup, seq_t, seq_l, len_t, len_l, tupOf_l, tupOf_t, tup1, tup2, tup3, tup4, sm0, sm1, sm2, sm3, sm4, ix_t, ix_l, lit0, lit1, lit2, lit3, lit4, lit5, lit6, lit8, lit9, lit12, lit16, lit60, Bool.not_true, Bool.not_false, g_0, g_1, nxL_ret, ite_true, ite_false, Bool.false_eq_true, seq_p, seq_tD, len_p, len_tD, Option.map_some, index_p ht hy, app_le (l := o) (d := dn (iv n t y)) (by omega), ru_ix (iv_lt ht hy), e_law_after h8 (h.b _ (iv_lt ht hy)).1]) r [] (fun i => i) hr (by simpa using hl) Bij.id]
  simp -implicitDefEqProofs only [bnd_ret, of_some, all_nil, all_cons, g_nil, g_inl, g_inr, and_t, and_f, or_t, or_f, elt1_ret, eltIf_t, eltIf_f, it_t, it_f, bndF_nx, bndF_rt, fin_rt, fin_nx, t2_at, t3_at, part_n, add_n, lt_n, le_n, gt_n, ge_n, bl_b, tru_b, not_b, isN_n, isB_b, isNB_b, int_n, isi_int, isi_bool, isi_tup, seq_t, seq_l, len_t, len_l, tupOf_l, tupOf_t, tup1, tup2, tup3, tup4, sm0, sm1, sm2, sm3, sm4, ix_t, ix_l, lit0, lit1, lit2, lit3, lit4, lit5, lit6, lit8, lit9, lit12, lit16, lit60, Bool.not_true, Bool.not_false, g_0, g_1, nxL_ret, ite_true, ite_false, Bool.false_eq_true, seq_p, seq_tD, len_p, len_tD, Option.map_some, List.nil_append, tup_tD]
theorem e_law_written (h8 : n ≤ 8) (h : Ru n L) {r : List Nat} (hl : r.length ≤ 900) (hr : ∀ x ∈ r, x < n) : mf__law_written [ruD n L, tD r] = mRet (tD (wrR n L (fun i => i) r)) := e_law_written' h8 h rfl hl hr
theorem e_order_of (h1 : 1 ≤ n) (h8 : n ≤ 8) (h : Ru n L) {r : List Nat} (hl : r.length ≤ 900) (hr : ∀ x ∈ r, x < n) : mf_order_of [rtD n L, tD r] = mRet (tD (rdO L (fun i => i) r)) := by
  have hl2 : r.length ≤ 1000 := by omega
  have e := e_require_row h1 h8 h hl2 hr
  have e2 := e_order_turn h8 h hl hr
  simp -implicitDefEqProofs only [mf_order_of, m_order_of, bnd_ret, of_some, all_nil, all_cons, g_nil, g_inl, g_inr, and_t, and_f, or_t, or_f, elt1_ret, eltIf_t, eltIf_f, it_t, it_f, bndF_nx, bndF_rt, fin_rt, fin_nx, t2_at, t3_at, part_n, add_n, lt_n, le_n, gt_n, ge_n, bl_b, tru_b, not_b, isN_n, isB_b, isNB_b, int_n, isi_int, isi_bool, isi_tup, seq_t, seq_l, len_t, len_l, tupOf_l, tupOf_t, tup1, tup2, tup3, tup4, sm0, sm1, sm2, sm3, sm4, ix_t, ix_l, lit0, lit1, lit2, lit3, lit4, lit5, lit6, lit8, lit9, lit12, lit16, lit60, Bool.not_true, Bool.not_false, g_0, g_1, nxL_ret, ite_true, ite_false, Bool.false_eq_true, seq_p, seq_tD, len_p, len_tD, Option.map_some, e, e_lefts h8]
  rw [e2]
  simp -implicitDefEqProofs only [bnd_ret, of_some, all_nil, all_cons, g_nil, g_inl, g_inr, and_t, and_f, or_t, or_f, elt1_ret, eltIf_t, eltIf_f, it_t, it_f, bndF_nx, bndF_rt, fin_rt, fin_nx, t2_at, t3_at, part_n, add_n, lt_n, le_n, gt_n, ge_n, bl_b, tru_b, not_b, isN_n, isB_b, isNB_b, int_n, isi_int, isi_bool, isi_tup, seq_t, seq_l, len_t, len_l, tupOf_l, tupOf_t, tup1, tup2, tup3, tup4, sm0, sm1, sm2, sm3, sm4, ix_t, ix_l, lit0, lit1, lit2, lit3, lit4, lit5, lit6, lit8, lit9, lit12, lit16, lit60, Bool.not_true, Bool.not_false, g_0, g_1, nxL_ret, ite_true, ite_false, Bool.false_eq_true, seq_p, seq_tD, len_p, len_tD, Option.map_some]
theorem e_turn_of_row (h1 : 1 ≤ n) (h8 : n ≤ 8) (h : Ru n L) {r : List Nat} (hl : r.length ≤ 900) (hr : ∀ x ∈ r, x < n) : mf_turn_of_row [rtD n L, tD r] = mRet (pD n (rdT L (fun i => i) r)) := by
  have hl2 : r.length ≤ 1000 := by omega
  have e := e_require_row h1 h8 h hl2 hr
  have e2 := e_order_turn h8 h hl hr
  simp -implicitDefEqProofs only [mf_turn_of_row, m_turn_of_row, bnd_ret, of_some, all_nil, all_cons, g_nil, g_inl, g_inr, and_t, and_f, or_t, or_f, elt1_ret, eltIf_t, eltIf_f, it_t, it_f, bndF_nx, bndF_rt, fin_rt, fin_nx, t2_at, t3_at, part_n, add_n, lt_n, le_n, gt_n, ge_n, bl_b, tru_b, not_b, isN_n, isB_b, isNB_b, int_n, isi_int, isi_bool, isi_tup, seq_t, seq_l, len_t, len_l, tupOf_l, tupOf_t, tup1, tup2, tup3, tup4, sm0, sm1, sm2, sm3, sm4, ix_t, ix_l, lit0, lit1, lit2, lit3, lit4, lit5, lit6, lit8, lit9, lit12, lit16, lit60, Bool.not_true, Bool.not_false, g_0, g_1, nxL_ret, ite_true, ite_false, Bool.false_eq_true, seq_p, seq_tD, len_p, len_tD, Option.map_some, e, e_lefts h8]
  rw [e2]
  simp -implicitDefEqProofs only [bnd_ret, of_some, all_nil, all_cons, g_nil, g_inl, g_inr, and_t, and_f, or_t, or_f, elt1_ret, eltIf_t, eltIf_f, it_t, it_f, bndF_nx, bndF_rt, fin_rt, fin_nx, t2_at, t3_at, part_n, add_n, lt_n, le_n, gt_n, ge_n, bl_b, tru_b, not_b, isN_n, isB_b, isNB_b, int_n, isi_int, isi_bool, isi_tup, seq_t, seq_l, len_t, len_l, tupOf_l, tupOf_t, tup1, tup2, tup3, tup4, sm0, sm1, sm2, sm3, sm4, ix_t, ix_l, lit0, lit1, lit2, lit3, lit4, lit5, lit6, lit8, lit9, lit12, lit16, lit60, Bool.not_true, Bool.not_false, g_0, g_1, nxL_ret, ite_true, ite_false, Bool.false_eq_true, seq_p, seq_tD, len_p, len_tD, Option.map_some]
theorem e_row_of (h1 : 1 ≤ n) (h8 : n ≤ 8) (h : Ru n L) {r : List Nat} (hl : r.length ≤ 900) (hr : ∀ x ∈ r, x < n) : mf_row_of [rtD n L, tD r] = mRet (tD (wrR n L (fun i => i) r)) := by
  have hl2 : r.length ≤ 1000 := by omega
  have e := e_kinds r n hl2 hr
  have e2 := e_row_with h8 h hl hr
  simp -implicitDefEqProofs only [mf_row_of, m_row_of, bnd_ret, of_some, all_nil, all_cons, g_nil, g_inl, g_inr, and_t, and_f, or_t, or_f, elt1_ret, eltIf_t, eltIf_f, it_t, it_f, bndF_nx, bndF_rt, fin_rt, fin_nx, t2_at, t3_at, part_n, add_n, lt_n, le_n, gt_n, ge_n, bl_b, tru_b, not_b, isN_n, isB_b, isNB_b, int_n, isi_int, isi_bool, isi_tup, seq_t, seq_l, len_t, len_l, tupOf_l, tupOf_t, tup1, tup2, tup3, tup4, sm0, sm1, sm2, sm3, sm4, ix_t, ix_l, lit0, lit1, lit2, lit3, lit4, lit5, lit6, lit8, lit9, lit12, lit16, lit60, Bool.not_true, Bool.not_false, g_0, g_1, nxL_ret, ite_true, ite_false, Bool.false_eq_true, seq_p, seq_tD, len_p, len_tD, Option.map_some, e_require h1 h8 h, e_len, e, e_lefts h8]
  rw [e2]
  simp -implicitDefEqProofs only [bnd_ret, of_some, all_nil, all_cons, g_nil, g_inl, g_inr, and_t, and_f, or_t, or_f, elt1_ret, eltIf_t, eltIf_f, it_t, it_f, bndF_nx, bndF_rt, fin_rt, fin_nx, t2_at, t3_at, part_n, add_n, lt_n, le_n, gt_n, ge_n, bl_b, tru_b, not_b, isN_n, isB_b, isNB_b, int_n, isi_int, isi_bool, isi_tup, seq_t, seq_l, len_t, len_l, tupOf_l, tupOf_t, tup1, tup2, tup3, tup4, sm0, sm1, sm2, sm3, sm4, ix_t, ix_l, lit0, lit1, lit2, lit3, lit4, lit5, lit6, lit8, lit9, lit12, lit16, lit60, Bool.not_true, Bool.not_false, g_0, g_1, nxL_ret, ite_true, ite_false, Bool.false_eq_true, seq_p, seq_tD, len_p, len_tD, Option.map_some]
theorem e_counts {l : List Nat} (h8 : n ≤ 8) : mf_counts [tD l, dn n] = mRet (pD n fun y => l.count y) := by
  simp -implicitDefEqProofs only [mf_counts, m_counts, bnd_ret, of_some, all_nil, all_cons, g_nil, g_inl, g_inr, and_t, and_f, or_t, or_f, elt1_ret, eltIf_t, eltIf_f, it_t, it_f, bndF_nx, bndF_rt, fin_rt, fin_nx, t2_at, t3_at, part_n, add_n, lt_n, le_n, gt_n, ge_n, bl_b, tru_b, not_b, isN_n, isB_b, isNB_b, int_n, isi_int, isi_bool, isi_tup, seq_t, seq_l, len_t, len_l, tupOf_l, tupOf_t, tup1, tup2, tup3, tup4, sm0, sm1, sm2, sm3, sm4, ix_t, ix_l, lit0, lit1, lit2, lit3, lit4, lit5, lit6, lit8, lit9, lit12, lit16, lit60, Bool.not_true, Bool.not_false, g_0, g_1, nxL_ret, ite_true, ite_false, Bool.false_eq_true, seq_p, seq_tD, len_p, len_tD, Option.map_some, range_n (by omega : n ≤ 1000)]
  rw [comp_range (g := fun y => dn (l.count y)) (by omega) fun y hy => by simp -implicitDefEqProofs only [bnd_ret, of_some, all_nil, all_cons, g_nil, g_inl, g_inr, and_t, and_f, or_t, or_f, elt1_ret, eltIf_t, eltIf_f, it_t, it_f, bndF_nx, bndF_rt, fin_rt, fin_nx, t2_at, t3_at, part_n, add_n, lt_n, le_n, gt_n, ge_n, bl_b, tru_b, not_b, isN_n, isB_b, isNB_b, int_n, isi_int, isi_bool, isi_tup, seq_t, seq_l, len_t, len_l, tupOf_l, tupOf_t, tup1, tup2, tup3, tup4, sm0, sm1, sm2, sm3, sm4, ix_t, ix_l, lit0, lit1, lit2, lit3, lit4, lit5, lit6, lit8, lit9, lit12, lit16, lit60, Bool.not_true, Bool.not_false, g_0, g_1, nxL_ret, ite_true, ite_false, Bool.false_eq_true, seq_p, seq_tD, len_p, len_tD, Option.map_some, count_n]]
  simp -implicitDefEqProofs only [bnd_ret, of_some, all_nil, all_cons, g_nil, g_inl, g_inr, and_t, and_f, or_t, or_f, elt1_ret, eltIf_t, eltIf_f, it_t, it_f, bndF_nx, bndF_rt, fin_rt, fin_nx, t2_at, t3_at, part_n, add_n, lt_n, le_n, gt_n, ge_n, bl_b, tru_b, not_b, isN_n, isB_b, isNB_b, int_n, isi_int, isi_bool, isi_tup, seq_t, seq_l, len_t, len_l, tupOf_l, tupOf_t, tup1, tup2, tup3, tup4, sm0, sm1, sm2, sm3, sm4, ix_t, ix_l, lit0, lit1, lit2, lit3, lit4, lit5, lit6, lit8, lit9, lit12, lit16, lit60, Bool.not_true, Bool.not_false, g_0, g_1, nxL_ret, ite_true, ite_false, Bool.false_eq_true, seq_p, seq_tD, len_p, len_tD, Option.map_some]
  rfl
theorem e_heap_of (h1 : 1 ≤ n) (h8 : n ≤ 8) (h : Ru n L) {r : List Nat} (hl : r.length ≤ 900) (hr : ∀ x ∈ r, x < n) : mf_heap_of [rtD n L, tD r] = mRet (pD n fun y => (rdO L (fun i => i) r).count y) := by
  simp -implicitDefEqProofs only [mf_heap_of, m_heap_of, bnd_ret, of_some, all_nil, all_cons, g_nil, g_inl, g_inr, and_t, and_f, or_t, or_f, elt1_ret, eltIf_t, eltIf_f, it_t, it_f, bndF_nx, bndF_rt, fin_rt, fin_nx, t2_at, t3_at, part_n, add_n, lt_n, le_n, gt_n, ge_n, bl_b, tru_b, not_b, isN_n, isB_b, isNB_b, int_n, isi_int, isi_bool, isi_tup, seq_t, seq_l, len_t, len_l, tupOf_l, tupOf_t, tup1, tup2, tup3, tup4, sm0, sm1, sm2, sm3, sm4, ix_t, ix_l, lit0, lit1, lit2, lit3, lit4, lit5, lit6, lit8, lit9, lit12, lit16, lit60, Bool.not_true, Bool.not_false, g_0, g_1, nxL_ret, ite_true, ite_false, Bool.false_eq_true, seq_p, seq_tD, len_p, len_tD, Option.map_some, e_order_of h1 h8 h hl hr, e_len, e_counts h8]
/-! ### the law's own defs -/
theorem e_law_table (h8 : n ≤ 8) (h : Ru n L) : mf__law_table [ruD n L] = mRet (rtD n L) := by
  simp -implicitDefEqProofs only [mf__law_table, m__law_table, bnd_ret, of_some, all_nil, all_cons, g_nil, g_inl, g_inr, and_t, and_f, or_t, or_f, elt1_ret, eltIf_t, eltIf_f, it_t, it_f, bndF_nx, bndF_rt, fin_rt, fin_nx, t2_at, t3_at, part_n, add_n, lt_n, le_n, gt_n, ge_n, bl_b, tru_b, not_b, isN_n, isB_b, isNB_b, int_n, isi_int, isi_bool, isi_tup, seq_t, seq_l, len_t, len_l, tupOf_l, tupOf_t, tup1, tup2, tup3, tup4, sm0, sm1, sm2, sm3, sm4, ix_t, ix_l, lit0, lit1, lit2, lit3, lit4, lit5, lit6, lit8, lit9, lit12, lit16, lit60, Bool.not_true, Bool.not_false, g_0, g_1, nxL_ret, ite_true, ite_false, Bool.false_eq_true, seq_p, seq_tD, len_p, len_tD, Option.map_some, ru_len, range_n (by omega : n ≤ 1000)]
  rw [comp_range (g := fun x => .tuple ((List.range n).map fun y => .tuple [dn (L x y), dn (Rt n L y x)])) (by omega) fun x hx => by
    rw [comp_range (g := fun y => .tuple [dn (L x y), dn (Rt n L y x)]) (by omega) fun y hy => by
      simp -implicitDefEqProofs only [bnd_ret, of_some, all_nil, all_cons, g_nil, g_inl, g_inr, and_t, and_f, or_t, or_f, elt1_ret, eltIf_t, eltIf_f, it_t, it_f, bndF_nx, bndF_rt, fin_rt, fin_nx, t2_at, t3_at, part_n, add_n, lt_n, le_n, gt_n, ge_n, bl_b, tru_b, not_b, isN_n, isB_b, isNB_b, int_n, isi_int, isi_bool, isi_tup, seq_t, seq_l, len_t, len_l, tupOf_l, tupOf_t, tup1, tup2, tup3, tup4, sm0, sm1, sm2, sm3, sm4, ix_t, ix_l, lit0, lit1, lit2, lit3, lit4, lit5, lit6, lit8, lit9, lit12, lit16, lit60, Bool.not_true, Bool.not_false, g_0, g_1, nxL_ret, ite_true, ite_false, Bool.false_eq_true, seq_p, seq_tD, len_p, len_tD, Option.map_some, ru_ix hx, pD_ix hy, ru_ix (h.lt hx hy), index_p (h.b _ (h.lt hx hy)) hx]
      rfl]
    simp -implicitDefEqProofs only [bnd_ret, of_some, all_nil, all_cons, g_nil, g_inl, g_inr, and_t, and_f, or_t, or_f, elt1_ret, eltIf_t, eltIf_f, it_t, it_f, bndF_nx, bndF_rt, fin_rt, fin_nx, t2_at, t3_at, part_n, add_n, lt_n, le_n, gt_n, ge_n, bl_b, tru_b, not_b, isN_n, isB_b, isNB_b, int_n, isi_int, isi_bool, isi_tup, seq_t, seq_l, len_t, len_l, tupOf_l, tupOf_t, tup1, tup2, tup3, tup4, sm0, sm1, sm2, sm3, sm4, ix_t, ix_l, lit0, lit1, lit2, lit3, lit4, lit5, lit6, lit8, lit9, lit12, lit16, lit60, Bool.not_true, Bool.not_false, g_0, g_1, nxL_ret, ite_true, ite_false, Bool.false_eq_true, seq_p, seq_tD, len_p, len_tD, Option.map_some]]
  simp -implicitDefEqProofs only [bnd_ret, of_some, all_nil, all_cons, g_nil, g_inl, g_inr, and_t, and_f, or_t, or_f, elt1_ret, eltIf_t, eltIf_f, it_t, it_f, bndF_nx, bndF_rt, fin_rt, fin_nx, t2_at, t3_at, part_n, add_n, lt_n, le_n, gt_n, ge_n, bl_b, tru_b, not_b, isN_n, isB_b, isNB_b, int_n, isi_int, isi_bool, isi_tup, seq_t, seq_l, len_t, len_l, tupOf_l, tupOf_t, tup1, tup2, tup3, tup4, sm0, sm1, sm2, sm3, sm4, ix_t, ix_l, lit0, lit1, lit2, lit3, lit4, lit5, lit6, lit8, lit9, lit12, lit16, lit60, Bool.not_true, Bool.not_false, g_0, g_1, nxL_ret, ite_true, ite_false, Bool.false_eq_true, seq_p, seq_tD, len_p, len_tD, Option.map_some]
  rfl
end
theorem e_same {d : D} {p k : Nat} (h : Sh d p k) (hp : p ≤ 60) (hk : k ≤ 100000) : mf__law_same [d, d] = mRet (.bool true) := by
  have e := repr_of h hp hk
  have e2 := Cz.eq_self h
  simp -implicitDefEqProofs only [mf__law_same, m__law_same, bnd_ret, of_some, all_nil, all_cons, g_nil, g_inl, g_inr, and_t, and_f, or_t, or_f, elt1_ret, eltIf_t, eltIf_f, it_t, it_f, bndF_nx, bndF_rt, fin_rt, fin_nx, t2_at, t3_at, part_n, add_n, lt_n, le_n, gt_n, ge_n, bl_b, tru_b, not_b, isN_n, isB_b, isNB_b, int_n, isi_int, isi_bool, isi_tup, seq_t, seq_l, len_t, len_l, tupOf_l, tupOf_t, tup1, tup2, tup3, tup4, sm0, sm1, sm2, sm3, sm4, ix_t, ix_l, lit0, lit1, lit2, lit3, lit4, lit5, lit6, lit8, lit9, lit12, lit16, lit60, Bool.not_true, Bool.not_false, g_0, g_1, nxL_ret, ite_true, ite_false, Bool.false_eq_true, seq_p, seq_tD, len_p, len_tD, Option.map_some, e, e2]
section
variable {n : Nat} {L : Nat → Nat → Nat}
theorem e_is_read (h1 : 1 ≤ n) (h8 : n ≤ 8) (h : Ru n L) {r : List Nat} (hl : r.length ≤ 120) (hr : ∀ x ∈ r, x < n) : mf__law_is_read [rtD n L, ruD n L, tD r] = mRet (.bool true) := by
  have hl9 : r.length ≤ 900 := by omega
  have hl10 : r.length ≤ 1000 := by omega
  have ol : (rdO L (fun i => i) r).length ≤ 1000 := by rw [rdO_len]; omega
  have ol9 : (rdO L (fun i => i) r).length ≤ 900 := by rw [rdO_len]; omega
  have ho := rdO_lt h r Bij.id hr
  have bt := rdT_bij h r Bij.id hr
  have e1 := e_law_read h8 h hl9 hr
  have e2 := e_order_of h1 h8 h hl9 hr
  have e3 := e_heap_of h1 h8 h hl9 hr
  have e4 := e_turn_of_row h1 h8 h hl9 hr
  have e5 := e_is_row h1 h8 h hl10 hr
  have e6 := e_is_row h1 h8 h ol ho
  have e7 := e_row_of h1 h8 h ol9 ho
  rw [wr_rd h r Bij.id hr] at e7
  have rg := range_n (n := n) (by omega)
  have s0 : Sh (tD r) 1 1000 := sh_tD (fun x hx => by have := hr x hx; omega) (by omega)
  have s1 : Sh (tD (rdO L (fun i => i) r)) 1 1000 := sh_tD (fun x hx => by have := ho x hx; omega) (by rw [rdO_len]; omega)
  have s2 : Sh (pD n fun y => (rdO L (fun i => i) r).count y) 1 1000 := sh_pD h8 fun x hx => by have := List.count_le_length (a := x) (l := rdO L (fun i => i) r); rw [rdO_len] at this; omega
  have s3 : Sh (pD n (rdT L (fun i => i) r)) 1 1000 := sh_pD h8 fun x hx => by have := bt.1 x hx; omega
  have w1 : mf__law_same [.list [tD (rdO L (fun i => i) r), pD n fun y => (rdO L (fun i => i) r).count y, pD n (rdT L (fun i => i) r)], .list [tD (rdO L (fun i => i) r), pD n fun y => (rdO L (fun i => i) r).count y, pD n (rdT L (fun i => i) r)]] = mRet (.bool true) :=
    e_same (sh_list (p := 1) (k := 1000) (by intro d hd; simp at hd; rcases hd with rfl | rfl | rfl <;> assumption)) (by omega) (by simp)
  have w2 : mf__law_same [.list [.bool true, .bool true], .list [.bool true, .bool true]] = mRet (.bool true) := e_same (sh_list (p := 0) (k := 5) (by intro d hd; simp at hd; subst hd; exact sh_b true)) (by omega) (by simp)
  have w3 := e_same s0 (by omega) (by omega)
  have hc : (mComp (S := S0) (fun c => elt1 (mBnd (mRet (tD (rdO L (fun i => i) r))) fun x => mBnd (mOf (gSeq x)) fun y => mBnd (mRet c) fun z => mOf (gCount y z))) ((List.range n).map dn) []) = mRet ((List.range n).map fun y => dn ((rdO L (fun i => i) r).count y)) :=
    comp_range (by omega) fun y hy => by simp -implicitDefEqProofs only [bnd_ret, of_some, all_nil, all_cons, g_nil, g_inl, g_inr, and_t, and_f, or_t, or_f, elt1_ret, eltIf_t, eltIf_f, it_t, it_f, bndF_nx, bndF_rt, fin_rt, fin_nx, t2_at, t3_at, part_n, add_n, lt_n, le_n, gt_n, ge_n, bl_b, tru_b, not_b, isN_n, isB_b, isNB_b, int_n, isi_int, isi_bool, isi_tup, seq_t, seq_l, len_t, len_l, tupOf_l, tupOf_t, tup1, tup2, tup3, tup4, sm0, sm1, sm2, sm3, sm4, ix_t, ix_l, lit0, lit1, lit2, lit3, lit4, lit5, lit6, lit8, lit9, lit12, lit16, lit60, Bool.not_true, Bool.not_false, g_0, g_1, nxL_ret, ite_true, ite_false, Bool.false_eq_true, seq_p, seq_tD, len_p, len_tD, Option.map_some, count_n]
  simp -implicitDefEqProofs only [bnd_ret, of_some, all_nil, all_cons, g_nil, g_inl, g_inr, and_t, and_f, or_t, or_f, elt1_ret, eltIf_t, eltIf_f, it_t, it_f, bndF_nx, bndF_rt, fin_rt, fin_nx, t2_at, t3_at, part_n, add_n, lt_n, le_n, gt_n, ge_n, bl_b, tru_b, not_b, isN_n, isB_b, isNB_b, int_n, isi_int, isi_bool, isi_tup, seq_t, seq_l, len_t, len_l, tupOf_l, tupOf_t, tup1, tup2, tup3, tup4, sm0, sm1, sm2, sm3, sm4, ix_t, ix_l, lit0, lit1, lit2, lit3, lit4, lit5, lit6, lit8, lit9, lit12, lit16, lit60, Bool.not_true, Bool.not_false, g_0, g_1, nxL_ret, ite_true, ite_false, Bool.false_eq_true, seq_p, seq_tD, len_p, len_tD, Option.map_some] at hc
  simp -implicitDefEqProofs only [mf__law_is_read, m__law_is_read, bnd_ret, of_some, all_nil, all_cons, g_nil, g_inl, g_inr, and_t, and_f, or_t, or_f, elt1_ret, eltIf_t, eltIf_f, it_t, it_f, bndF_nx, bndF_rt, fin_rt, fin_nx, t2_at, t3_at, part_n, add_n, lt_n, le_n, gt_n, ge_n, bl_b, tru_b, not_b, isN_n, isB_b, isNB_b, int_n, isi_int, isi_bool, isi_tup, seq_t, seq_l, len_t, len_l, tupOf_l, tupOf_t, tup1, tup2, tup3, tup4, sm0, sm1, sm2, sm3, sm4, ix_t, ix_l, lit0, lit1, lit2, lit3, lit4, lit5, lit6, lit8, lit9, lit12, lit16, lit60, Bool.not_true, Bool.not_false, g_0, g_1, nxL_ret, ite_true, ite_false, Bool.false_eq_true, seq_p, seq_tD, len_p, len_tD, Option.map_some, e1, ru_len, rg]
  rw [hc]
  simp -implicitDefEqProofs only [bnd_ret, of_some, all_nil, all_cons, g_nil, g_inl, g_inr, and_t, and_f, or_t, or_f, elt1_ret, eltIf_t, eltIf_f, it_t, it_f, bndF_nx, bndF_rt, fin_rt, fin_nx, t2_at, t3_at, part_n, add_n, lt_n, le_n, gt_n, ge_n, bl_b, tru_b, not_b, isN_n, isB_b, isNB_b, int_n, isi_int, isi_bool, isi_tup, seq_t, seq_l, len_t, len_l, tupOf_l, tupOf_t, tup1, tup2, tup3, tup4, sm0, sm1, sm2, sm3, sm4, ix_t, ix_l, lit0, lit1, lit2, lit3, lit4, lit5, lit6, lit8, lit9, lit12, lit16, lit60, Bool.not_true, Bool.not_false, g_0, g_1, nxL_ret, ite_true, ite_false, Bool.false_eq_true, seq_p, seq_tD, len_p, len_tD, Option.map_some, tup_pD, pickD, List.map_cons, List.map_nil, List.getD_cons_zero, List.getD_cons_succ, e2, e3, e4, w1, e5, e6, w2, e7, w3]
theorem e_is_written (h1 : 1 ≤ n) (h8 : n ≤ 8) (h : Ru n L) {o : List Nat} (hl : o.length ≤ 120) (ho : ∀ x ∈ o, x < n) : mf__law_is_written [rtD n L, ruD n L, tD o] = mRet (.bool true) := by
  have hl9 : o.length ≤ 900 := by omega
  have rl9 : (wrR n L (fun i => i) o).length ≤ 900 := by rw [wrR_len]; omega
  have hr := wrR_lt h o Bij.id ho
  have e1 := e_law_written h8 h hl9 ho
  have e2 := e_row_of h1 h8 h hl9 ho
  have e3 := e_order_of h1 h8 h rl9 hr
  rw [rd_wr h o Bij.id ho] at e3
  have s0 : Sh (tD o) 1 1000 := sh_tD (fun x hx => by have := ho x hx; omega) (by omega)
  have s1 : Sh (tD (wrR n L (fun i => i) o)) 1 1000 := sh_tD (fun x hx => by have := hr x hx; omega) (by rw [wrR_len]; omega)
  have w1 : mf__law_same [.list [tD (wrR n L (fun i => i) o), tD (wrR n L (fun i => i) o)], .list [tD (wrR n L (fun i => i) o), tD (wrR n L (fun i => i) o)]] = mRet (.bool true) :=
    e_same (sh_list (p := 1) (k := 1000) (by intro d hd; simp at hd; subst hd; assumption)) (by omega) (by simp)
  have w2 := e_same s0 (by omega) (by omega)
  simp -implicitDefEqProofs only [mf__law_is_written, m__law_is_written, bnd_ret, of_some, all_nil, all_cons, g_nil, g_inl, g_inr, and_t, and_f, or_t, or_f, elt1_ret, eltIf_t, eltIf_f, it_t, it_f, bndF_nx, bndF_rt, fin_rt, fin_nx, t2_at, t3_at, part_n, add_n, lt_n, le_n, gt_n, ge_n, bl_b, tru_b, not_b, isN_n, isB_b, isNB_b, int_n, isi_int, isi_bool, isi_tup, seq_t, seq_l, len_t, len_l, tupOf_l, tupOf_t, tup1, tup2, tup3, tup4, sm0, sm1, sm2, sm3, sm4, ix_t, ix_l, lit0, lit1, lit2, lit3, lit4, lit5, lit6, lit8, lit9, lit12, lit16, lit60, Bool.not_true, Bool.not_false, g_0, g_1, nxL_ret, ite_true, ite_false, Bool.false_eq_true, seq_p, seq_tD, len_p, len_tD, Option.map_some, e1, pickD, List.map_cons, List.map_nil, List.getD_cons_zero, List.getD_cons_succ, e2, e3, w1, w2]
theorem e_is_joined (h1 : 1 ≤ n) (h8 : n ≤ 8) (h : Ru n L) {r s : List Nat} (hl : r.length + s.length ≤ 120) (hr : ∀ x ∈ r, x < n) (hs : ∀ x ∈ s, x < n) : mf__law_is_joined [rtD n L, ruD n L, tD r, tD s] = mRet (.bool true) := by
  have hrs : ∀ x ∈ r ++ s, x < n := fun x hx => (List.mem_append.mp hx).elim (hr x) (hs x)
  have l1 : r.length ≤ 900 := by omega
  have l2 : s.length ≤ 900 := by omega
  have l3 : (r ++ s).length ≤ 900 := by simp; omega
  have bt := rdT_bij h r Bij.id hr
  have bs := rdT_bij h s Bij.id hs
  have os := rdO_lt h s Bij.id hs
  have e1 := e_turn_of_row h1 h8 h l1 hr
  have e2 := e_order_of h1 h8 h l1 hr
  have e3 := e_order_of h1 h8 h l2 hs
  have e4 := e_order_of h1 h8 h l3 hrs
  have e5 := e_turn_of_row h1 h8 h l3 hrs
  have e6 := e_law_read h8 h l1 hr
  have e7 := e_law_read h8 h l2 hs
  have e8 := e_law_after (m := n) h8 (f := rdT L (fun i => i) r) (g := rdT L (fun i => i) s) bs.1
  rw [rdO_app] at e4
  rw [rdT_app] at e5
  have q1 : rdO L (rdT L (fun i => i) r) s = (rdO L (fun i => i) s).map (rdT L (fun i => i) r) := rdO_map s (rdT L (fun i => i) r) fun i => i
  have q2 : rdT L (rdT L (fun i => i) r) s = fun i => rdT L (fun i => i) r (rdT L (fun i => i) s i) := rdT_map s (rdT L (fun i => i) r) fun i => i
  rw [q1] at e4
  rw [q2] at e5
  have a1 := add_tD (l := r) (m := s) (by omega)
  have hc : (mComp (S := S0) (fun c => elt1 (mBnd (mRet (pD n (rdT L (fun i => i) r))) fun x => mBnd (mRet c) fun y => mOf (gIx x y))) ((rdO L (fun i => i) s).map dn) []) = mRet ((rdO L (fun i => i) s).map fun y => dn (rdT L (fun i => i) r y)) :=
    comp_nats (by rw [rdO_len]; omega) fun y hy => by simp -implicitDefEqProofs only [bnd_ret, of_some, all_nil, all_cons, g_nil, g_inl, g_inr, and_t, and_f, or_t, or_f, elt1_ret, eltIf_t, eltIf_f, it_t, it_f, bndF_nx, bndF_rt, fin_rt, fin_nx, t2_at, t3_at, part_n, add_n, lt_n, le_n, gt_n, ge_n, bl_b, tru_b, not_b, isN_n, isB_b, isNB_b, int_n, isi_int, isi_bool, isi_tup, seq_t, seq_l, len_t, len_l, tupOf_l, tupOf_t, tup1, tup2, tup3, tup4, sm0, sm1, sm2, sm3, sm4, ix_t, ix_l, lit0, lit1, lit2, lit3, lit4, lit5, lit6, lit8, lit9, lit12, lit16, lit60, Bool.not_true, Bool.not_false, g_0, g_1, nxL_ret, ite_true, ite_false, Bool.false_eq_true, seq_p, seq_tD, len_p, len_tD, Option.map_some, pD_ix (os y hy)]
  simp -implicitDefEqProofs only [bnd_ret, of_some, all_nil, all_cons, g_nil, g_inl, g_inr, and_t, and_f, or_t, or_f, elt1_ret, eltIf_t, eltIf_f, it_t, it_f, bndF_nx, bndF_rt, fin_rt, fin_nx, t2_at, t3_at, part_n, add_n, lt_n, le_n, gt_n, ge_n, bl_b, tru_b, not_b, isN_n, isB_b, isNB_b, int_n, isi_int, isi_bool, isi_tup, seq_t, seq_l, len_t, len_l, tupOf_l, tupOf_t, tup1, tup2, tup3, tup4, sm0, sm1, sm2, sm3, sm4, ix_t, ix_l, lit0, lit1, lit2, lit3, lit4, lit5, lit6, lit8, lit9, lit12, lit16, lit60, Bool.not_true, Bool.not_false, g_0, g_1, nxL_ret, ite_true, ite_false, Bool.false_eq_true, seq_p, seq_tD, len_p, len_tD, Option.map_some] at hc
  have tt : PyData.tuple ((rdO L (fun i => i) s).map fun y => dn (rdT L (fun i => i) r y)) = tD ((rdO L (fun i => i) s).map (rdT L (fun i => i) r)) := by unfold tD; rw [List.map_map]; rfl
  have a2 := add_tD (l := rdO L (fun i => i) r) (m := (rdO L (fun i => i) s).map (rdT L (fun i => i) r)) (by simp [rdO_len]; omega)
  have s1 : Sh (tD (rdO L (fun i => i) r ++ (rdO L (fun i => i) s).map (rdT L (fun i => i) r))) 1 1000 := sh_tD (fun x hx => by
    rcases List.mem_append.mp hx with hx | hx
    · have := rdO_lt h r Bij.id hr x hx; omega
    · obtain ⟨y, hy, rfl⟩ := List.mem_map.mp hx
      have := bt.1 y (os y hy); omega) (by simp [rdO_len]; omega)
  have s2 : Sh (pD n fun i => rdT L (fun i => i) r (rdT L (fun i => i) s i)) 1 1000 := sh_pD h8 fun x hx => by have : rdT L (fun i => i) r (rdT L (fun i => i) s x) < n := (bt.comp bs).1 x hx; omega
  have w1 := e_same s1 (by omega) (by omega)
  have w2 := e_same s2 (by omega) (by omega)
  simp -implicitDefEqProofs only [mf__law_is_joined, m__law_is_joined, bnd_ret, of_some, all_nil, all_cons, g_nil, g_inl, g_inr, and_t, and_f, or_t, or_f, elt1_ret, eltIf_t, eltIf_f, it_t, it_f, bndF_nx, bndF_rt, fin_rt, fin_nx, t2_at, t3_at, part_n, add_n, lt_n, le_n, gt_n, ge_n, bl_b, tru_b, not_b, isN_n, isB_b, isNB_b, int_n, isi_int, isi_bool, isi_tup, seq_t, seq_l, len_t, len_l, tupOf_l, tupOf_t, tup1, tup2, tup3, tup4, sm0, sm1, sm2, sm3, sm4, ix_t, ix_l, lit0, lit1, lit2, lit3, lit4, lit5, lit6, lit8, lit9, lit12, lit16, lit60, Bool.not_true, Bool.not_false, g_0, g_1, nxL_ret, ite_true, ite_false, Bool.false_eq_true, seq_p, seq_tD, len_p, len_tD, Option.map_some, e1, e2, e3]
  rw [hc]
  simp -implicitDefEqProofs only [bnd_ret, of_some, all_nil, all_cons, g_nil, g_inl, g_inr, and_t, and_f, or_t, or_f, elt1_ret, eltIf_t, eltIf_f, it_t, it_f, bndF_nx, bndF_rt, fin_rt, fin_nx, t2_at, t3_at, part_n, add_n, lt_n, le_n, gt_n, ge_n, bl_b, tru_b, not_b, isN_n, isB_b, isNB_b, int_n, isi_int, isi_bool, isi_tup, seq_t, seq_l, len_t, len_l, tupOf_l, tupOf_t, tup1, tup2, tup3, tup4, sm0, sm1, sm2, sm3, sm4, ix_t, ix_l, lit0, lit1, lit2, lit3, lit4, lit5, lit6, lit8, lit9, lit12, lit16, lit60, Bool.not_true, Bool.not_false, g_0, g_1, nxL_ret, ite_true, ite_false, Bool.false_eq_true, seq_p, seq_tD, len_p, len_tD, Option.map_some, tt, a1, a2, e4, w1, e5, e6, e7, e8, w2]
end
end K12
set_option Elab.async false
set_option linter.all false
set_option maxRecDepth 100000
set_option maxHeartbeats 2000000
namespace K12
open PySem PySem.Spec PyProof.Rows L2 Cz Rl
theorem al_draw {m : Nat} (h0 : 0 < m) (h1 : m < 1000000) : Al (kn := "cells") 1 (mf__law_draw [dn m]) fun d => ∃ v, v < m ∧ d = dn v := by
  intro s o b
  obtain ⟨l, mi, d⟩ := s
  obtain ⟨ol, m0, m1, d0⟩ := o
  dsimp only at ol m0 m1 d0 b
  have fin : ∀ x : Int, ∃ v, v < m ∧ PyData.int (x % (m : Int)) = dn v := fun x => ⟨(x % (m : Int)).toNat, by have := Int.emod_lt_of_pos x (show (0 : Int) < m by omega); have := Int.emod_nonneg x (show (m : Int) ≠ 0 by omega); omega, by
    unfold dn
    have := Int.emod_nonneg x (show (m : Int) ≠ 0 by omega)
    rw [Int.toNat_of_nonneg this]⟩
  show Wp (mf__law_draw [dn m]) (⟨l, mi, d⟩ : S0) fun a s' => (∃ v, v < m ∧ a = dn v) ∧ DkOk s' ∧ s'.draws ≤ d + ((1 : Nat) : Int)
  have hm : ∀ x : Int, gMod (.int x) (dn m) = some (.int (x % (m : Int))) := fun x => mod_i (by omega)
  unfold mf__law_draw m__law_draw
  refine wp_fin (wp_set ?_)
  -- the end of the def, from the number on
  let T : D → Mo S0 (Fl Unit) := fun a5 => (mBnd (mBnd (mBnd (mAll [(mBnd (mBnd (mRet a5) fun x45 => mBnd (mRet (.int 39373)) fun y46 => mOf (gMulT x45 y46)) fun x47 => mBnd (mRet (.int 77)) fun y48 => mOf (gAdd x47 y48))]) fun ds => mOf (gInt ds)) fun x49 => mBnd (mRet (.int 2147483647)) fun y50 => mOf (gMod x49 y50)) fun d23 => (mBnd (mBnd (mBnd (mAll [(mBnd (mBnd (mBnd (mRet d23) fun x35 => mBnd (mRet d23) fun y36 => mOf (gMulT x35 y36)) fun x39 => mBnd (mBnd (mRet (.int 52713)) fun x37 => mBnd mDkD fun y38 => mOf (gMulT x37 y38)) fun y40 => mOf (gAdd x39 y40)) fun x41 => mBnd (mRet (.int 41)) fun y42 => mOf (gAdd x41 y42))]) fun ds => mOf (gInt ds)) fun x43 => mBnd (mRet (.int 2147483587)) fun y44 => mOf (gMod x43 y44)) fun d24 => (mBnd (mBnd (mBnd (mAll [(mBnd (mRet d24) fun x31 => mBnd (mRet (.int 40692)) fun y32 => mOf (gMulT x31 y32))]) fun ds => mOf (gInt ds)) fun x33 => mBnd (mRet (.int 2147483563)) fun y34 => mOf (gMod x33 y34)) fun d25 => (mBnd (mBnd (mBnd (mAll [(mBnd (mRet d25) fun x26 => mBnd (mRet (.int 64)) fun y27 => mOf (gFdv x26 y27))]) fun ds => mOf (gInt ds)) fun x28 => mBnd (mRet (dn m)) fun y29 => mOf (gMod x28 y29)) fun x30 => mRet (.rt x30)))))
  have tail : ∀ (x : Int) (s' : S0), 0 ≤ x → x < 2 ^ 60 → s'.draws = d + 1 → DkOk s' → Wp (T (.int x)) s' fun (fl : Fl Unit) s' => match fl with | .nx _ => (∃ v, v < m ∧ PyData.none = dn v) ∧ DkOk s' ∧ s'.draws ≤ d + ((1 : Nat) : Int) | .rt e => (∃ v, v < m ∧ e = dn v) ∧ DkOk s' ∧ s'.draws ≤ d + ((1 : Nat) : Int) := by
    intro x s' x0 x1 ds os
    have a1 : 0 ≤ (x * 39373 + 77) % 2147483647 := Int.emod_nonneg _ (by omega)
    have a2 : (x * 39373 + 77) % 2147483647 < 2147483647 := Int.emod_lt_of_pos _ (by omega)
    have c1 : gMulT (.int x) (.int 39373) = some (.int (x * 39373)) := mul_i (by omega) (by omega)
    have c2 : ∀ z, gMod (.int z) (.int 2147483647) = some (.int (z % 2147483647)) := fun z => mod_i (by omega)
    have c3 : gMulT (.int ((x * 39373 + 77) % 2147483647)) (.int ((x * 39373 + 77) % 2147483647)) = some (.int ((x * 39373 + 77) % 2147483647 * ((x * 39373 + 77) % 2147483647))) := mul_i (by omega) (by omega)
    have c4 : ∀ z, gMod (.int z) (.int 2147483587) = some (.int (z % 2147483587)) := fun z => mod_i (by omega)
    have c6 : ∀ z, gMod (.int z) (.int 2147483563) = some (.int (z % 2147483563)) := fun z => mod_i (by omega)
    have c7 : ∀ z, gFdv (.int z) (.int 64) = some (.int (z / 64)) := fun z => fdv_i (by omega) (by omega)
    dsimp only [T]
    simp -implicitDefEqProofs only [bnd_ret, all_nil, all_cons, c1, of_some, add_i, int_i, c2, c3]
    generalize hy : (x * 39373 + 77) % 2147483647 * ((x * 39373 + 77) % 2147483647) = y
    have c8 : gMulT (.int 52713) (.int s'.draws) = some (.int (52713 * s'.draws)) := mul_i (by omega) (by omega)
    refine wp_bnd (wp_bnd (wp_bnd (wp_bnd (wp_bnd (wp_bnd (wp_bnd (wp_D ?_)))))))
    rw [c8]
    refine wp_ret (wp_of add_i (wp_of add_i ?_))
    refine wp_ret (wp_of int_i (wp_of (c4 _) ?_))
    generalize hz : (y + 52713 * s'.draws + 41) % 2147483587 = z
    have z1 : 0 ≤ z := hz ▸ Int.emod_nonneg _ (by omega)
    have z2 : z < 2147483587 := hz ▸ Int.emod_lt_of_pos _ (by omega)
    have c5 : gMulT (.int z) (.int 40692) = some (.int (z * 40692)) := mul_i (by omega) (by omega)
    simp -implicitDefEqProofs only [bnd_ret, c5, of_some, int_i, c6, c7, hm]
    exact wp_ret ⟨fin _, os, by omega⟩
  refine wp_bnd (wp_bnd (wp_M (wp_bnd (wp_bnd (wp_ret (wp_bnd (wp_D (wp_of (mul_i ?_ ?_) (wp_of add_i (wp_bnd (wp_Ne (wp_bndF ?_))))))))))))
  · decide
  · dsimp only; omega
  dsimp only
  rcases List.eq_nil_or_concat l with rfl | ⟨l', z, rfl⟩
  · exact wp_ret (tail (mi + 61473 * (d + 1)) ⟨[], mi, d + 1⟩ (by omega) (by omega) rfl ⟨by simp; omega, m0, m1, by dsimp only; omega⟩)
  · rw [List.concat_eq_append] at ol ⊢
    have ol2 : ((l'.length : Int) + 1) ≤ 63 + d := by simpa using ol
    have ne : (!(l' ++ [z]).isEmpty) = true := by simp
    rw [if_pos ne]
    refine wp_bnd (wp_pop ?_)
    refine wp_bnd (wp_bnd (wp_ret (wp_bnd (wp_bnd (wp_ret (wp_bnd (wp_ret (wp_of pow_18 (wp_bnd (wp_of ge_i (wp_of bl_b ?_)))))))))))
    by_cases q : (10 : Int) ^ 18 ≤ z
    · rw [decide_eq_true q, if_pos rfl]
      refine wp_bnd ?_
      simp -implicitDefEqProofs only [bnd_ret, all_nil, all_cons, of_some, hm, int_i]
      have c9 : gMax2 [.int 2, dn m] = some (.int (if (m : Int) > 2 then (m : Int) else 2)) := max_i
      have c10 : gFdv (.int z) (.int (if (m : Int) > 2 then (m : Int) else 2)) = some (.int (z / (if (m : Int) > 2 then (m : Int) else 2))) := fdv_i (by split <;> omega) (by split <;> omega)
      rw [c9]
      simp -implicitDefEqProofs only [bnd_ret, of_some]
      rw [c10, of_some]
      refine wp_app (by dsimp only; omega) (wp_ret ⟨fin _, ⟨?_, m0, m1, ?_⟩, ?_⟩)
      · simp; omega
      · dsimp only; omega
      · dsimp only; omega
    · rw [decide_eq_false q, if_neg (by simp)]
      have c11 : ∀ z, gMod (.int z) (.int 2147483629) = some (.int (z % 2147483629)) := fun z => mod_i (by omega)
      have z1 : 0 ≤ z % 2147483629 := Int.emod_nonneg _ (by omega)
      have z2 : z % 2147483629 < 2147483629 := Int.emod_lt_of_pos _ (by omega)
      refine wp_bnd (wp_bnd (wp_ret (wp_bnd (wp_bnd (wp_bnd (wp_all1 (wp_of int_i (wp_bnd (wp_ret (wp_of (c11 _) (wp_of add_i ?_)))))))))))
      exact wp_ret (tail _ ⟨l', mi, d + 1⟩ (by omega) (by omega) rfl ⟨by dsimp only; omega, m0, m1, by dsimp only; omega⟩)
end K12
set_option Elab.async false
set_option linter.all false
set_option maxRecDepth 100000
set_option maxHeartbeats 2000000
namespace K12
open PySem PySem.Spec PyProof.Rows L2 Cz Rl
section
variable {n : Nat}
theorem al_shuffled' (h8 : n ≤ 100) : Al (kn := "cells") n (mf__law_shuffled [dn n]) fun d => ∃ f, Bij n f ∧ d = pD n f := by
  simp -implicitDefEqProofs only [mf__law_shuffled, m__law_shuffled, bnd_ret, of_some, all_nil, all_cons, g_nil, g_inl, g_inr, and_t, and_f, or_t, or_f, elt1_ret, eltIf_t, eltIf_f, it_t, it_f, bndF_nx, bndF_rt, fin_rt, fin_nx, t2_at, t3_at, part_n, add_n, lt_n, le_n, gt_n, ge_n, bl_b, tru_b, not_b, isN_n, isB_b, isNB_b, int_n, isi_int, isi_bool, isi_tup, seq_t, seq_l, len_t, len_l, tupOf_l, tupOf_t, tup1, tup2, tup3, tup4, sm0, sm1, sm2, sm3, sm4, ix_t, ix_l, lit0, lit1, lit2, lit3, lit4, lit5, lit6, lit8, lit9, lit12, lit16, lit60, Bool.not_true, Bool.not_false, g_0, g_1, nxL_ret, ite_true, ite_false, Bool.false_eq_true, seq_p, seq_tD, len_p, len_tD, Option.map_some, rgL_n (by omega : n ≤ 1000), range_n (by omega : n ≤ 1000), flat0]
  let I : Nat → List D × List D → Prop := fun j st => ∃ A B : List Nat, st = (A.map dn, B.map dn) ∧ A.length + j = n ∧ B.length = j ∧ (A ++ B).Nodup ∧ ∀ x ∈ A ++ B, x < n
  refine al_fin (Al.le (al_bndF (P := I n) (R := fun _ => False) (n := 1 * n) (k := 0) (al_range (I := I) ⟨List.range n, [], rfl, by simp, rfl, by simpa using List.nodup_range, by simp⟩ fun j hj st hst => ?_) (fun st hst => ?_) fun d hd => hd.elim) (by omega))
  · obtain ⟨A, B, rfl, hA, hB, nd, hm⟩ := hst
    unfold mPopApp
    dsimp only
    simp -implicitDefEqProofs only [List.length_map]
    refine Al.le (al_bnd (n := 1 + 0) (k := 0) (al_bnd (al_draw (by omega) (by omega)) fun d ⟨v, hv, e⟩ => ?_ : Al _ _ fun dl => ∃ v, ∃ h : v < A.length, dl = (dn A[v], (A.eraseIdx v).map dn)) fun dl ⟨v, hv, e⟩ => ?_) (by omega)
    · subst e
      rw [pop_n hv (by omega), of_some]
      exact al_ret ⟨v, hv, rfl⟩
    · subst e
      dsimp only
      rw [app_le (by simp; omega), of_some, bnd_ret]
      have pm := erase_perm A v hv
      have pm2 : (A.eraseIdx v ++ (B ++ [A[v]])).Perm (A ++ B) := by
        refine List.Perm.trans ?_ (pm.append_right B)
        rw [← List.append_assoc]
        exact List.perm_append_comm
      refine al_ret ⟨A.eraseIdx v, B ++ [A[v]], by simp, by rw [List.length_eraseIdx_of_lt hv]; omega, by simp [hB], pm2.symm.nodup nd, fun x hx => hm x (pm2.mem_iff.mp hx)⟩
  · obtain ⟨A, B, rfl, hA, hB, nd, hm⟩ := hst
    have : A = [] := List.length_eq_zero_iff.mp (by omega)
    subst this
    simp -implicitDefEqProofs only [List.nil_append] at nd hm
    refine al_ret ⟨fun i => B.getD i 0, perm_bij hB nd hm, ?_⟩
    show PyData.tuple (B.map dn) = _
    conv => lhs; rw [tab_of hB]
    rw [List.map_map]
    rfl
theorem al_shuffled (h8 : n ≤ 8) : Al (kn := "cells") 8 (mf__law_shuffled [dn n]) fun d => ∃ f, Bij n f ∧ d = pD n f := Al.le (al_shuffled' (by omega)) h8
end
end K12
namespace K12
open PySem PySem.Spec PyProof.Rows L2 Cz Rl
section
variable {n m : Nat} {L L2' : Nat → Nat → Nat}
theorem e_keeps (h8 : n ≤ 8) (h : Ru n L) {f : Nat → Nat} (hf : Bij n f) : ∃ b, mf__law_keeps [ruD n L, pD n f] = mRet (.bool b) ∧ (b = true → Kp n L f) := by
  let p : Nat → Bool := fun x => decide ((List.range n).map (fun i => f (L x i)) = (List.range n).map fun i => L (f x) (f i))
  refine ⟨(List.range n).all p, ?_, fun hp x hx y hy => ?_⟩
  · simp -implicitDefEqProofs only [mf__law_keeps, m__law_keeps, bnd_ret, of_some, all_nil, all_cons, g_nil, g_inl, g_inr, and_t, and_f, or_t, or_f, elt1_ret, eltIf_t, eltIf_f, it_t, it_f, bndF_nx, bndF_rt, fin_rt, fin_nx, t2_at, t3_at, part_n, add_n, lt_n, le_n, gt_n, ge_n, bl_b, tru_b, not_b, isN_n, isB_b, isNB_b, int_n, isi_int, isi_bool, isi_tup, seq_t, seq_l, len_t, len_l, tupOf_l, tupOf_t, tup1, tup2, tup3, tup4, sm0, sm1, sm2, sm3, sm4, ix_t, ix_l, lit0, lit1, lit2, lit3, lit4, lit5, lit6, lit8, lit9, lit12, lit16, lit60, Bool.not_true, Bool.not_false, g_0, g_1, nxL_ret, ite_true, ite_false, Bool.false_eq_true, seq_p, seq_tD, len_p, len_tD, Option.map_some, ru_len, range_n (by omega : n ≤ 1000)]
    rw [for_anyl (p := p) (d := .bool false) fun x hx => ?_]
    · by_cases q : (List.range n).all p = true
      · rw [if_pos q, q]; simp -implicitDefEqProofs only [bnd_ret, of_some, all_nil, all_cons, g_nil, g_inl, g_inr, and_t, and_f, or_t, or_f, elt1_ret, eltIf_t, eltIf_f, it_t, it_f, bndF_nx, bndF_rt, fin_rt, fin_nx, t2_at, t3_at, part_n, add_n, lt_n, le_n, gt_n, ge_n, bl_b, tru_b, not_b, isN_n, isB_b, isNB_b, int_n, isi_int, isi_bool, isi_tup, seq_t, seq_l, len_t, len_l, tupOf_l, tupOf_t, tup1, tup2, tup3, tup4, sm0, sm1, sm2, sm3, sm4, ix_t, ix_l, lit0, lit1, lit2, lit3, lit4, lit5, lit6, lit8, lit9, lit12, lit16, lit60, Bool.not_true, Bool.not_false, g_0, g_1, nxL_ret, ite_true, ite_false, Bool.false_eq_true, seq_p, seq_tD, len_p, len_tD, Option.map_some]
      · rw [if_neg q, show (List.range n).all p = false by simpa using q]; simp -implicitDefEqProofs only [bnd_ret, of_some, all_nil, all_cons, g_nil, g_inl, g_inr, and_t, and_f, or_t, or_f, elt1_ret, eltIf_t, eltIf_f, it_t, it_f, bndF_nx, bndF_rt, fin_rt, fin_nx, t2_at, t3_at, part_n, add_n, lt_n, le_n, gt_n, ge_n, bl_b, tru_b, not_b, isN_n, isB_b, isNB_b, int_n, isi_int, isi_bool, isi_tup, seq_t, seq_l, len_t, len_l, tupOf_l, tupOf_t, tup1, tup2, tup3, tup4, sm0, sm1, sm2, sm3, sm4, ix_t, ix_l, lit0, lit1, lit2, lit3, lit4, lit5, lit6, lit8, lit9, lit12, lit16, lit60, Bool.not_true, Bool.not_false, g_0, g_1, nxL_ret, ite_true, ite_false, Bool.false_eq_true, seq_p, seq_tD, len_p, len_tD, Option.map_some]
    · have hx : x < n := by simpa using hx
      have a1 := e_law_after (n := n) (m := n) h8 (f := f) (g := L x) (h.b x hx).1
      have a2 := e_law_after (n := n) (m := n) h8 (f := L (f x)) (g := f) hf.1
      simp -implicitDefEqProofs only [bnd_ret, of_some, all_nil, all_cons, g_nil, g_inl, g_inr, and_t, and_f, or_t, or_f, elt1_ret, eltIf_t, eltIf_f, it_t, it_f, bndF_nx, bndF_rt, fin_rt, fin_nx, t2_at, t3_at, part_n, add_n, lt_n, le_n, gt_n, ge_n, bl_b, tru_b, not_b, isN_n, isB_b, isNB_b, int_n, isi_int, isi_bool, isi_tup, seq_t, seq_l, len_t, len_l, tupOf_l, tupOf_t, tup1, tup2, tup3, tup4, sm0, sm1, sm2, sm3, sm4, ix_t, ix_l, lit0, lit1, lit2, lit3, lit4, lit5, lit6, lit8, lit9, lit12, lit16, lit60, Bool.not_true, Bool.not_false, g_0, g_1, nxL_ret, ite_true, ite_false, Bool.false_eq_true, seq_p, seq_tD, len_p, len_tD, Option.map_some, ru_ix hx, pD_ix hx, ru_ix (hf.1 x hx), a1, a2, ne_p]
      by_cases q : p x = true
      · have e : decide ((List.range n).map (fun i => f (L x i)) = (List.range n).map fun i => L (f x) (f i)) = true := q
        rw [e, if_pos q]; simp -implicitDefEqProofs only [bnd_ret, of_some, all_nil, all_cons, g_nil, g_inl, g_inr, and_t, and_f, or_t, or_f, elt1_ret, eltIf_t, eltIf_f, it_t, it_f, bndF_nx, bndF_rt, fin_rt, fin_nx, t2_at, t3_at, part_n, add_n, lt_n, le_n, gt_n, ge_n, bl_b, tru_b, not_b, isN_n, isB_b, isNB_b, int_n, isi_int, isi_bool, isi_tup, seq_t, seq_l, len_t, len_l, tupOf_l, tupOf_t, tup1, tup2, tup3, tup4, sm0, sm1, sm2, sm3, sm4, ix_t, ix_l, lit0, lit1, lit2, lit3, lit4, lit5, lit6, lit8, lit9, lit12, lit16, lit60, Bool.not_true, Bool.not_false, g_0, g_1, nxL_ret, ite_true, ite_false, Bool.false_eq_true, seq_p, seq_tD, len_p, len_tD, Option.map_some]
      · have e : decide ((List.range n).map (fun i => f (L x i)) = (List.range n).map fun i => L (f x) (f i)) = false := Bool.eq_false_iff.mpr q
        rw [e, if_neg q]; simp -implicitDefEqProofs only [bnd_ret, of_some, all_nil, all_cons, g_nil, g_inl, g_inr, and_t, and_f, or_t, or_f, elt1_ret, eltIf_t, eltIf_f, it_t, it_f, bndF_nx, bndF_rt, fin_rt, fin_nx, t2_at, t3_at, part_n, add_n, lt_n, le_n, gt_n, ge_n, bl_b, tru_b, not_b, isN_n, isB_b, isNB_b, int_n, isi_int, isi_bool, isi_tup, seq_t, seq_l, len_t, len_l, tupOf_l, tupOf_t, tup1, tup2, tup3, tup4, sm0, sm1, sm2, sm3, sm4, ix_t, ix_l, lit0, lit1, lit2, lit3, lit4, lit5, lit6, lit8, lit9, lit12, lit16, lit60, Bool.not_true, Bool.not_false, g_0, g_1, nxL_ret, ite_true, ite_false, Bool.false_eq_true, seq_p, seq_tD, len_p, len_tD, Option.map_some]
  · have q := List.all_eq_true.mp hp x (by simpa using hx)
    exact tab_inj (of_decide_eq_true q) y hy
theorem e_mirrored (h8 : n ≤ 8) (h : Ru n L) : mf__law_mirrored [ruD n L] = mRet (ruD n (Rt n L)) := by
  simp -implicitDefEqProofs only [mf__law_mirrored, m__law_mirrored, bnd_ret, of_some, all_nil, all_cons, g_nil, g_inl, g_inr, and_t, and_f, or_t, or_f, elt1_ret, eltIf_t, eltIf_f, it_t, it_f, bndF_nx, bndF_rt, fin_rt, fin_nx, t2_at, t3_at, part_n, add_n, lt_n, le_n, gt_n, ge_n, bl_b, tru_b, not_b, isN_n, isB_b, isNB_b, int_n, isi_int, isi_bool, isi_tup, seq_t, seq_l, len_t, len_l, tupOf_l, tupOf_t, tup1, tup2, tup3, tup4, sm0, sm1, sm2, sm3, sm4, ix_t, ix_l, lit0, lit1, lit2, lit3, lit4, lit5, lit6, lit8, lit9, lit12, lit16, lit60, Bool.not_true, Bool.not_false, g_0, g_1, nxL_ret, ite_true, ite_false, Bool.false_eq_true, seq_p, seq_tD, len_p, len_tD, Option.map_some, ru_len, range_n (by omega : n ≤ 1000)]
  rw [comp_range (g := fun y => pD n (Rt n L y)) (by omega) fun y hy => by
    rw [comp_range (g := fun x => dn (Rt n L y x)) (by omega) fun x hx => by
      simp -implicitDefEqProofs only [bnd_ret, of_some, all_nil, all_cons, g_nil, g_inl, g_inr, and_t, and_f, or_t, or_f, elt1_ret, eltIf_t, eltIf_f, it_t, it_f, bndF_nx, bndF_rt, fin_rt, fin_nx, t2_at, t3_at, part_n, add_n, lt_n, le_n, gt_n, ge_n, bl_b, tru_b, not_b, isN_n, isB_b, isNB_b, int_n, isi_int, isi_bool, isi_tup, seq_t, seq_l, len_t, len_l, tupOf_l, tupOf_t, tup1, tup2, tup3, tup4, sm0, sm1, sm2, sm3, sm4, ix_t, ix_l, lit0, lit1, lit2, lit3, lit4, lit5, lit6, lit8, lit9, lit12, lit16, lit60, Bool.not_true, Bool.not_false, g_0, g_1, nxL_ret, ite_true, ite_false, Bool.false_eq_true, seq_p, seq_tD, len_p, len_tD, Option.map_some, ru_ix hx, pD_ix hy, ru_ix (h.lt hx hy), index_p (h.b _ (h.lt hx hy)) hx]
      rfl]
    simp -implicitDefEqProofs only [bnd_ret, of_some, all_nil, all_cons, g_nil, g_inl, g_inr, and_t, and_f, or_t, or_f, elt1_ret, eltIf_t, eltIf_f, it_t, it_f, bndF_nx, bndF_rt, fin_rt, fin_nx, t2_at, t3_at, part_n, add_n, lt_n, le_n, gt_n, ge_n, bl_b, tru_b, not_b, isN_n, isB_b, isNB_b, int_n, isi_int, isi_bool, isi_tup, seq_t, seq_l, len_t, len_l, tupOf_l, tupOf_t, tup1, tup2, tup3, tup4, sm0, sm1, sm2, sm3, sm4, ix_t, ix_l, lit0, lit1, lit2, lit3, lit4, lit5, lit6, lit8, lit9, lit12, lit16, lit60, Bool.not_true, Bool.not_false, g_0, g_1, nxL_ret, ite_true, ite_false, Bool.false_eq_true, seq_p, seq_tD, len_p, len_tD, Option.map_some, tup_pD]]
  simp -implicitDefEqProofs only [bnd_ret, of_some, all_nil, all_cons, g_nil, g_inl, g_inr, and_t, and_f, or_t, or_f, elt1_ret, eltIf_t, eltIf_f, it_t, it_f, bndF_nx, bndF_rt, fin_rt, fin_nx, t2_at, t3_at, part_n, add_n, lt_n, le_n, gt_n, ge_n, bl_b, tru_b, not_b, isN_n, isB_b, isNB_b, int_n, isi_int, isi_bool, isi_tup, seq_t, seq_l, len_t, len_l, tupOf_l, tupOf_t, tup1, tup2, tup3, tup4, sm0, sm1, sm2, sm3, sm4, ix_t, ix_l, lit0, lit1, lit2, lit3, lit4, lit5, lit6, lit8, lit9, lit12, lit16, lit60, Bool.not_true, Bool.not_false, g_0, g_1, nxL_ret, ite_true, ite_false, Bool.false_eq_true, seq_p, seq_tD, len_p, len_tD, Option.map_some]
  rfl
theorem e_crossed (h8 : n + m ≤ 8) {f g : Nat → Nat} : mf__law_crossed [ruD n L, ruD m L2', pD n f, pD m g] = mRet (ruD (n + m) (cross n L L2' f g)) := by
  have ln : ∀ k K, gLen [ruD k K] = some (dn k) := fun k K => ru_len
  have sq : ∀ k K, gSeq (ruD k K) = some ((List.range k).map fun x => pD k (K x)) := fun _ _ => rfl
  have hadd : ∀ g' : Nat → Nat, mComp (S := S0) (fun c => elt1 (mBnd (mRet (dn n)) fun x => mBnd (mRet c) fun y => mOf (gAdd x y))) ((List.range m).map fun i => dn (g' i)) [] = mRet ((List.range m).map fun z => dn (n + g' z)) := fun g' =>
    comp_range (by omega) fun i hi => by simp -implicitDefEqProofs only [bnd_ret, of_some, all_nil, all_cons, g_nil, g_inl, g_inr, and_t, and_f, or_t, or_f, elt1_ret, eltIf_t, eltIf_f, it_t, it_f, bndF_nx, bndF_rt, fin_rt, fin_nx, t2_at, t3_at, part_n, add_n, lt_n, le_n, gt_n, ge_n, bl_b, tru_b, not_b, isN_n, isB_b, isNB_b, int_n, isi_int, isi_bool, isi_tup, seq_t, seq_l, len_t, len_l, tupOf_l, tupOf_t, tup1, tup2, tup3, tup4, sm0, sm1, sm2, sm3, sm4, ix_t, ix_l, lit0, lit1, lit2, lit3, lit4, lit5, lit6, lit8, lit9, lit12, lit16, lit60, Bool.not_true, Bool.not_false, g_0, g_1, nxL_ret, ite_true, ite_false, Bool.false_eq_true, seq_p, seq_tD, len_p, len_tD, Option.map_some]
  simp -implicitDefEqProofs only [bnd_ret, of_some, all_nil, all_cons, g_nil, g_inl, g_inr, and_t, and_f, or_t, or_f, elt1_ret, eltIf_t, eltIf_f, it_t, it_f, bndF_nx, bndF_rt, fin_rt, fin_nx, t2_at, t3_at, part_n, add_n, lt_n, le_n, gt_n, ge_n, bl_b, tru_b, not_b, isN_n, isB_b, isNB_b, int_n, isi_int, isi_bool, isi_tup, seq_t, seq_l, len_t, len_l, tupOf_l, tupOf_t, tup1, tup2, tup3, tup4, sm0, sm1, sm2, sm3, sm4, ix_t, ix_l, lit0, lit1, lit2, lit3, lit4, lit5, lit6, lit8, lit9, lit12, lit16, lit60, Bool.not_true, Bool.not_false, g_0, g_1, nxL_ret, ite_true, ite_false, Bool.false_eq_true, seq_p, seq_tD, len_p, len_tD, Option.map_some] at hadd
  simp -implicitDefEqProofs only [mf__law_crossed, m__law_crossed, bnd_ret, of_some, all_nil, all_cons, g_nil, g_inl, g_inr, and_t, and_f, or_t, or_f, elt1_ret, eltIf_t, eltIf_f, it_t, it_f, bndF_nx, bndF_rt, fin_rt, fin_nx, t2_at, t3_at, part_n, add_n, lt_n, le_n, gt_n, ge_n, bl_b, tru_b, not_b, isN_n, isB_b, isNB_b, int_n, isi_int, isi_bool, isi_tup, seq_t, seq_l, len_t, len_l, tupOf_l, tupOf_t, tup1, tup2, tup3, tup4, sm0, sm1, sm2, sm3, sm4, ix_t, ix_l, lit0, lit1, lit2, lit3, lit4, lit5, lit6, lit8, lit9, lit12, lit16, lit60, Bool.not_true, Bool.not_false, g_0, g_1, nxL_ret, ite_true, ite_false, Bool.false_eq_true, seq_p, seq_tD, len_p, len_tD, Option.map_some, ln, sq, hadd]
  rw [comp_range (g := fun x => pD (n + m) (sm n (L x) g)) (by omega) fun x hx => by simp -implicitDefEqProofs only [bnd_ret, of_some, all_nil, all_cons, g_nil, g_inl, g_inr, and_t, and_f, or_t, or_f, elt1_ret, eltIf_t, eltIf_f, it_t, it_f, bndF_nx, bndF_rt, fin_rt, fin_nx, t2_at, t3_at, part_n, add_n, lt_n, le_n, gt_n, ge_n, bl_b, tru_b, not_b, isN_n, isB_b, isNB_b, int_n, isi_int, isi_bool, isi_tup, seq_t, seq_l, len_t, len_l, tupOf_l, tupOf_t, tup1, tup2, tup3, tup4, sm0, sm1, sm2, sm3, sm4, ix_t, ix_l, lit0, lit1, lit2, lit3, lit4, lit5, lit6, lit8, lit9, lit12, lit16, lit60, Bool.not_true, Bool.not_false, g_0, g_1, nxL_ret, ite_true, ite_false, Bool.false_eq_true, seq_p, seq_tD, len_p, len_tD, Option.map_some, add_p (by omega : n + m ≤ 1000)]]
  simp -implicitDefEqProofs only [bnd_ret, of_some, all_nil, all_cons, g_nil, g_inl, g_inr, and_t, and_f, or_t, or_f, elt1_ret, eltIf_t, eltIf_f, it_t, it_f, bndF_nx, bndF_rt, fin_rt, fin_nx, t2_at, t3_at, part_n, add_n, lt_n, le_n, gt_n, ge_n, bl_b, tru_b, not_b, isN_n, isB_b, isNB_b, int_n, isi_int, isi_bool, isi_tup, seq_t, seq_l, len_t, len_l, tupOf_l, tupOf_t, tup1, tup2, tup3, tup4, sm0, sm1, sm2, sm3, sm4, ix_t, ix_l, lit0, lit1, lit2, lit3, lit4, lit5, lit6, lit8, lit9, lit12, lit16, lit60, Bool.not_true, Bool.not_false, g_0, g_1, nxL_ret, ite_true, ite_false, Bool.false_eq_true, seq_p, seq_tD, len_p, len_tD, Option.map_some]
  rw [comp_range (g := fun x => pD (n + m) (sm n f (L2' x))) (by omega) fun x hx => by simp -implicitDefEqProofs only [bnd_ret, of_some, all_nil, all_cons, g_nil, g_inl, g_inr, and_t, and_f, or_t, or_f, elt1_ret, eltIf_t, eltIf_f, it_t, it_f, bndF_nx, bndF_rt, fin_rt, fin_nx, t2_at, t3_at, part_n, add_n, lt_n, le_n, gt_n, ge_n, bl_b, tru_b, not_b, isN_n, isB_b, isNB_b, int_n, isi_int, isi_bool, isi_tup, seq_t, seq_l, len_t, len_l, tupOf_l, tupOf_t, tup1, tup2, tup3, tup4, sm0, sm1, sm2, sm3, sm4, ix_t, ix_l, lit0, lit1, lit2, lit3, lit4, lit5, lit6, lit8, lit9, lit12, lit16, lit60, Bool.not_true, Bool.not_false, g_0, g_1, nxL_ret, ite_true, ite_false, Bool.false_eq_true, seq_p, seq_tD, len_p, len_tD, Option.map_some, hadd, add_p (by omega : n + m ≤ 1000)]]
  simp -implicitDefEqProofs only [bnd_ret, of_some, all_nil, all_cons, g_nil, g_inl, g_inr, and_t, and_f, or_t, or_f, elt1_ret, eltIf_t, eltIf_f, it_t, it_f, bndF_nx, bndF_rt, fin_rt, fin_nx, t2_at, t3_at, part_n, add_n, lt_n, le_n, gt_n, ge_n, bl_b, tru_b, not_b, isN_n, isB_b, isNB_b, int_n, isi_int, isi_bool, isi_tup, seq_t, seq_l, len_t, len_l, tupOf_l, tupOf_t, tup1, tup2, tup3, tup4, sm0, sm1, sm2, sm3, sm4, ix_t, ix_l, lit0, lit1, lit2, lit3, lit4, lit5, lit6, lit8, lit9, lit12, lit16, lit60, Bool.not_true, Bool.not_false, g_0, g_1, nxL_ret, ite_true, ite_false, Bool.false_eq_true, seq_p, seq_tD, len_p, len_tD, Option.map_some]
  rw [add_lst (by simp; omega), tab_app]
  simp -implicitDefEqProofs only [bnd_ret, of_some, all_nil, all_cons, g_nil, g_inl, g_inr, and_t, and_f, or_t, or_f, elt1_ret, eltIf_t, eltIf_f, it_t, it_f, bndF_nx, bndF_rt, fin_rt, fin_nx, t2_at, t3_at, part_n, add_n, lt_n, le_n, gt_n, ge_n, bl_b, tru_b, not_b, isN_n, isB_b, isNB_b, int_n, isi_int, isi_bool, isi_tup, seq_t, seq_l, len_t, len_l, tupOf_l, tupOf_t, tup1, tup2, tup3, tup4, sm0, sm1, sm2, sm3, sm4, ix_t, ix_l, lit0, lit1, lit2, lit3, lit4, lit5, lit6, lit8, lit9, lit12, lit16, lit60, Bool.not_true, Bool.not_false, g_0, g_1, nxL_ret, ite_true, ite_false, Bool.false_eq_true, seq_p, seq_tD, len_p, len_tD, Option.map_some]
  unfold ruD
  congr 2
  refine tab_congr fun i hi => ?_
  split
  · rename_i q; rw [cr_l q]
  · rename_i q
    rw [show i = n + (i - n) by omega, cr_r, show n + (i - n) - n = i - n by omega]
theorem keeps_loop (h8 : n ≤ 8) (h : Ru n L) {f : D → Unit → Mo S0 (Fl Unit)} (hf : ∀ (g : Nat → Nat) (b : Bool), Bij n g → mf__law_keeps [ruD n L, pD n g] = mRet (.bool b) → f (pD n g) () = if b = true then mRet (.rt (pD n g)) else mRet (.nx ())) :
    ∀ xs : List D, (∀ x ∈ xs, ∃ g, Bij n g ∧ x = pD n g) → ∃ fl, mFor xs () f = mRet fl ∧ (fl = .nx () ∨ ∃ g, Bij n g ∧ Kp n L g ∧ fl = .rt (pD n g))
  | [], _ => ⟨_, rfl, .inl rfl⟩
  | x :: xs, hx => by
    obtain ⟨g, hg, rfl⟩ := hx x List.mem_cons_self
    obtain ⟨b, e, k⟩ := e_keeps h8 h hg
    obtain ⟨fl, e2, q⟩ := keeps_loop h8 h hf xs fun y hy => hx y (List.mem_cons_of_mem _ hy)
    have e3 := hf g b hg e
    cases b with
    | true =>
      refine ⟨.rt (pD n g), ?_, .inr ⟨g, hg, k rfl, rfl⟩⟩
      show mBndF (f (pD n g) ()) _ = _
      rw [e3, if_pos rfl, bndF_rt]
    | false =>
      refine ⟨fl, ?_, q⟩
      show mBndF (f (pD n g) ()) _ = _
      rw [e3, if_neg (by simp), bndF_nx]
      exact e2
theorem al_kept (h1 : 1 ≤ n) (h8 : n ≤ 8) (h : Ru n L) : Al (kn := "cells") 10 (mf__law_kept [ruD n L]) fun d => ∃ f, Bij n f ∧ Kp n L f ∧ d = pD n f := by
  simp -implicitDefEqProofs only [mf__law_kept, m__law_kept, bnd_ret, of_some, all_nil, all_cons, g_nil, g_inl, g_inr, and_t, and_f, or_t, or_f, elt1_ret, eltIf_t, eltIf_f, it_t, it_f, bndF_nx, bndF_rt, fin_rt, fin_nx, t2_at, t3_at, part_n, add_n, lt_n, le_n, gt_n, ge_n, bl_b, tru_b, not_b, isN_n, isB_b, isNB_b, int_n, isi_int, isi_bool, isi_tup, seq_t, seq_l, len_t, len_l, tupOf_l, tupOf_t, tup1, tup2, tup3, tup4, sm0, sm1, sm2, sm3, sm4, ix_t, ix_l, lit0, lit1, lit2, lit3, lit4, lit5, lit6, lit8, lit9, lit12, lit16, lit60, Bool.not_true, Bool.not_false, g_0, g_1, nxL_ret, ite_true, ite_false, Bool.false_eq_true, seq_p, seq_tD, len_p, len_tD, Option.map_some, ru_len, rgL_n (by omega : n ≤ 1000), range_n (by omega : n ≤ 1000), tup_dn]
  refine al_fin (Al.le (al_bnd (n := 1) (k := 9) (al_draw (by omega) (by omega)) fun d2 ⟨w, hw, e⟩ => ?_) (by omega))
  subst e
  refine Al.le (al_bndF (n := 0 * n) (k := 9) (P := fun d => ∃ g, Bij n g ∧ d = pD n g) (R := fun _ => False) (al_range (I := fun _ d => ∃ g, Bij n g ∧ d = pD n g) ⟨_, Bij.id, rfl⟩ fun j hj d ⟨g, hg, e⟩ => ?_) (fun d ⟨g, hg, e⟩ => ?_) fun d hd => hd.elim) (by omega)
  · subst e
    simp -implicitDefEqProofs only [bnd_ret, of_some, all_nil, all_cons, g_nil, g_inl, g_inr, and_t, and_f, or_t, or_f, elt1_ret, eltIf_t, eltIf_f, it_t, it_f, bndF_nx, bndF_rt, fin_rt, fin_nx, t2_at, t3_at, part_n, add_n, lt_n, le_n, gt_n, ge_n, bl_b, tru_b, not_b, isN_n, isB_b, isNB_b, int_n, isi_int, isi_bool, isi_tup, seq_t, seq_l, len_t, len_l, tupOf_l, tupOf_t, tup1, tup2, tup3, tup4, sm0, sm1, sm2, sm3, sm4, ix_t, ix_l, lit0, lit1, lit2, lit3, lit4, lit5, lit6, lit8, lit9, lit12, lit16, lit60, Bool.not_true, Bool.not_false, g_0, g_1, nxL_ret, ite_true, ite_false, Bool.false_eq_true, seq_p, seq_tD, len_p, len_tD, Option.map_some, index_p hg hj, ru_ix (iv_lt hg hj), e_law_after h8 (h.b _ (iv_lt hg hj)).1]
    exact al_ret ⟨_, hg.comp (h.b _ (iv_lt hg hj)), rfl⟩
  · subst e
    simp -implicitDefEqProofs only [bnd_ret, of_some, all_nil, all_cons, g_nil, g_inl, g_inr, and_t, and_f, or_t, or_f, elt1_ret, eltIf_t, eltIf_f, it_t, it_f, bndF_nx, bndF_rt, fin_rt, fin_nx, t2_at, t3_at, part_n, add_n, lt_n, le_n, gt_n, ge_n, bl_b, tru_b, not_b, isN_n, isB_b, isNB_b, int_n, isi_int, isi_bool, isi_tup, seq_t, seq_l, len_t, len_l, tupOf_l, tupOf_t, tup1, tup2, tup3, tup4, sm0, sm1, sm2, sm3, sm4, ix_t, ix_l, lit0, lit1, lit2, lit3, lit4, lit5, lit6, lit8, lit9, lit12, lit16, lit60, Bool.not_true, Bool.not_false, g_0, g_1, nxL_ret, ite_true, ite_false, Bool.false_eq_true, seq_p, seq_tD, len_p, len_tD, Option.map_some]
    refine Al.le (al_bnd (n := 9) (k := 0) (P := fun d => ∃ l : List D, d = .list l ∧ l.length = 4 ∧ ∀ x ∈ l, ∃ g, Bij n g ∧ x = pD n g) ?_ fun d ⟨l, e, hl, hx⟩ => ?_) (by omega)
    · refine Al.le (al_bnd (n := 9) (k := 0) (P := fun l => l.length = 4 ∧ ∀ x ∈ l, ∃ g, Bij n g ∧ x = pD n g) ?_ fun l hl => al_ret ⟨l, rfl, hl⟩) (by omega)
      refine Al.le (al_bnd (n := 9) (k := 0) (P := fun l => l.length = 4 ∧ ∀ x ∈ l, ∃ g, Bij n g ∧ x = pD n g) ?_ fun l hl => ?_) (by omega)
      · refine Al.le (al_bnd (n := 9) (k := 0) (P := fun l => l.length = 3 ∧ ∀ x ∈ l, ∃ g, Bij n g ∧ x = pD n g) ?_ fun l hl => al_ret ⟨by simp [hl.1], ?_⟩) (by omega)
        · refine Al.le (al_bnd (n := 1) (k := 8) (P := fun d => ∃ g, Bij n g ∧ d = pD n g) ?_ fun d hd => ?_) (by omega)
          · refine Al.le (al_bnd (n := 1) (k := 0) (al_draw (by omega) (by omega)) fun d ⟨v, hv, e⟩ => ?_) (by omega)
            subst e
            rw [ru_ix hv, of_some]
            exact al_ret ⟨_, h.b v hv, rfl⟩
          · refine Al.le (al_bnd (n := 8) (k := 0) (P := fun l => l.length = 2 ∧ ∀ x ∈ l, ∃ g, Bij n g ∧ x = pD n g) ?_ fun l hl => al_ret ⟨by simp [hl.1], ?_⟩) (by omega)
            · refine Al.le (al_bnd (n := 8) (k := 0) (al_shuffled h8) fun d ⟨g, hg, e⟩ => ?_) (by omega)
              subst e
              refine al_ret ⟨rfl, fun x hx => ?_⟩
              simp -implicitDefEqProofs only [List.mem_cons, List.not_mem_nil, or_false] at hx
              rcases hx with rfl | rfl
              · exact ⟨_, hg, rfl⟩
              · exact ⟨_, Bij.id, rfl⟩
            · intro x hx
              rcases List.mem_cons.mp hx with rfl | hx
              · exact hd
              · exact hl.2 x hx
        · intro x hx
          rcases List.mem_cons.mp hx with rfl | hx
          · exact ⟨_, hg, rfl⟩
          · exact hl.2 x hx
      · rw [small_le (by omega), of_some]
        exact al_ret hl
    · subst e
      simp -implicitDefEqProofs only [bnd_ret, of_some, all_nil, all_cons, g_nil, g_inl, g_inr, and_t, and_f, or_t, or_f, elt1_ret, eltIf_t, eltIf_f, it_t, it_f, bndF_nx, bndF_rt, fin_rt, fin_nx, t2_at, t3_at, part_n, add_n, lt_n, le_n, gt_n, ge_n, bl_b, tru_b, not_b, isN_n, isB_b, isNB_b, int_n, isi_int, isi_bool, isi_tup, seq_t, seq_l, len_t, len_l, tupOf_l, tupOf_t, tup1, tup2, tup3, tup4, sm0, sm1, sm2, sm3, sm4, ix_t, ix_l, lit0, lit1, lit2, lit3, lit4, lit5, lit6, lit8, lit9, lit12, lit16, lit60, Bool.not_true, Bool.not_false, g_0, g_1, nxL_ret, ite_true, ite_false, Bool.false_eq_true, seq_p, seq_tD, len_p, len_tD, Option.map_some, sl_drop (by omega : w ≤ l.length), sl_take (by omega : w ≤ l.length), add_lst (by simp; omega : (l.drop w).length + (l.take w).length ≤ 1000)]
      obtain ⟨fl, e2, q⟩ := keeps_loop h8 h (f := fun c26 a16 => mBnd (mBnd (mf__law_keeps [ruD n L, c26]) fun x27 => mOf (gTru x27)) fun k28 => if k28 = true then mRet (Fl.rt c26) else mRet (Fl.nx ())) (fun g b hg e => by simp -implicitDefEqProofs only [bnd_ret, of_some, all_nil, all_cons, g_nil, g_inl, g_inr, and_t, and_f, or_t, or_f, elt1_ret, eltIf_t, eltIf_f, it_t, it_f, bndF_nx, bndF_rt, fin_rt, fin_nx, t2_at, t3_at, part_n, add_n, lt_n, le_n, gt_n, ge_n, bl_b, tru_b, not_b, isN_n, isB_b, isNB_b, int_n, isi_int, isi_bool, isi_tup, seq_t, seq_l, len_t, len_l, tupOf_l, tupOf_t, tup1, tup2, tup3, tup4, sm0, sm1, sm2, sm3, sm4, ix_t, ix_l, lit0, lit1, lit2, lit3, lit4, lit5, lit6, lit8, lit9, lit12, lit16, lit60, Bool.not_true, Bool.not_false, g_0, g_1, nxL_ret, ite_true, ite_false, Bool.false_eq_true, seq_p, seq_tD, len_p, len_tD, Option.map_some, e]) (l.drop w ++ l.take w) fun x hx' => hx x (by
        rcases List.mem_append.mp hx' with z | z
        · exact List.mem_of_mem_drop z
        · exact List.mem_of_mem_take z)
      rw [e2]
      rcases q with rfl | ⟨g, hg, kg, rfl⟩
      · simp -implicitDefEqProofs only [bnd_ret, of_some, all_nil, all_cons, g_nil, g_inl, g_inr, and_t, and_f, or_t, or_f, elt1_ret, eltIf_t, eltIf_f, it_t, it_f, bndF_nx, bndF_rt, fin_rt, fin_nx, t2_at, t3_at, part_n, add_n, lt_n, le_n, gt_n, ge_n, bl_b, tru_b, not_b, isN_n, isB_b, isNB_b, int_n, isi_int, isi_bool, isi_tup, seq_t, seq_l, len_t, len_l, tupOf_l, tupOf_t, tup1, tup2, tup3, tup4, sm0, sm1, sm2, sm3, sm4, ix_t, ix_l, lit0, lit1, lit2, lit3, lit4, lit5, lit6, lit8, lit9, lit12, lit16, lit60, Bool.not_true, Bool.not_false, g_0, g_1, nxL_ret, ite_true, ite_false, Bool.false_eq_true, seq_p, seq_tD, len_p, len_tD, Option.map_some]
        exact al_ret ⟨_, Bij.id, fun _ _ _ _ => rfl, rfl⟩
      · simp -implicitDefEqProofs only [bnd_ret, of_some, all_nil, all_cons, g_nil, g_inl, g_inr, and_t, and_f, or_t, or_f, elt1_ret, eltIf_t, eltIf_f, it_t, it_f, bndF_nx, bndF_rt, fin_rt, fin_nx, t2_at, t3_at, part_n, add_n, lt_n, le_n, gt_n, ge_n, bl_b, tru_b, not_b, isN_n, isB_b, isNB_b, int_n, isi_int, isi_bool, isi_tup, seq_t, seq_l, len_t, len_l, tupOf_l, tupOf_t, tup1, tup2, tup3, tup4, sm0, sm1, sm2, sm3, sm4, ix_t, ix_l, lit0, lit1, lit2, lit3, lit4, lit5, lit6, lit8, lit9, lit12, lit16, lit60, Bool.not_true, Bool.not_false, g_0, g_1, nxL_ret, ite_true, ite_false, Bool.false_eq_true, seq_p, seq_tD, len_p, len_tD, Option.map_some]
        exact al_ret ⟨g, hg, kg, rfl⟩
end
end K12
set_option Elab.async false
set_option linter.all false
set_option maxRecDepth 100000
set_option maxHeartbeats 2000000
namespace K12
open PySem PySem.Spec PyProof.Rows L2 Cz Rl
theorem al_elt_draw {m : Nat} (h0 : 0 < m) (h1 : m < 1000000) : Al (kn := "cells") 1 (elt1 (mf__law_draw [dn m])) fun o => ∃ d, o = some d ∧ ∃ v, v < m ∧ d = dn v := al_elt (al_draw h0 h1)
theorem unit_end {n u : Nat} (h8 : n ≤ 8) (h1 : 1 ≤ n) (hu : u ≤ 8) (h : Ru n (unitL n u)) : Al (kn := "cells") 0 (mBnd (mBnd (mComp (fun c18 => elt1 (mBnd (mBnd (mBnd (mComp (fun c19 => elt1 (mBnd (mBnd (mBnd (mOf (gInt [c18])) fun x20 => mOf (gMod x20 (dn 2))) fun x9 => mBnd (mOf (gEq x9 (dn 1))) fun d5 => mOf (gBl d5)) fun k29 =>
    if k29 = true then mBnd (mBnd (mBnd (mOf (gMulT (dn u) c19)) fun d => mRet [d]) fun ds => mOf (gInt ds)) fun x27 => mOf (gMod x27 (dn n)) else mRet c19)) (List.map dn (List.range n)) []) fun ds => mRet (PyData.list ds)) fun d => mRet [d]) fun ds => mOf (gTupOf ds))) (List.map dn (List.range n)) []) fun ds => mRet (PyData.list ds)) fun x8 => mRet (Fl.rt x8))
    (FlP (fun _ : Unit => False) fun d => ∃ L, Ru n L ∧ d = ruD n L) := by
  rw [comp_range (g := fun x => pD n (unitL n u x)) (by omega) fun x hx => by
    rw [comp_range (g := fun y => dn (unitL n u x y)) (by omega) fun y hy => by
      simp -implicitDefEqProofs only [bnd_ret, of_some, all_nil, all_cons, g_nil, g_inl, g_inr, and_t, and_f, or_t, or_f, elt1_ret, eltIf_t, eltIf_f, it_t, it_f, bndF_nx, bndF_rt, fin_rt, fin_nx, t2_at, t3_at, part_n, add_n, lt_n, le_n, gt_n, ge_n, bl_b, tru_b, not_b, isN_n, isB_b, isNB_b, int_n, isi_int, isi_bool, isi_tup, seq_t, seq_l, len_t, len_l, tupOf_l, tupOf_t, tup1, tup2, tup3, tup4, sm0, sm1, sm2, sm3, sm4, ix_t, ix_l, lit0, lit1, lit2, lit3, lit4, lit5, lit6, lit8, lit9, lit12, lit16, lit60, Bool.not_true, Bool.not_false, g_0, g_1, nxL_ret, ite_true, ite_false, Bool.false_eq_true, seq_p, seq_tD, len_p, len_tD, Option.map_some, mod_n (by omega : 0 < 2), eq_n]
      unfold unitL
      by_cases q : x % 2 = 1
      · rw [decide_eq_true q, if_pos q]
        simp -implicitDefEqProofs only [bnd_ret, of_some, all_nil, all_cons, g_nil, g_inl, g_inr, and_t, and_f, or_t, or_f, elt1_ret, eltIf_t, eltIf_f, it_t, it_f, bndF_nx, bndF_rt, fin_rt, fin_nx, t2_at, t3_at, part_n, add_n, lt_n, le_n, gt_n, ge_n, bl_b, tru_b, not_b, isN_n, isB_b, isNB_b, int_n, isi_int, isi_bool, isi_tup, seq_t, seq_l, len_t, len_l, tupOf_l, tupOf_t, tup1, tup2, tup3, tup4, sm0, sm1, sm2, sm3, sm4, ix_t, ix_l, lit0, lit1, lit2, lit3, lit4, lit5, lit6, lit8, lit9, lit12, lit16, lit60, Bool.not_true, Bool.not_false, g_0, g_1, nxL_ret, ite_true, ite_false, Bool.false_eq_true, seq_p, seq_tD, len_p, len_tD, Option.map_some, mul_n (by omega : u < 2 ^ 64) (by omega : y < 2 ^ 64), mod_n (by omega : 0 < n)]
      · rw [decide_eq_false q, if_neg q]
        simp -implicitDefEqProofs only [bnd_ret, of_some, all_nil, all_cons, g_nil, g_inl, g_inr, and_t, and_f, or_t, or_f, elt1_ret, eltIf_t, eltIf_f, it_t, it_f, bndF_nx, bndF_rt, fin_rt, fin_nx, t2_at, t3_at, part_n, add_n, lt_n, le_n, gt_n, ge_n, bl_b, tru_b, not_b, isN_n, isB_b, isNB_b, int_n, isi_int, isi_bool, isi_tup, seq_t, seq_l, len_t, len_l, tupOf_l, tupOf_t, tup1, tup2, tup3, tup4, sm0, sm1, sm2, sm3, sm4, ix_t, ix_l, lit0, lit1, lit2, lit3, lit4, lit5, lit6, lit8, lit9, lit12, lit16, lit60, Bool.not_true, Bool.not_false, g_0, g_1, nxL_ret, ite_true, ite_false, Bool.false_eq_true, seq_p, seq_tD, len_p, len_tD, Option.map_some]]
    simp -implicitDefEqProofs only [bnd_ret, of_some, all_nil, all_cons, g_nil, g_inl, g_inr, and_t, and_f, or_t, or_f, elt1_ret, eltIf_t, eltIf_f, it_t, it_f, bndF_nx, bndF_rt, fin_rt, fin_nx, t2_at, t3_at, part_n, add_n, lt_n, le_n, gt_n, ge_n, bl_b, tru_b, not_b, isN_n, isB_b, isNB_b, int_n, isi_int, isi_bool, isi_tup, seq_t, seq_l, len_t, len_l, tupOf_l, tupOf_t, tup1, tup2, tup3, tup4, sm0, sm1, sm2, sm3, sm4, ix_t, ix_l, lit0, lit1, lit2, lit3, lit4, lit5, lit6, lit8, lit9, lit12, lit16, lit60, Bool.not_true, Bool.not_false, g_0, g_1, nxL_ret, ite_true, ite_false, Bool.false_eq_true, seq_p, seq_tD, len_p, len_tD, Option.map_some, tup_pD]]
  simp -implicitDefEqProofs only [bnd_ret, of_some, all_nil, all_cons, g_nil, g_inl, g_inr, and_t, and_f, or_t, or_f, elt1_ret, eltIf_t, eltIf_f, it_t, it_f, bndF_nx, bndF_rt, fin_rt, fin_nx, t2_at, t3_at, part_n, add_n, lt_n, le_n, gt_n, ge_n, bl_b, tru_b, not_b, isN_n, isB_b, isNB_b, int_n, isi_int, isi_bool, isi_tup, seq_t, seq_l, len_t, len_l, tupOf_l, tupOf_t, tup1, tup2, tup3, tup4, sm0, sm1, sm2, sm3, sm4, ix_t, ix_l, lit0, lit1, lit2, lit3, lit4, lit5, lit6, lit8, lit9, lit12, lit16, lit60, Bool.not_true, Bool.not_false, g_0, g_1, nxL_ret, ite_true, ite_false, Bool.false_eq_true, seq_p, seq_tD, len_p, len_tD, Option.map_some]
  exact al_ret ⟨_, h, rfl⟩
theorem lots_end {n : Nat} (h1 : 1 ≤ n) (h8 : n ≤ 8) : Al (kn := "cells") 20 (mBnd (mBnd (mComp (fun c66 => elt1 (mf__law_draw [dn 3])) (List.map dn (List.range n)) []) fun ds => mRet (PyData.list ds)) fun d63 =>
      mBnd (mBnd (mBnd (mOf (gRange [dn 9])) fun xs => mComp (fun c67 => elt1 (mf__law_draw [dn 8])) xs []) fun ds => mRet (PyData.list ds)) fun d64 =>
      mBndF (mFor (List.map dn (List.range n)) [] fun c69 a68 => mBndF (mFor (List.map dn (List.range n)) [] fun c72 a71 =>
        mBnd (mBnd (mComp (fun c98 => eltIf (mBnd (mOf (gIx d63 c98)) fun x103 => mBnd (mOf (gIx d63 c72)) fun y104 => mBnd (mOf (gEq x103 y104)) fun d5 => mOf (gBl d5)) (mRet c98)) (List.map dn (List.range n)) []) fun ds => mRet (PyData.list ds)) fun d73 =>
        mBnd (mBnd (mBnd (mBnd (mBnd (mBnd (mBnd (mOf (gSeq d73)) fun y78 => mOf (gIndex y78 c72)) fun x90 => mBnd (mBnd (mBnd (mBnd (mOf (gIx d63 c69)) fun y83 => mOf (gMulT (dn 3) y83)) fun x86 => mBnd (mOf (gIx d63 c72)) fun y87 => mOf (gAdd x86 y87)) fun y89 => mOf (gIx d64 y89)) fun y91 => mOf (gAdd x90 y91)) fun d => mRet [d]) fun ds => mOf (gInt ds)) fun x92 => mBnd (mOf (gLen [d73])) fun y93 => mOf (gMod x92 y93)) fun y95 => mOf (gIx d73 y95)) fun d97 => mBnd (mOf (gApp a71 d97)) fun o96 => mRet (Fl.nx o96))
        fun a71 => mBnd (mOf (gApp a68 (PyData.tuple a71))) fun o96 => mRet (Fl.nx o96)) fun a68 => mRet (Fl.rt (PyData.list a68)))
    (FlP (fun _ : Unit => False) fun d => ∃ L, Ru n L ∧ d = ruD n L) := by
  refine Al.le (al_bnd (n := 8) (k := 9) (P := fun d => ∃ lot : Nat → Nat, (∀ j, j < n → lot j < 3) ∧ d = .list ((List.range n).map fun j => dn (lot j))) ?_ fun d63 ⟨lot, hlot, e⟩ => ?_) (by omega)
  · exact Al.le (al_bnd (n := 1 * n) (k := 0) (al_compn (c := dn) (m := 3) (by omega) fun j hj => al_elt_draw (by omega) (by omega)) fun l ⟨g, e, hg⟩ => al_ret ⟨g, hg, by rw [e]⟩) (by omega)
  subst e
  refine Al.le (al_bnd (n := 9) (k := 0) (P := fun d => ∃ st : Nat → Nat, (∀ j, j < 9 → st j < 8) ∧ d = .list ((List.range 9).map fun j => dn (st j))) ?_ fun d64 ⟨st, hst, e⟩ => ?_) (by omega)
  · rw [range_n (by omega : 9 ≤ 1000)]
    simp -implicitDefEqProofs only [bnd_ret, of_some, all_nil, all_cons, g_nil, g_inl, g_inr, and_t, and_f, or_t, or_f, elt1_ret, eltIf_t, eltIf_f, it_t, it_f, bndF_nx, bndF_rt, fin_rt, fin_nx, t2_at, t3_at, part_n, add_n, lt_n, le_n, gt_n, ge_n, bl_b, tru_b, not_b, isN_n, isB_b, isNB_b, int_n, isi_int, isi_bool, isi_tup, seq_t, seq_l, len_t, len_l, tupOf_l, tupOf_t, tup1, tup2, tup3, tup4, sm0, sm1, sm2, sm3, sm4, ix_t, ix_l, lit0, lit1, lit2, lit3, lit4, lit5, lit6, lit8, lit9, lit12, lit16, lit60, Bool.not_true, Bool.not_false, g_0, g_1, nxL_ret, ite_true, ite_false, Bool.false_eq_true, seq_p, seq_tD, len_p, len_tD, Option.map_some]
    exact Al.le (al_bnd (n := 1 * 9) (k := 0) (al_compn (c := dn) (m := 8) (by omega) fun j hj => al_elt_draw (by omega) (by omega)) fun l ⟨g, e, hg⟩ => al_ret ⟨g, hg, by rw [e]⟩) (by omega)
  subst e
  let s2 : Nat → Nat → Nat := fun a b => st (3 * a + b)
  have lix : ∀ j, j < n → gIx (.list ((List.range n).map fun j => dn (lot j))) (dn j) = some (dn (lot j)) := fun j hj => by rw [ix_l, tab_at hj]
  have six : ∀ j, j < 9 → gIx (.list ((List.range 9).map fun j => dn (st j))) (dn j) = some (dn (st j)) := fun j hj => by rw [ix_l, tab_at hj]
  rw [for_range' (a := ([] : List D)) (st := fun j => (List.range j).map fun x => pD n (lotL n lot s2 x)) rfl fun x hx => by
    rw [for_range' (a := ([] : List D)) (st := fun j => (List.range j).map fun y => dn (lotL n lot s2 x y)) rfl fun y hy => by
      have lx := hlot x hx
      have ly := hlot y hy
      have sx : 3 * lot x + lot y < 9 := by omega
      have ys := hst _ sx
      have np := near_pos (n := n) (lot := lot) hy
      have nl : (near n lot (lot y)).length ≤ n := by unfold near; exact Nat.le_trans (List.length_filter_le _ _) (by simp)
      have hm : ((near n lot (lot y)).idxOf y + st (3 * lot x + lot y)) % (near n lot (lot y)).length < (near n lot (lot y)).length := Nat.mod_lt _ (by omega)
      rw [comp_filter (p := fun z => lot z == lot y) (fun z hz => by
        have hz : z < n := by simpa using hz
        simp -implicitDefEqProofs only [bnd_ret, of_some, all_nil, all_cons, g_nil, g_inl, g_inr, and_t, and_f, or_t, or_f, elt1_ret, eltIf_t, eltIf_f, it_t, it_f, bndF_nx, bndF_rt, fin_rt, fin_nx, t2_at, t3_at, part_n, add_n, lt_n, le_n, gt_n, ge_n, bl_b, tru_b, not_b, isN_n, isB_b, isNB_b, int_n, isi_int, isi_bool, isi_tup, seq_t, seq_l, len_t, len_l, tupOf_l, tupOf_t, tup1, tup2, tup3, tup4, sm0, sm1, sm2, sm3, sm4, ix_t, ix_l, lit0, lit1, lit2, lit3, lit4, lit5, lit6, lit8, lit9, lit12, lit16, lit60, Bool.not_true, Bool.not_false, g_0, g_1, nxL_ret, ite_true, ite_false, Bool.false_eq_true, seq_p, seq_tD, len_p, len_tD, Option.map_some, lix z hz, lix y hy, eq_n]
        by_cases q : lot z = lot y
        · rw [decide_eq_true q]
          simp -implicitDefEqProofs only [bnd_ret, of_some, all_nil, all_cons, g_nil, g_inl, g_inr, and_t, and_f, or_t, or_f, elt1_ret, eltIf_t, eltIf_f, it_t, it_f, bndF_nx, bndF_rt, fin_rt, fin_nx, t2_at, t3_at, part_n, add_n, lt_n, le_n, gt_n, ge_n, bl_b, tru_b, not_b, isN_n, isB_b, isNB_b, int_n, isi_int, isi_bool, isi_tup, seq_t, seq_l, len_t, len_l, tupOf_l, tupOf_t, tup1, tup2, tup3, tup4, sm0, sm1, sm2, sm3, sm4, ix_t, ix_l, lit0, lit1, lit2, lit3, lit4, lit5, lit6, lit8, lit9, lit12, lit16, lit60, Bool.not_true, Bool.not_false, g_0, g_1, nxL_ret, ite_true, ite_false, Bool.false_eq_true, seq_p, seq_tD, len_p, len_tD, Option.map_some, q, beq_self_eq_true]
        · rw [decide_eq_false q]
          have e : (lot z == lot y) = false := by simpa using q
          simp -implicitDefEqProofs only [bnd_ret, of_some, all_nil, all_cons, g_nil, g_inl, g_inr, and_t, and_f, or_t, or_f, elt1_ret, eltIf_t, eltIf_f, it_t, it_f, bndF_nx, bndF_rt, fin_rt, fin_nx, t2_at, t3_at, part_n, add_n, lt_n, le_n, gt_n, ge_n, bl_b, tru_b, not_b, isN_n, isB_b, isNB_b, int_n, isi_int, isi_bool, isi_tup, seq_t, seq_l, len_t, len_l, tupOf_l, tupOf_t, tup1, tup2, tup3, tup4, sm0, sm1, sm2, sm3, sm4, ix_t, ix_l, lit0, lit1, lit2, lit3, lit4, lit5, lit6, lit8, lit9, lit12, lit16, lit60, Bool.not_true, Bool.not_false, g_0, g_1, nxL_ret, ite_true, ite_false, Bool.false_eq_true, seq_p, seq_tD, len_p, len_tD, Option.map_some, e]) (by simp; omega)]
      have nr : (List.range n).filter (fun z => lot z == lot y) = near n lot (lot y) := rfl
      rw [nr]
      simp -implicitDefEqProofs only [bnd_ret, of_some, all_nil, all_cons, g_nil, g_inl, g_inr, and_t, and_f, or_t, or_f, elt1_ret, eltIf_t, eltIf_f, it_t, it_f, bndF_nx, bndF_rt, fin_rt, fin_nx, t2_at, t3_at, part_n, add_n, lt_n, le_n, gt_n, ge_n, bl_b, tru_b, not_b, isN_n, isB_b, isNB_b, int_n, isi_int, isi_bool, isi_tup, seq_t, seq_l, len_t, len_l, tupOf_l, tupOf_t, tup1, tup2, tup3, tup4, sm0, sm1, sm2, sm3, sm4, ix_t, ix_l, lit0, lit1, lit2, lit3, lit4, lit5, lit6, lit8, lit9, lit12, lit16, lit60, Bool.not_true, Bool.not_false, g_0, g_1, nxL_ret, ite_true, ite_false, Bool.false_eq_true, seq_p, seq_tD, len_p, len_tD, Option.map_some, List.nil_append, index_l (near_self (n := n) (lot := lot) hy), lix x hx, lix y hy, mul_n (by omega : 3 < 2 ^ 64) (by omega : lot x < 2 ^ 64), six _ sx, List.length_map, mod_n (by omega : 0 < (near n lot (lot y)).length), lst_at hm]
      rw [app_le (by simp; omega)]
      simp -implicitDefEqProofs only [bnd_ret, of_some, all_nil, all_cons, g_nil, g_inl, g_inr, and_t, and_f, or_t, or_f, elt1_ret, eltIf_t, eltIf_f, it_t, it_f, bndF_nx, bndF_rt, fin_rt, fin_nx, t2_at, t3_at, part_n, add_n, lt_n, le_n, gt_n, ge_n, bl_b, tru_b, not_b, isN_n, isB_b, isNB_b, int_n, isi_int, isi_bool, isi_tup, seq_t, seq_l, len_t, len_l, tupOf_l, tupOf_t, tup1, tup2, tup3, tup4, sm0, sm1, sm2, sm3, sm4, ix_t, ix_l, lit0, lit1, lit2, lit3, lit4, lit5, lit6, lit8, lit9, lit12, lit16, lit60, Bool.not_true, Bool.not_false, g_0, g_1, nxL_ret, ite_true, ite_false, Bool.false_eq_true, seq_p, seq_tD, len_p, len_tD, Option.map_some]
      exact congrArg (fun z => mRet (Fl.nx z)) tab_succ]
    simp -implicitDefEqProofs only [bnd_ret, of_some, all_nil, all_cons, g_nil, g_inl, g_inr, and_t, and_f, or_t, or_f, elt1_ret, eltIf_t, eltIf_f, it_t, it_f, bndF_nx, bndF_rt, fin_rt, fin_nx, t2_at, t3_at, part_n, add_n, lt_n, le_n, gt_n, ge_n, bl_b, tru_b, not_b, isN_n, isB_b, isNB_b, int_n, isi_int, isi_bool, isi_tup, seq_t, seq_l, len_t, len_l, tupOf_l, tupOf_t, tup1, tup2, tup3, tup4, sm0, sm1, sm2, sm3, sm4, ix_t, ix_l, lit0, lit1, lit2, lit3, lit4, lit5, lit6, lit8, lit9, lit12, lit16, lit60, Bool.not_true, Bool.not_false, g_0, g_1, nxL_ret, ite_true, ite_false, Bool.false_eq_true, seq_p, seq_tD, len_p, len_tD, Option.map_some]
    rw [app_le (by simp; omega)]
    simp -implicitDefEqProofs only [bnd_ret, of_some, all_nil, all_cons, g_nil, g_inl, g_inr, and_t, and_f, or_t, or_f, elt1_ret, eltIf_t, eltIf_f, it_t, it_f, bndF_nx, bndF_rt, fin_rt, fin_nx, t2_at, t3_at, part_n, add_n, lt_n, le_n, gt_n, ge_n, bl_b, tru_b, not_b, isN_n, isB_b, isNB_b, int_n, isi_int, isi_bool, isi_tup, seq_t, seq_l, len_t, len_l, tupOf_l, tupOf_t, tup1, tup2, tup3, tup4, sm0, sm1, sm2, sm3, sm4, ix_t, ix_l, lit0, lit1, lit2, lit3, lit4, lit5, lit6, lit8, lit9, lit12, lit16, lit60, Bool.not_true, Bool.not_false, g_0, g_1, nxL_ret, ite_true, ite_false, Bool.false_eq_true, seq_p, seq_tD, len_p, len_tD, Option.map_some]
    exact congrArg (fun z => mRet (Fl.nx z)) tab_succ]
  simp -implicitDefEqProofs only [bnd_ret, of_some, all_nil, all_cons, g_nil, g_inl, g_inr, and_t, and_f, or_t, or_f, elt1_ret, eltIf_t, eltIf_f, it_t, it_f, bndF_nx, bndF_rt, fin_rt, fin_nx, t2_at, t3_at, part_n, add_n, lt_n, le_n, gt_n, ge_n, bl_b, tru_b, not_b, isN_n, isB_b, isNB_b, int_n, isi_int, isi_bool, isi_tup, seq_t, seq_l, len_t, len_l, tupOf_l, tupOf_t, tup1, tup2, tup3, tup4, sm0, sm1, sm2, sm3, sm4, ix_t, ix_l, lit0, lit1, lit2, lit3, lit4, lit5, lit6, lit8, lit9, lit12, lit16, lit60, Bool.not_true, Bool.not_false, g_0, g_1, nxL_ret, ite_true, ite_false, Bool.false_eq_true, seq_p, seq_tD, len_p, len_tD, Option.map_some]
  exact al_ret ⟨_, Ru.lots, rfl⟩
theorem al_base {n : Nat} (h1 : 1 ≤ n) (h8 : n ≤ 8) : Al (kn := "cells") 30 (mf__law_base [dn n]) fun d => ∃ L, Ru n L ∧ d = ruD n L := by
  simp -implicitDefEqProofs only [mf__law_base, m__law_base, bnd_ret, of_some, all_nil, all_cons, g_nil, g_inl, g_inr, and_t, and_f, or_t, or_f, elt1_ret, eltIf_t, eltIf_f, it_t, it_f, bndF_nx, bndF_rt, fin_rt, fin_nx, t2_at, t3_at, part_n, add_n, lt_n, le_n, gt_n, ge_n, bl_b, tru_b, not_b, isN_n, isB_b, isNB_b, int_n, isi_int, isi_bool, isi_tup, seq_t, seq_l, len_t, len_l, tupOf_l, tupOf_t, tup1, tup2, tup3, tup4, sm0, sm1, sm2, sm3, sm4, ix_t, ix_l, lit0, lit1, lit2, lit3, lit4, lit5, lit6, lit8, lit9, lit12, lit16, lit60, Bool.not_true, Bool.not_false, g_0, g_1, nxL_ret, ite_true, ite_false, Bool.false_eq_true, seq_p, seq_tD, len_p, len_tD, Option.map_some, range_n (by omega : n ≤ 1000), eq_n, in_468]
  refine al_fin (Al.le (al_bnd (n := 9) (k := 21) (P := fun d => ∃ w f, w < 6 ∧ Bij n f ∧ d = .tuple [dn w, pD n f]) ?_ fun d ⟨w, f, hw, hf, e⟩ => ?_) (by omega))
  · refine Al.le (al_bnd (n := 9) (k := 0) (P := fun l => ∃ w f, w < 6 ∧ Bij n f ∧ l = [dn w, pD n f]) ?_ fun l ⟨w, f, hw, hf, e⟩ => ?_) (by omega)
    · refine Al.le (al_bnd (n := 1) (k := 8) (al_draw (by omega) (by omega)) fun d ⟨v, hv, e⟩ => ?_) (by omega)
      subst e
      refine Al.le (al_bnd (n := 8) (k := 0) (P := fun l => ∃ f, Bij n f ∧ l = [pD n f]) ?_ fun l ⟨f, hf, e⟩ => ?_) (by omega)
      · refine Al.le (al_bnd (n := 8) (k := 0) (al_shuffled h8) fun d ⟨f, hf, e⟩ => ?_) (by omega)
        subst e
        exact al_ret ⟨f, hf, rfl⟩
      · subst e
        exact al_ret ⟨v, f, hv, hf, rfl⟩
    · subst e
      simp -implicitDefEqProofs only [bnd_ret, of_some, all_nil, all_cons, g_nil, g_inl, g_inr, and_t, and_f, or_t, or_f, elt1_ret, eltIf_t, eltIf_f, it_t, it_f, bndF_nx, bndF_rt, fin_rt, fin_nx, t2_at, t3_at, part_n, add_n, lt_n, le_n, gt_n, ge_n, bl_b, tru_b, not_b, isN_n, isB_b, isNB_b, int_n, isi_int, isi_bool, isi_tup, seq_t, seq_l, len_t, len_l, tupOf_l, tupOf_t, tup1, tup2, tup3, tup4, sm0, sm1, sm2, sm3, sm4, ix_t, ix_l, lit0, lit1, lit2, lit3, lit4, lit5, lit6, lit8, lit9, lit12, lit16, lit60, Bool.not_true, Bool.not_false, g_0, g_1, nxL_ret, ite_true, ite_false, Bool.false_eq_true, seq_p, seq_tD, len_p, len_tD, Option.map_some]
      exact al_ret ⟨w, f, hw, hf, rfl⟩
  · subst e
    simp -implicitDefEqProofs only [bnd_ret, of_some, all_nil, all_cons, g_nil, g_inl, g_inr, and_t, and_f, or_t, or_f, elt1_ret, eltIf_t, eltIf_f, it_t, it_f, bndF_nx, bndF_rt, fin_rt, fin_nx, t2_at, t3_at, part_n, add_n, lt_n, le_n, gt_n, ge_n, bl_b, tru_b, not_b, isN_n, isB_b, isNB_b, int_n, isi_int, isi_bool, isi_tup, seq_t, seq_l, len_t, len_l, tupOf_l, tupOf_t, tup1, tup2, tup3, tup4, sm0, sm1, sm2, sm3, sm4, ix_t, ix_l, lit0, lit1, lit2, lit3, lit4, lit5, lit6, lit8, lit9, lit12, lit16, lit60, Bool.not_true, Bool.not_false, g_0, g_1, nxL_ret, ite_true, ite_false, Bool.false_eq_true, seq_p, seq_tD, len_p, len_tD, Option.map_some, eq_n]
    by_cases q0 : w = 0
    · rw [decide_eq_true q0, if_pos rfl, comp_range (g := fun _ => pD n f) (by omega) fun _ _ => rfl]
      simp -implicitDefEqProofs only [bnd_ret, of_some, all_nil, all_cons, g_nil, g_inl, g_inr, and_t, and_f, or_t, or_f, elt1_ret, eltIf_t, eltIf_f, it_t, it_f, bndF_nx, bndF_rt, fin_rt, fin_nx, t2_at, t3_at, part_n, add_n, lt_n, le_n, gt_n, ge_n, bl_b, tru_b, not_b, isN_n, isB_b, isNB_b, int_n, isi_int, isi_bool, isi_tup, seq_t, seq_l, len_t, len_l, tupOf_l, tupOf_t, tup1, tup2, tup3, tup4, sm0, sm1, sm2, sm3, sm4, ix_t, ix_l, lit0, lit1, lit2, lit3, lit4, lit5, lit6, lit8, lit9, lit12, lit16, lit60, Bool.not_true, Bool.not_false, g_0, g_1, nxL_ret, ite_true, ite_false, Bool.false_eq_true, seq_p, seq_tD, len_p, len_tD, Option.map_some]
      exact (al_ret ⟨_, Ru.alike hf, rfl⟩).le (by omega)
    · rw [decide_eq_false q0, if_neg (by simp)]
      by_cases q1 : w = 1 ∧ (n = 4 ∨ n = 6 ∨ n = 8)
      · rw [decide_eq_true q1.1, decide_eq_true q1.2]
        simp -implicitDefEqProofs only [bnd_ret, of_some, all_nil, all_cons, g_nil, g_inl, g_inr, and_t, and_f, or_t, or_f, elt1_ret, eltIf_t, eltIf_f, it_t, it_f, bndF_nx, bndF_rt, fin_rt, fin_nx, t2_at, t3_at, part_n, add_n, lt_n, le_n, gt_n, ge_n, bl_b, tru_b, not_b, isN_n, isB_b, isNB_b, int_n, isi_int, isi_bool, isi_tup, seq_t, seq_l, len_t, len_l, tupOf_l, tupOf_t, tup1, tup2, tup3, tup4, sm0, sm1, sm2, sm3, sm4, ix_t, ix_l, lit0, lit1, lit2, lit3, lit4, lit5, lit6, lit8, lit9, lit12, lit16, lit60, Bool.not_true, Bool.not_false, g_0, g_1, nxL_ret, ite_true, ite_false, Bool.false_eq_true, seq_p, seq_tD, len_p, len_tD, Option.map_some]
        by_cases q8 : n < 8
        · rw [decide_eq_true q8, if_pos rfl, sub_n (by omega)]
          simp -implicitDefEqProofs only [bnd_ret, of_some, all_nil, all_cons, g_nil, g_inl, g_inr, and_t, and_f, or_t, or_f, elt1_ret, eltIf_t, eltIf_f, it_t, it_f, bndF_nx, bndF_rt, fin_rt, fin_nx, t2_at, t3_at, part_n, add_n, lt_n, le_n, gt_n, ge_n, bl_b, tru_b, not_b, isN_n, isB_b, isNB_b, int_n, isi_int, isi_bool, isi_tup, seq_t, seq_l, len_t, len_l, tupOf_l, tupOf_t, tup1, tup2, tup3, tup4, sm0, sm1, sm2, sm3, sm4, ix_t, ix_l, lit0, lit1, lit2, lit3, lit4, lit5, lit6, lit8, lit9, lit12, lit16, lit60, Bool.not_true, Bool.not_false, g_0, g_1, nxL_ret, ite_true, ite_false, Bool.false_eq_true, seq_p, seq_tD, len_p, len_tD, Option.map_some]
          rcases q1.2 with rfl | rfl | rfl
          · exact (unit_end (by omega) (by omega) (by omega) ru_unit4).le (by omega)
          · exact (unit_end (by omega) (by omega) (by omega) ru_unit6).le (by omega)
          · omega
        · have e8 : n = 8 := by omega
          subst e8
          rw [decide_eq_false q8, if_neg (by simp)]
          refine Al.le (al_bnd (n := 1) (k := 0) (P := fun d => ∃ u, (u = 3 ∨ u = 5 ∨ u = 7) ∧ d = dn u) ?_ fun d ⟨u, hu, e⟩ => ?_) (by omega)
          · refine Al.le (al_bnd (n := 1) (k := 0) (P := fun d => ∃ u, u < 3 ∧ d = dn (2 * u)) ?_ fun d ⟨u, hu, e⟩ => ?_) (by omega)
            · refine Al.le (al_bnd (n := 1) (k := 0) (al_draw (by omega) (by omega)) fun d ⟨v, hv, e⟩ => ?_) (by omega)
              subst e
              rw [mul_n (by omega) (by omega), of_some]
              exact al_ret ⟨v, hv, rfl⟩
            · subst e
              rw [add_n, of_some]
              exact al_ret ⟨3 + 2 * u, by omega, rfl⟩
          · subst e
            rcases hu with rfl | rfl | rfl
            · exact unit_end (by omega) (by omega) (by omega) ru_unit8a
            · exact unit_end (by omega) (by omega) (by omega) ru_unit8b
            · exact unit_end (by omega) (by omega) (by omega) ru_unit8c
      · have e1 : (mBnd (mRet (decide (w = 1)) : Mo S0 Bool) fun k15 => if k15 = true then mRet (decide (n = 4 ∨ n = 6 ∨ n = 8)) else mRet false) = mRet false := by
          by_cases z : w = 1
          · rw [decide_eq_true z, bnd_ret, if_pos rfl, decide_eq_false fun y => q1 ⟨z, y⟩]
          · rw [decide_eq_false z, bnd_ret, if_neg (by simp)]
        rw [bnd_ret] at e1
        rw [e1]
        simp -implicitDefEqProofs only [bnd_ret, of_some, all_nil, all_cons, g_nil, g_inl, g_inr, and_t, and_f, or_t, or_f, elt1_ret, eltIf_t, eltIf_f, it_t, it_f, bndF_nx, bndF_rt, fin_rt, fin_nx, t2_at, t3_at, part_n, add_n, lt_n, le_n, gt_n, ge_n, bl_b, tru_b, not_b, isN_n, isB_b, isNB_b, int_n, isi_int, isi_bool, isi_tup, seq_t, seq_l, len_t, len_l, tupOf_l, tupOf_t, tup1, tup2, tup3, tup4, sm0, sm1, sm2, sm3, sm4, ix_t, ix_l, lit0, lit1, lit2, lit3, lit4, lit5, lit6, lit8, lit9, lit12, lit16, lit60, Bool.not_true, Bool.not_false, g_0, g_1, nxL_ret, ite_true, ite_false, Bool.false_eq_true, seq_p, seq_tD, len_p, len_tD, Option.map_some]
        by_cases q2 : w = 2 ∧ n = 4
        · obtain ⟨q2, rfl⟩ := q2
          rw [decide_eq_true q2, decide_eq_true rfl]
          simp -implicitDefEqProofs only [bnd_ret, of_some, all_nil, all_cons, g_nil, g_inl, g_inr, and_t, and_f, or_t, or_f, elt1_ret, eltIf_t, eltIf_f, it_t, it_f, bndF_nx, bndF_rt, fin_rt, fin_nx, t2_at, t3_at, part_n, add_n, lt_n, le_n, gt_n, ge_n, bl_b, tru_b, not_b, isN_n, isB_b, isNB_b, int_n, isi_int, isi_bool, isi_tup, seq_t, seq_l, len_t, len_l, tupOf_l, tupOf_t, tup1, tup2, tup3, tup4, sm0, sm1, sm2, sm3, sm4, ix_t, ix_l, lit0, lit1, lit2, lit3, lit4, lit5, lit6, lit8, lit9, lit12, lit16, lit60, Bool.not_true, Bool.not_false, g_0, g_1, nxL_ret, ite_true, ite_false, Bool.false_eq_true, seq_p, seq_tD, len_p, len_tD, Option.map_some]
          simp -implicitDefEqProofs only [app_c1, app_c2, app_c3, app_c4, app_c5, bnd_ret, of_some, all_nil, all_cons, g_nil, g_inl, g_inr, and_t, and_f, or_t, or_f, elt1_ret, eltIf_t, eltIf_f, it_t, it_f, bndF_nx, bndF_rt, fin_rt, fin_nx, t2_at, t3_at, part_n, add_n, lt_n, le_n, gt_n, ge_n, bl_b, tru_b, not_b, isN_n, isB_b, isNB_b, int_n, isi_int, isi_bool, isi_tup, seq_t, seq_l, len_t, len_l, tupOf_l, tupOf_t, tup1, tup2, tup3, tup4, sm0, sm1, sm2, sm3, sm4, ix_t, ix_l, lit0, lit1, lit2, lit3, lit4, lit5, lit6, lit8, lit9, lit12, lit16, lit60, Bool.not_true, Bool.not_false, g_0, g_1, nxL_ret, ite_true, ite_false, Bool.false_eq_true, seq_p, seq_tD, len_p, len_tD, Option.map_some, List.length_cons, List.length_nil]
          refine Al.le (al_bnd (n := 1) (k := 0) (P := fun d => ∃ L, Ru 4 L ∧ d = ruD 4 L) ?_ fun d hd => al_ret hd) (by omega)
          refine Al.le (al_bnd (n := 1) (k := 0) (al_draw (by omega) (by omega)) fun d ⟨v, hv, e⟩ => ?_) (by omega)
          subst e
          rw [ix_l]
          match v, hv with
          | 0, _ => exact al_ret ⟨_, ru_four [[0, 1, 3, 2], [2, 3, 1, 0], [3, 2, 0, 1], [1, 0, 2, 3]] (by decide), rfl⟩
          | 1, _ => exact al_ret ⟨_, ru_four [[1, 0, 2, 3], [3, 2, 0, 1], [2, 3, 1, 0], [0, 1, 3, 2]] (by decide), rfl⟩
          | 2, _ => exact al_ret ⟨_, ru_four [[0, 1, 2, 3], [0, 1, 2, 3], [0, 1, 3, 2], [1, 0, 3, 2]] (by decide), rfl⟩
          | 3, _ => exact al_ret ⟨_, ru_four [[1, 0, 2, 3], [1, 0, 2, 3], [0, 1, 3, 2], [1, 0, 3, 2]] (by decide), rfl⟩
          | 4, _ => exact al_ret ⟨_, ru_four [[1, 0, 3, 2], [2, 3, 0, 1], [2, 3, 0, 1], [1, 0, 3, 2]] (by decide), rfl⟩
          | 5, _ => exact al_ret ⟨_, ru_four [[3, 0, 1, 2], [1, 2, 3, 0], [3, 0, 1, 2], [1, 2, 3, 0]] (by decide), rfl⟩
        · have e2 : (mBnd (mRet (decide (w = 2)) : Mo S0 Bool) fun k15 => if k15 = true then mRet (decide (n = 4)) else mRet false) = mRet false := by
            by_cases z : w = 2
            · rw [decide_eq_true z, bnd_ret, if_pos rfl, decide_eq_false fun y => q2 ⟨z, y⟩]
            · rw [decide_eq_false z, bnd_ret, if_neg (by simp)]
          rw [bnd_ret] at e2
          rw [e2]
          simp -implicitDefEqProofs only [bnd_ret, of_some, all_nil, all_cons, g_nil, g_inl, g_inr, and_t, and_f, or_t, or_f, elt1_ret, eltIf_t, eltIf_f, it_t, it_f, bndF_nx, bndF_rt, fin_rt, fin_nx, t2_at, t3_at, part_n, add_n, lt_n, le_n, gt_n, ge_n, bl_b, tru_b, not_b, isN_n, isB_b, isNB_b, int_n, isi_int, isi_bool, isi_tup, seq_t, seq_l, len_t, len_l, tupOf_l, tupOf_t, tup1, tup2, tup3, tup4, sm0, sm1, sm2, sm3, sm4, ix_t, ix_l, lit0, lit1, lit2, lit3, lit4, lit5, lit6, lit8, lit9, lit12, lit16, lit60, Bool.not_true, Bool.not_false, g_0, g_1, nxL_ret, ite_true, ite_false, Bool.false_eq_true, seq_p, seq_tD, len_p, len_tD, Option.map_some]
          exact (lots_end h1 h8).le (by omega)
end K12
set_option Elab.async false
set_option linter.all false
set_option maxRecDepth 100000
set_option maxHeartbeats 2000000
namespace K12
open PySem PySem.Spec PyProof.Rows L2 Cz Rl
theorem al_lefts {n : Nat} (h1 : 1 ≤ n) (h8 : n ≤ 8) : Al (kn := "cells") 200 (mf__law_lefts [dn n]) fun d => ∃ L, Ru n L ∧ d = ruD n L := by
  have r2 : gRange [dn 2] = some ((List.range 2).map dn) := range_n (by omega)
  simp -implicitDefEqProofs only [mf__law_lefts, m__law_lefts, bnd_ret, of_some, all_nil, all_cons, g_nil, g_inl, g_inr, and_t, and_f, or_t, or_f, elt1_ret, eltIf_t, eltIf_f, it_t, it_f, bndF_nx, bndF_rt, fin_rt, fin_nx, t2_at, t3_at, part_n, add_n, lt_n, le_n, gt_n, ge_n, bl_b, tru_b, not_b, isN_n, isB_b, isNB_b, int_n, isi_int, isi_bool, isi_tup, seq_t, seq_l, len_t, len_l, tupOf_l, tupOf_t, tup1, tup2, tup3, tup4, sm0, sm1, sm2, sm3, sm4, ix_t, ix_l, lit0, lit1, lit2, lit3, lit4, lit5, lit6, lit8, lit9, lit12, lit16, lit60, Bool.not_true, Bool.not_false, g_0, g_1, nxL_ret, ite_true, ite_false, Bool.false_eq_true, seq_p, seq_tD, len_p, len_tD, Option.map_some, range_n (by omega : n ≤ 1000), r2]
  refine al_fin (Al.le (al_bnd (n := 1) (k := 190) (P := fun d => ∃ b : Bool, d = .bool b) ?_ fun d1 ⟨b, e⟩ => ?_) (by omega))
  · refine Al.le (al_bnd (n := 1) (k := 0) (al_draw (by omega) (by omega)) fun d ⟨v, hv, e⟩ => ?_) (by omega)
    subst e
    rw [eq_n, of_some]
    exact al_ret ⟨_, rfl⟩
  subst e
  simp -implicitDefEqProofs only [bnd_ret, of_some, all_nil, all_cons, g_nil, g_inl, g_inr, and_t, and_f, or_t, or_f, elt1_ret, eltIf_t, eltIf_f, it_t, it_f, bndF_nx, bndF_rt, fin_rt, fin_nx, t2_at, t3_at, part_n, add_n, lt_n, le_n, gt_n, ge_n, bl_b, tru_b, not_b, isN_n, isB_b, isNB_b, int_n, isi_int, isi_bool, isi_tup, seq_t, seq_l, len_t, len_l, tupOf_l, tupOf_t, tup1, tup2, tup3, tup4, sm0, sm1, sm2, sm3, sm4, ix_t, ix_l, lit0, lit1, lit2, lit3, lit4, lit5, lit6, lit8, lit9, lit12, lit16, lit60, Bool.not_true, Bool.not_false, g_0, g_1, nxL_ret, ite_true, ite_false, Bool.false_eq_true, seq_p, seq_tD, len_p, len_tD, Option.map_some]
  refine Al.le (al_bnd (n := 2) (k := 180) (P := fun d => ∃ k, 1 ≤ k ∧ k ≤ n ∧ d = dn k) ?_ fun d2 ⟨k0, hk1, hk2, e⟩ => ?_) (by omega)
  · refine Al.le (al_bnd (n := 1) (k := 1) (P := fun _ => True) ?_ fun k10 _ => ?_) (by omega)
    · refine Al.le (al_bnd (n := 1) (k := 0) (al_draw (by omega) (by omega)) fun d ⟨v, hv, e⟩ => ?_) (by omega)
      subst e
      simp -implicitDefEqProofs only [bnd_ret, of_some, all_nil, all_cons, g_nil, g_inl, g_inr, and_t, and_f, or_t, or_f, elt1_ret, eltIf_t, eltIf_f, it_t, it_f, bndF_nx, bndF_rt, fin_rt, fin_nx, t2_at, t3_at, part_n, add_n, lt_n, le_n, gt_n, ge_n, bl_b, tru_b, not_b, isN_n, isB_b, isNB_b, int_n, isi_int, isi_bool, isi_tup, seq_t, seq_l, len_t, len_l, tupOf_l, tupOf_t, tup1, tup2, tup3, tup4, sm0, sm1, sm2, sm3, sm4, ix_t, ix_l, lit0, lit1, lit2, lit3, lit4, lit5, lit6, lit8, lit9, lit12, lit16, lit60, Bool.not_true, Bool.not_false, g_0, g_1, nxL_ret, ite_true, ite_false, Bool.false_eq_true, seq_p, seq_tD, len_p, len_tD, Option.map_some, eq_n]
      exact al_ret trivial
    · cases k10 with
      | true => rw [if_pos rfl]; exact (al_ret ⟨n, h1, Nat.le_refl _, rfl⟩).le (by omega)
      | false =>
        rw [if_neg (by simp)]
        refine Al.le (al_bnd (n := 1) (k := 0) (al_draw (by omega) (by omega)) fun d ⟨v, hv, e⟩ => ?_) (by omega)
        subst e
        rw [add_n, of_some]
        exact al_ret ⟨1 + v, by omega, by omega, rfl⟩
  subst e
  refine Al.le (al_bnd (n := 30) (k := 150) (al_base hk1 (by omega)) fun d11 ⟨L0, hL0, e⟩ => ?_) (by omega)
  subst e
  let I : Nat → D × D → Prop := fun j st => ∃ (k : Nat) (L : Nat → Nat → Nat) (z : D), 1 ≤ k ∧ k ≤ n ∧ Ru k L ∧ st = (ruD k L, z) ∧ (j = 2 → k = n)
  refine Al.le (al_bndF (n := 55 * 2) (k := 20) (P := I 2) (R := fun _ => False) (al_range (I := I) ⟨k0, L0, _, hk1, hk2, hL0, rfl, fun z => by omega⟩ fun j hj st ⟨k, L, z, a1, a2, hL, e, _⟩ => ?_) (fun st ⟨k, L, z, a1, a2, hL, e, a3⟩ => ?_) fun d hd => hd.elim) (by omega)
  · subst e
    simp -implicitDefEqProofs only [bnd_ret, of_some, all_nil, all_cons, g_nil, g_inl, g_inr, and_t, and_f, or_t, or_f, elt1_ret, eltIf_t, eltIf_f, it_t, it_f, bndF_nx, bndF_rt, fin_rt, fin_nx, t2_at, t3_at, part_n, add_n, lt_n, le_n, gt_n, ge_n, bl_b, tru_b, not_b, isN_n, isB_b, isNB_b, int_n, isi_int, isi_bool, isi_tup, seq_t, seq_l, len_t, len_l, tupOf_l, tupOf_t, tup1, tup2, tup3, tup4, sm0, sm1, sm2, sm3, sm4, ix_t, ix_l, lit0, lit1, lit2, lit3, lit4, lit5, lit6, lit8, lit9, lit12, lit16, lit60, Bool.not_true, Bool.not_false, g_0, g_1, nxL_ret, ite_true, ite_false, Bool.false_eq_true, seq_p, seq_tD, len_p, len_tD, Option.map_some, ru_len, lt_n, eq_n]
    by_cases q : k < n
    · rw [decide_eq_true q, if_pos rfl]
      refine Al.le (al_bndF (n := 55) (k := 0) (P := I (j + 1)) (R := fun _ => False) ?_ (fun st hst => al_ret hst) fun d hd => hd.elim) (by omega)
      refine Al.le (al_bnd (n := 1) (k := 54) (P := fun d => ∃ m, 1 ≤ m ∧ m ≤ n - k ∧ (j = 1 → m = n - k) ∧ d = dn m) ?_ fun d19 ⟨m, m1, m2, m3, e⟩ => ?_) (by omega)
      · by_cases q1 : j = 1
        · rw [decide_eq_true q1, if_pos rfl, sub_n (by omega), of_some]
          exact (al_ret ⟨n - k, by omega, by omega, fun _ => rfl, rfl⟩).le (by omega)
        · rw [decide_eq_false q1, if_neg (by simp), sub_n (by omega)]
          simp -implicitDefEqProofs only [bnd_ret, of_some, all_nil, all_cons, g_nil, g_inl, g_inr, and_t, and_f, or_t, or_f, elt1_ret, eltIf_t, eltIf_f, it_t, it_f, bndF_nx, bndF_rt, fin_rt, fin_nx, t2_at, t3_at, part_n, add_n, lt_n, le_n, gt_n, ge_n, bl_b, tru_b, not_b, isN_n, isB_b, isNB_b, int_n, isi_int, isi_bool, isi_tup, seq_t, seq_l, len_t, len_l, tupOf_l, tupOf_t, tup1, tup2, tup3, tup4, sm0, sm1, sm2, sm3, sm4, ix_t, ix_l, lit0, lit1, lit2, lit3, lit4, lit5, lit6, lit8, lit9, lit12, lit16, lit60, Bool.not_true, Bool.not_false, g_0, g_1, nxL_ret, ite_true, ite_false, Bool.false_eq_true, seq_p, seq_tD, len_p, len_tD, Option.map_some]
          refine Al.le (al_bnd (n := 1) (k := 0) (al_draw (by omega) (by omega)) fun d ⟨v, hv, e⟩ => ?_) (by omega)
          subst e
          rw [add_n, of_some]
          exact al_ret ⟨1 + v, by omega, by omega, fun z => absurd z q1, rfl⟩
      subst e
      refine Al.le (al_bnd (n := 30) (k := 24) (al_base m1 (by omega)) fun d20 ⟨L2', hL2, e⟩ => ?_) (by omega)
      subst e
      refine Al.le (al_bnd (n := 20) (k := 0) (P := fun d => ∃ f g, Bij k f ∧ Kp k L f ∧ Bij m g ∧ Kp m L2' g ∧ d = ruD (k + m) (cross k L L2' f g)) ?_ fun d21 ⟨f, g, hf, kf, hg, kg, e⟩ => ?_) (by omega)
      · refine Al.le (al_bnd (n := 20) (k := 0) (P := fun l => ∃ f g, Bij k f ∧ Kp k L f ∧ Bij m g ∧ Kp m L2' g ∧ l = [ruD k L, ruD m L2', pD k f, pD m g]) ?_ fun l ⟨f, g, hf, kf, hg, kg, e⟩ => ?_) (by omega)
        · refine Al.le (al_bnd (n := 20) (k := 0) (P := fun l => ∃ f g, Bij k f ∧ Kp k L f ∧ Bij m g ∧ Kp m L2' g ∧ l = [ruD m L2', pD k f, pD m g]) ?_ fun l ⟨f, g, hf, kf, hg, kg, e⟩ => ?_) (by omega)
          · refine Al.le (al_bnd (n := 20) (k := 0) (P := fun l => ∃ f g, Bij k f ∧ Kp k L f ∧ Bij m g ∧ Kp m L2' g ∧ l = [pD k f, pD m g]) ?_ fun l ⟨f, g, hf, kf, hg, kg, e⟩ => ?_) (by omega)
            · refine Al.le (al_bnd (n := 10) (k := 10) (al_kept a1 (by omega) hL) fun d ⟨f, hf, kf, e⟩ => ?_) (by omega)
              subst e
              refine Al.le (al_bnd (n := 10) (k := 0) (P := fun l => ∃ g, Bij m g ∧ Kp m L2' g ∧ l = [pD m g]) ?_ fun l ⟨g, hg, kg, e⟩ => ?_) (by omega)
              · refine Al.le (al_bnd (n := 10) (k := 0) (al_kept m1 (by omega) hL2) fun d ⟨g, hg, kg, e⟩ => ?_) (by omega)
                subst e
                exact al_ret ⟨g, hg, kg, rfl⟩
              · subst e
                exact al_ret ⟨f, g, hf, kf, hg, kg, rfl⟩
            · subst e
              exact al_ret ⟨f, g, hf, kf, hg, kg, rfl⟩
          · subst e
            exact al_ret ⟨f, g, hf, kf, hg, kg, rfl⟩
        · subst e
          rw [e_crossed (by omega)]
          exact al_ret ⟨f, g, hf, kf, hg, kg, rfl⟩
      · subst e
        exact al_ret ⟨k + m, _, _, by omega, by omega, hL.cross hL2 hf hg kf kg, rfl, fun z => by have := m3 (by omega); omega⟩
    · rw [decide_eq_false q, if_neg (by simp)]
      simp -implicitDefEqProofs only [bnd_ret, of_some, all_nil, all_cons, g_nil, g_inl, g_inr, and_t, and_f, or_t, or_f, elt1_ret, eltIf_t, eltIf_f, it_t, it_f, bndF_nx, bndF_rt, fin_rt, fin_nx, t2_at, t3_at, part_n, add_n, lt_n, le_n, gt_n, ge_n, bl_b, tru_b, not_b, isN_n, isB_b, isNB_b, int_n, isi_int, isi_bool, isi_tup, seq_t, seq_l, len_t, len_l, tupOf_l, tupOf_t, tup1, tup2, tup3, tup4, sm0, sm1, sm2, sm3, sm4, ix_t, ix_l, lit0, lit1, lit2, lit3, lit4, lit5, lit6, lit8, lit9, lit12, lit16, lit60, Bool.not_true, Bool.not_false, g_0, g_1, nxL_ret, ite_true, ite_false, Bool.false_eq_true, seq_p, seq_tD, len_p, len_tD, Option.map_some]
      exact (al_ret ⟨k, L, z, a1, a2, hL, rfl, fun _ => by omega⟩).le (by omega)
  · subst e
    have a3 := a3 rfl
    subst a3
    refine Al.le (al_bndF (n := 0) (k := 20) (P := fun d => ∃ L, Ru k L ∧ d = ruD k L) (R := fun _ => False) ?_ (fun d ⟨L', hL', e⟩ => ?_) fun d hd => hd.elim) (by omega)
    · cases b with
      | true =>
        rw [if_pos rfl, e_mirrored h8 hL]
        simp -implicitDefEqProofs only [bnd_ret, of_some, all_nil, all_cons, g_nil, g_inl, g_inr, and_t, and_f, or_t, or_f, elt1_ret, eltIf_t, eltIf_f, it_t, it_f, bndF_nx, bndF_rt, fin_rt, fin_nx, t2_at, t3_at, part_n, add_n, lt_n, le_n, gt_n, ge_n, bl_b, tru_b, not_b, isN_n, isB_b, isNB_b, int_n, isi_int, isi_bool, isi_tup, seq_t, seq_l, len_t, len_l, tupOf_l, tupOf_t, tup1, tup2, tup3, tup4, sm0, sm1, sm2, sm3, sm4, ix_t, ix_l, lit0, lit1, lit2, lit3, lit4, lit5, lit6, lit8, lit9, lit12, lit16, lit60, Bool.not_true, Bool.not_false, g_0, g_1, nxL_ret, ite_true, ite_false, Bool.false_eq_true, seq_p, seq_tD, len_p, len_tD, Option.map_some]
        exact al_ret ⟨_, hL.mirror, rfl⟩
      | false =>
        rw [if_neg (by simp)]
        exact al_ret ⟨_, hL, rfl⟩
    · subst e
      refine Al.le (al_bnd (n := 8) (k := 0) (al_shuffled h8) fun d36 ⟨p, hp, e⟩ => ?_) (by omega)
      subst e
      have lix : ∀ j, j < k → gIx (.list ((List.range k).map fun j => dn (iv k p j))) (dn j) = some (dn (iv k p j)) := fun j hj => by rw [ix_l, tab_at hj]
      rw [comp_range (g := fun j => dn (iv k p j)) (by omega) fun j hj => by simp -implicitDefEqProofs only [bnd_ret, of_some, all_nil, all_cons, g_nil, g_inl, g_inr, and_t, and_f, or_t, or_f, elt1_ret, eltIf_t, eltIf_f, it_t, it_f, bndF_nx, bndF_rt, fin_rt, fin_nx, t2_at, t3_at, part_n, add_n, lt_n, le_n, gt_n, ge_n, bl_b, tru_b, not_b, isN_n, isB_b, isNB_b, int_n, isi_int, isi_bool, isi_tup, seq_t, seq_l, len_t, len_l, tupOf_l, tupOf_t, tup1, tup2, tup3, tup4, sm0, sm1, sm2, sm3, sm4, ix_t, ix_l, lit0, lit1, lit2, lit3, lit4, lit5, lit6, lit8, lit9, lit12, lit16, lit60, Bool.not_true, Bool.not_false, g_0, g_1, nxL_ret, ite_true, ite_false, Bool.false_eq_true, seq_p, seq_tD, len_p, len_tD, Option.map_some, index_p hp hj]]
      simp -implicitDefEqProofs only [bnd_ret, of_some, all_nil, all_cons, g_nil, g_inl, g_inr, and_t, and_f, or_t, or_f, elt1_ret, eltIf_t, eltIf_f, it_t, it_f, bndF_nx, bndF_rt, fin_rt, fin_nx, t2_at, t3_at, part_n, add_n, lt_n, le_n, gt_n, ge_n, bl_b, tru_b, not_b, isN_n, isB_b, isNB_b, int_n, isi_int, isi_bool, isi_tup, seq_t, seq_l, len_t, len_l, tupOf_l, tupOf_t, tup1, tup2, tup3, tup4, sm0, sm1, sm2, sm3, sm4, ix_t, ix_l, lit0, lit1, lit2, lit3, lit4, lit5, lit6, lit8, lit9, lit12, lit16, lit60, Bool.not_true, Bool.not_false, g_0, g_1, nxL_ret, ite_true, ite_false, Bool.false_eq_true, seq_p, seq_tD, len_p, len_tD, Option.map_some]
      rw [comp_range (g := fun x => pD k fun y => p (L' (iv k p x) (iv k p y))) (by omega) fun x hx => by
        rw [comp_range (g := fun y => dn (p (L' (iv k p x) (iv k p y)))) (by omega) fun y hy => by
          simp -implicitDefEqProofs only [bnd_ret, of_some, all_nil, all_cons, g_nil, g_inl, g_inr, and_t, and_f, or_t, or_f, elt1_ret, eltIf_t, eltIf_f, it_t, it_f, bndF_nx, bndF_rt, fin_rt, fin_nx, t2_at, t3_at, part_n, add_n, lt_n, le_n, gt_n, ge_n, bl_b, tru_b, not_b, isN_n, isB_b, isNB_b, int_n, isi_int, isi_bool, isi_tup, seq_t, seq_l, len_t, len_l, tupOf_l, tupOf_t, tup1, tup2, tup3, tup4, sm0, sm1, sm2, sm3, sm4, ix_t, ix_l, lit0, lit1, lit2, lit3, lit4, lit5, lit6, lit8, lit9, lit12, lit16, lit60, Bool.not_true, Bool.not_false, g_0, g_1, nxL_ret, ite_true, ite_false, Bool.false_eq_true, seq_p, seq_tD, len_p, len_tD, Option.map_some, lix x hx, lix y hy, ru_ix (iv_lt hp hx), pD_ix (iv_lt hp hy), pD_ix (hL'.lt (iv_lt hp hx) (iv_lt hp hy))]]
        simp -implicitDefEqProofs only [bnd_ret, of_some, all_nil, all_cons, g_nil, g_inl, g_inr, and_t, and_f, or_t, or_f, elt1_ret, eltIf_t, eltIf_f, it_t, it_f, bndF_nx, bndF_rt, fin_rt, fin_nx, t2_at, t3_at, part_n, add_n, lt_n, le_n, gt_n, ge_n, bl_b, tru_b, not_b, isN_n, isB_b, isNB_b, int_n, isi_int, isi_bool, isi_tup, seq_t, seq_l, len_t, len_l, tupOf_l, tupOf_t, tup1, tup2, tup3, tup4, sm0, sm1, sm2, sm3, sm4, ix_t, ix_l, lit0, lit1, lit2, lit3, lit4, lit5, lit6, lit8, lit9, lit12, lit16, lit60, Bool.not_true, Bool.not_false, g_0, g_1, nxL_ret, ite_true, ite_false, Bool.false_eq_true, seq_p, seq_tD, len_p, len_tD, Option.map_some, tup_pD]]
      simp -implicitDefEqProofs only [bnd_ret, of_some, all_nil, all_cons, g_nil, g_inl, g_inr, and_t, and_f, or_t, or_f, elt1_ret, eltIf_t, eltIf_f, it_t, it_f, bndF_nx, bndF_rt, fin_rt, fin_nx, t2_at, t3_at, part_n, add_n, lt_n, le_n, gt_n, ge_n, bl_b, tru_b, not_b, isN_n, isB_b, isNB_b, int_n, isi_int, isi_bool, isi_tup, seq_t, seq_l, len_t, len_l, tupOf_l, tupOf_t, tup1, tup2, tup3, tup4, sm0, sm1, sm2, sm3, sm4, ix_t, ix_l, lit0, lit1, lit2, lit3, lit4, lit5, lit6, lit8, lit9, lit12, lit16, lit60, Bool.not_true, Bool.not_false, g_0, g_1, nxL_ret, ite_true, ite_false, Bool.false_eq_true, seq_p, seq_tD, len_p, len_tD, Option.map_some]
      exact al_ret ⟨_, hL'.rename hp, rfl⟩
end K12
set_option Elab.async false
set_option linter.all false
set_option maxRecDepth 100000
set_option maxHeartbeats 2000000
namespace K12
open PySem PySem.Spec PyProof.Rows L2 Cz Rl
theorem mul_lst {l : List D} {k : Nat} (hk : k ≤ 1000) (h : l.length ≤ 10) : gMulT (.list l) (dn k) = some (.list (List.replicate k l).flatten) := by
  have e : gMulT (.list l) (dn k) = gMul (.list l) (dn k) := rfl
  rw [e]
  unfold dn
  simp -implicitDefEqProofs only [gMul]
  rw [Int.toNat_natCast, if_pos ⟨by omega, by omega, by
    have : l.length * k ≤ 10 * 1000 := Nat.mul_le_mul h hk
    have : sizeLine = 16777216 := rfl
    omega⟩]
theorem mul_tup {l : List D} {k : Nat} (h : l.length ≤ 10) (hk : k ≤ 100) : gMulT (.tuple l) (dn k) = some (.tuple (List.replicate k l).flatten) := by
  unfold dn
  simp -implicitDefEqProofs only [gMulT]
  rw [Int.toNat_natCast, if_pos ⟨by omega, by omega, by omega⟩]
theorem al_elt_draw' {m : Nat} (h0 : 0 < m) (h1 : m < 1000000) : Al (kn := "cells") 1 (elt1 (mf__law_draw [dn m])) fun o => ∃ d, o = some d ∧ ∃ v, v < m ∧ d = dn v := al_elt (al_draw h0 h1)
theorem row_of_list {n : Nat} {l : List Nat} (h : ∀ x ∈ l, x < n) (hl : l.length ≤ 60) : ∃ r : List Nat, r.length ≤ 60 ∧ (∀ x ∈ r, x < n) ∧ PyData.tuple (l.map dn) = tD r := ⟨l, hl, h, rfl⟩
theorem al_row' {n q : Nat} (h1 : 1 ≤ n) (h8 : n ≤ 8) (hq : q ≤ 60) : Al (kn := "cells") 100 (mf__law_row [dn n, dn q]) fun d => ∃ r : List Nat, r.length ≤ 60 ∧ (∀ x ∈ r, x < n) ∧ d = tD r := by
  simp -implicitDefEqProofs only [mf__law_row, m__law_row, bnd_ret, of_some, all_nil, all_cons, g_nil, g_inl, g_inr, and_t, and_f, or_t, or_f, elt1_ret, eltIf_t, eltIf_f, it_t, it_f, bndF_nx, bndF_rt, fin_rt, fin_nx, t2_at, t3_at, part_n, add_n, lt_n, le_n, gt_n, ge_n, bl_b, tru_b, not_b, isN_n, isB_b, isNB_b, int_n, isi_int, isi_bool, isi_tup, seq_t, seq_l, len_t, len_l, tupOf_l, tupOf_t, tup1, tup2, tup3, tup4, sm0, sm1, sm2, sm3, sm4, ix_t, ix_l, lit0, lit1, lit2, lit3, lit4, lit5, lit6, lit8, lit9, lit12, lit16, lit60, Bool.not_true, Bool.not_false, g_0, g_1, nxL_ret, ite_true, ite_false, Bool.false_eq_true, seq_p, seq_tD, len_p, len_tD, Option.map_some]
  refine al_fin (Al.le (al_bnd (n := 1) (k := 90) (al_draw (by omega) (by omega)) fun d1 ⟨w, hw, e⟩ => ?_) (by omega))
  subst e
  refine Al.le (al_bnd (n := 2) (k := 80) (P := fun d => ∃ k, k ≤ 60 ∧ d = dn k) ?_ fun d2 ⟨k, hk, e⟩ => ?_) (by omega)
  · refine Al.le (al_bnd (n := 1) (k := 1) (P := fun l => ∃ k, 0 < k ∧ k ≤ 61 ∧ l = [dn k]) ?_ fun l ⟨k, k0, hk, e⟩ => ?_) (by omega)
    · refine Al.le (al_bnd (n := 1) (k := 0) (P := fun d => ∃ k, 0 < k ∧ k ≤ 61 ∧ d = dn k) ?_ fun d ⟨k, k0, hk, e⟩ => ?_) (by omega)
      · refine Al.le (al_bnd (n := 1) (k := 0) (al_draw (by omega) (by omega)) fun d ⟨v, hv, e⟩ => ?_) (by omega)
        subst e
        rw [ix_t]
        match v, hv with
        | 0, _ => exact al_ret ⟨4, by omega, by omega, rfl⟩
        | 1, _ => exact al_ret ⟨8, by omega, by omega, rfl⟩
        | 2, _ => exact al_ret ⟨16, by omega, by omega, rfl⟩
        | 3, _ => exact al_ret ⟨q + 1, by omega, by omega, rfl⟩
      · subst e
        exact al_ret ⟨k, k0, hk, rfl⟩
    · subst e
      exact (al_draw k0 (by omega)).mono (Nat.le_refl _) fun d ⟨v, hv, e⟩ => ⟨v, by omega, e⟩
  subst e
  simp -implicitDefEqProofs only [bnd_ret, of_some, all_nil, all_cons, g_nil, g_inl, g_inr, and_t, and_f, or_t, or_f, elt1_ret, eltIf_t, eltIf_f, it_t, it_f, bndF_nx, bndF_rt, fin_rt, fin_nx, t2_at, t3_at, part_n, add_n, lt_n, le_n, gt_n, ge_n, bl_b, tru_b, not_b, isN_n, isB_b, isNB_b, int_n, isi_int, isi_bool, isi_tup, seq_t, seq_l, len_t, len_l, tupOf_l, tupOf_t, tup1, tup2, tup3, tup4, sm0, sm1, sm2, sm3, sm4, ix_t, ix_l, lit0, lit1, lit2, lit3, lit4, lit5, lit6, lit8, lit9, lit12, lit16, lit60, Bool.not_true, Bool.not_false, g_0, g_1, nxL_ret, ite_true, ite_false, Bool.false_eq_true, seq_p, seq_tD, len_p, len_tD, Option.map_some, eq_n]
  by_cases q0 : w = 0
  · rw [decide_eq_true q0, if_pos rfl]
    refine Al.le (al_bnd (n := 1) (k := 0) (P := fun d => ∃ r : List Nat, r.length ≤ 60 ∧ (∀ x ∈ r, x < n) ∧ d = tD r) ?_ fun d hd => al_ret hd) (by omega)
    refine Al.le (al_bnd (n := 1) (k := 0) (P := fun d => ∃ v, v < n ∧ d = .tuple [dn v]) ?_ fun d ⟨v, hv, e⟩ => ?_) (by omega)
    · refine Al.le (al_bnd (n := 1) (k := 0) (P := fun l => ∃ v, v < n ∧ l = [dn v]) ?_ fun l ⟨v, hv, e⟩ => ?_) (by omega)
      · refine Al.le (al_bnd (n := 1) (k := 0) (al_draw (by omega) (by omega)) fun d ⟨v, hv, e⟩ => ?_) (by omega)
        subst e
        exact al_ret ⟨v, hv, rfl⟩
      · subst e
        simp -implicitDefEqProofs only [bnd_ret, of_some, all_nil, all_cons, g_nil, g_inl, g_inr, and_t, and_f, or_t, or_f, elt1_ret, eltIf_t, eltIf_f, it_t, it_f, bndF_nx, bndF_rt, fin_rt, fin_nx, t2_at, t3_at, part_n, add_n, lt_n, le_n, gt_n, ge_n, bl_b, tru_b, not_b, isN_n, isB_b, isNB_b, int_n, isi_int, isi_bool, isi_tup, seq_t, seq_l, len_t, len_l, tupOf_l, tupOf_t, tup1, tup2, tup3, tup4, sm0, sm1, sm2, sm3, sm4, ix_t, ix_l, lit0, lit1, lit2, lit3, lit4, lit5, lit6, lit8, lit9, lit12, lit16, lit60, Bool.not_true, Bool.not_false, g_0, g_1, nxL_ret, ite_true, ite_false, Bool.false_eq_true, seq_p, seq_tD, len_p, len_tD, Option.map_some]
        exact al_ret ⟨v, hv, rfl⟩
    · subst e
      rw [mul_tup (by simp) (by omega), of_some, List.flatten_replicate_singleton]
      exact al_ret ⟨List.replicate k v, by simpa using hk, fun x hx => by rw [(List.mem_replicate.mp hx).2]; exact hv, by unfold tD; rw [List.map_replicate]⟩
  · rw [decide_eq_false q0, if_neg (by simp)]
    by_cases q1 : w = 1
    · rw [decide_eq_true q1, if_pos rfl]
      refine Al.le (al_bnd (n := 9) (k := 0) (P := fun d => ∃ l : List Nat, l.length ≤ 5 ∧ (∀ x ∈ l, x < n) ∧ d = .list (l.map dn)) ?_ fun d ⟨l, hl, hm, e⟩ => ?_) (by omega)
      · refine Al.le (al_bnd (n := 9) (k := 0) (P := fun l' => ∃ l : List Nat, l.length ≤ 5 ∧ (∀ x ∈ l, x < n) ∧ l' = l.map dn) ?_ fun l' ⟨l, hl, hm, e⟩ => al_ret ⟨l, hl, hm, by rw [e]⟩) (by omega)
        refine Al.le (al_bnd (n := 1) (k := 5) (P := fun l' => ∃ k, k ≤ 5 ∧ l' = (List.range k).map dn) ?_ fun l' ⟨k, hk5, e⟩ => ?_) (by omega)
        · refine Al.le (al_bnd (n := 1) (k := 0) (P := fun l' => ∃ k, k ≤ 5 ∧ l' = [dn k]) ?_ fun l' ⟨k, hk5, e⟩ => ?_) (by omega)
          · refine Al.le (al_bnd (n := 1) (k := 0) (P := fun d => ∃ k, k ≤ 5 ∧ d = dn k) ?_ fun d ⟨k, hk5, e⟩ => ?_) (by omega)
            · refine Al.le (al_bnd (n := 1) (k := 0) (al_draw (by omega) (by omega)) fun d ⟨v, hv, e⟩ => ?_) (by omega)
              subst e
              rw [add_n, of_some]
              exact al_ret ⟨1 + v, by omega, rfl⟩
            · subst e
              exact al_ret ⟨k, hk5, rfl⟩
          · subst e
            rw [range_n (by omega), of_some]
            exact al_ret ⟨k, hk5, rfl⟩
        · subst e
          refine ((al_compn (c := dn) (m := n) (by omega) fun j hj => al_elt_draw' (by omega) (by omega)).le (k := 5) (by omega)).mono (Nat.le_refl _) fun l' ⟨g, e, hg⟩ => ?_
          exact ⟨(List.range k).map g, by simpa using hk5, fun x hx => by
            obtain ⟨j, hj, rfl⟩ := List.mem_map.mp hx
            exact hg j (by simpa using hj), by rw [e, List.map_map]; rfl⟩
      · subst e
        have e60 : gMulT (.list (l.map dn)) (dn 60) = some (.list (List.replicate 60 (l.map dn)).flatten) := mul_lst (by omega) (by simpa using (by omega : l.length ≤ 10))
        simp -implicitDefEqProofs only [e60, bnd_ret, of_some, all_nil, all_cons, g_nil, g_inl, g_inr, and_t, and_f, or_t, or_f, elt1_ret, eltIf_t, eltIf_f, it_t, it_f, bndF_nx, bndF_rt, fin_rt, fin_nx, t2_at, t3_at, part_n, add_n, lt_n, le_n, gt_n, ge_n, bl_b, tru_b, not_b, isN_n, isB_b, isNB_b, int_n, isi_int, isi_bool, isi_tup, seq_t, seq_l, len_t, len_l, tupOf_l, tupOf_t, tup1, tup2, tup3, tup4, sm0, sm1, sm2, sm3, sm4, ix_t, ix_l, lit0, lit1, lit2, lit3, lit4, lit5, lit6, lit8, lit9, lit12, lit16, lit60, Bool.not_true, Bool.not_false, g_0, g_1, nxL_ret, ite_true, ite_false, Bool.false_eq_true, seq_p, seq_tD, len_p, len_tD, Option.map_some]
        have fl : ∀ q, (List.replicate q (l.map dn)).flatten = ((List.replicate q l).flatten).map dn := fun q => by rw [List.map_flatten, List.map_replicate]
        rw [fl 60]
        rw [sl_takeL, ← List.map_take]
        simp -implicitDefEqProofs only [bnd_ret, of_some, all_nil, all_cons, g_nil, g_inl, g_inr, and_t, and_f, or_t, or_f, elt1_ret, eltIf_t, eltIf_f, it_t, it_f, bndF_nx, bndF_rt, fin_rt, fin_nx, t2_at, t3_at, part_n, add_n, lt_n, le_n, gt_n, ge_n, bl_b, tru_b, not_b, isN_n, isB_b, isNB_b, int_n, isi_int, isi_bool, isi_tup, seq_t, seq_l, len_t, len_l, tupOf_l, tupOf_t, tup1, tup2, tup3, tup4, sm0, sm1, sm2, sm3, sm4, ix_t, ix_l, lit0, lit1, lit2, lit3, lit4, lit5, lit6, lit8, lit9, lit12, lit16, lit60, Bool.not_true, Bool.not_false, g_0, g_1, nxL_ret, ite_true, ite_false, Bool.false_eq_true, seq_p, seq_tD, len_p, len_tD, Option.map_some]
        have lk : ((List.replicate 60 l).flatten.take k).length ≤ 60 := Nat.le_trans (List.length_take_le k _) hk
        refine al_ret (row_of_list (fun x hx => ?_) lk)
        have hx := List.mem_of_mem_take hx
        obtain ⟨y, hy, hxy⟩ := List.mem_flatten.mp hx
        rw [(List.mem_replicate.mp hy).2] at hxy
        exact hm x hxy
    · rw [decide_eq_false q1, if_neg (by simp), range_n (by omega)]
      simp -implicitDefEqProofs only [bnd_ret, of_some, all_nil, all_cons, g_nil, g_inl, g_inr, and_t, and_f, or_t, or_f, elt1_ret, eltIf_t, eltIf_f, it_t, it_f, bndF_nx, bndF_rt, fin_rt, fin_nx, t2_at, t3_at, part_n, add_n, lt_n, le_n, gt_n, ge_n, bl_b, tru_b, not_b, isN_n, isB_b, isNB_b, int_n, isi_int, isi_bool, isi_tup, seq_t, seq_l, len_t, len_l, tupOf_l, tupOf_t, tup1, tup2, tup3, tup4, sm0, sm1, sm2, sm3, sm4, ix_t, ix_l, lit0, lit1, lit2, lit3, lit4, lit5, lit6, lit8, lit9, lit12, lit16, lit60, Bool.not_true, Bool.not_false, g_0, g_1, nxL_ret, ite_true, ite_false, Bool.false_eq_true, seq_p, seq_tD, len_p, len_tD, Option.map_some]
      refine Al.le (al_bnd (n := 60) (k := 0) (P := fun d => ∃ r : List Nat, r.length ≤ 60 ∧ (∀ x ∈ r, x < n) ∧ d = tD r) ?_ fun d hd => al_ret hd) (by omega)
      refine Al.le (al_bnd (n := 60) (k := 0) (P := fun l' => ∃ r : List Nat, r.length ≤ 60 ∧ (∀ x ∈ r, x < n) ∧ l' = [.list (r.map dn)]) ?_ fun l' ⟨r, hr, hm, e⟩ => ?_) (by omega)
      · refine Al.le (al_bnd (n := 60) (k := 0) (P := fun d => ∃ r : List Nat, r.length ≤ 60 ∧ (∀ x ∈ r, x < n) ∧ d = .list (r.map dn)) ?_ fun d ⟨r, hr, hm, e⟩ => al_ret ⟨r, hr, hm, by rw [e]⟩) (by omega)
        refine Al.le (al_bnd (n := 60) (k := 0) (P := fun l => ∃ r : List Nat, r.length ≤ 60 ∧ (∀ x ∈ r, x < n) ∧ l = r.map dn) ?_ fun l ⟨r, hr, hm, e⟩ => al_ret ⟨r, hr, hm, by rw [e]⟩) (by omega)
        refine ((al_compn (c := dn) (m := n) (by omega) fun j hj => al_elt_draw' (by omega) (by omega)).le (k := 60) (by omega)).mono (Nat.le_refl _) fun l' ⟨g, e, hg⟩ => ?_
        exact ⟨(List.range k).map g, by simpa using hk, fun x hx => by
          obtain ⟨j, hj, rfl⟩ := List.mem_map.mp hx
          exact hg j (by simpa using hj), by rw [e, List.map_map]; rfl⟩
      · subst e
        simp -implicitDefEqProofs only [bnd_ret, of_some, all_nil, all_cons, g_nil, g_inl, g_inr, and_t, and_f, or_t, or_f, elt1_ret, eltIf_t, eltIf_f, it_t, it_f, bndF_nx, bndF_rt, fin_rt, fin_nx, t2_at, t3_at, part_n, add_n, lt_n, le_n, gt_n, ge_n, bl_b, tru_b, not_b, isN_n, isB_b, isNB_b, int_n, isi_int, isi_bool, isi_tup, seq_t, seq_l, len_t, len_l, tupOf_l, tupOf_t, tup1, tup2, tup3, tup4, sm0, sm1, sm2, sm3, sm4, ix_t, ix_l, lit0, lit1, lit2, lit3, lit4, lit5, lit6, lit8, lit9, lit12, lit16, lit60, Bool.not_true, Bool.not_false, g_0, g_1, nxL_ret, ite_true, ite_false, Bool.false_eq_true, seq_p, seq_tD, len_p, len_tD, Option.map_some]
        exact al_ret (row_of_list hm hr)
theorem al_row {n : Nat} (h1 : 1 ≤ n) (h8 : n ≤ 8) : Al (kn := "cells") 100 (mf__law_row [dn n, dn 60]) fun d => ∃ r : List Nat, r.length ≤ 60 ∧ (∀ x ∈ r, x < n) ∧ d = tD r := al_row' h1 h8 (Nat.le_refl _)
end K12
set_option Elab.async false
set_option linter.all false
set_option maxRecDepth 100000
set_option maxHeartbeats 2000000
namespace K12
open PySem PySem.Spec PyProof.Rows L2 Cz Rl
theorem law_all : Al (kn := "cells") 1000 m_law fun fl => fl = .rt (.bool true) := by
  simp -implicitDefEqProofs only [m_law, bnd_ret, of_some, all_nil, all_cons, g_nil, g_inl, g_inr, and_t, and_f, or_t, or_f, elt1_ret, eltIf_t, eltIf_f, it_t, it_f, bndF_nx, bndF_rt, fin_rt, fin_nx, t2_at, t3_at, part_n, add_n, lt_n, le_n, gt_n, ge_n, bl_b, tru_b, not_b, isN_n, isB_b, isNB_b, int_n, isi_int, isi_bool, isi_tup, seq_t, seq_l, len_t, len_l, tupOf_l, tupOf_t, tup1, tup2, tup3, tup4, sm0, sm1, sm2, sm3, sm4, ix_t, ix_l, lit0, lit1, lit2, lit3, lit4, lit5, lit6, lit8, lit9, lit12, lit16, lit60, Bool.not_true, Bool.not_false, g_0, g_1, nxL_ret, ite_true, ite_false, Bool.false_eq_true, seq_p, seq_tD, len_p, len_tD, Option.map_some]
  refine Al.le (al_bnd (n := 1) (k := 500) (P := fun d => ∃ n, 1 ≤ n ∧ n ≤ 8 ∧ d = dn n) ?_ fun d1 ⟨n, h1, h8, e⟩ => ?_) (by omega)
  · rw [tupD_le (by simp)]
    simp -implicitDefEqProofs only [bnd_ret, of_some, all_nil, all_cons, g_nil, g_inl, g_inr, and_t, and_f, or_t, or_f, elt1_ret, eltIf_t, eltIf_f, it_t, it_f, bndF_nx, bndF_rt, fin_rt, fin_nx, t2_at, t3_at, part_n, add_n, lt_n, le_n, gt_n, ge_n, bl_b, tru_b, not_b, isN_n, isB_b, isNB_b, int_n, isi_int, isi_bool, isi_tup, seq_t, seq_l, len_t, len_l, tupOf_l, tupOf_t, tup1, tup2, tup3, tup4, sm0, sm1, sm2, sm3, sm4, ix_t, ix_l, lit0, lit1, lit2, lit3, lit4, lit5, lit6, lit8, lit9, lit12, lit16, lit60, Bool.not_true, Bool.not_false, g_0, g_1, nxL_ret, ite_true, ite_false, Bool.false_eq_true, seq_p, seq_tD, len_p, len_tD, Option.map_some]
    refine Al.le (al_bnd (n := 1) (k := 0) (al_draw (by omega) (by omega)) fun d ⟨v, hv, e⟩ => ?_) (by omega)
    subst e
    rw [ix_t]
    match v, hv with
    | 0, _ => exact al_ret ⟨3, by omega, by omega, rfl⟩
    | 1, _ => exact al_ret ⟨2, by omega, by omega, rfl⟩
    | 2, _ => exact al_ret ⟨4, by omega, by omega, rfl⟩
    | 3, _ => exact al_ret ⟨3, by omega, by omega, rfl⟩
    | 4, _ => exact al_ret ⟨4, by omega, by omega, rfl⟩
    | 5, _ => exact al_ret ⟨2, by omega, by omega, rfl⟩
    | 6, _ => exact al_ret ⟨5, by omega, by omega, rfl⟩
    | 7, _ => exact al_ret ⟨1, by omega, by omega, rfl⟩
    | 8, _ => exact al_ret ⟨6, by omega, by omega, rfl⟩
    | 9, _ => exact al_ret ⟨3, by omega, by omega, rfl⟩
    | 10, _ => exact al_ret ⟨7, by omega, by omega, rfl⟩
    | 11, _ => exact al_ret ⟨8, by omega, by omega, rfl⟩
  subst e
  refine Al.le (al_bnd (n := 200) (k := 250) (al_lefts h1 h8) fun d2 ⟨L, hL, e⟩ => ?_) (by omega)
  subst e
  rw [e_law_table h8 hL]
  simp -implicitDefEqProofs only [bnd_ret, of_some, all_nil, all_cons, g_nil, g_inl, g_inr, and_t, and_f, or_t, or_f, elt1_ret, eltIf_t, eltIf_f, it_t, it_f, bndF_nx, bndF_rt, fin_rt, fin_nx, t2_at, t3_at, part_n, add_n, lt_n, le_n, gt_n, ge_n, bl_b, tru_b, not_b, isN_n, isB_b, isNB_b, int_n, isi_int, isi_bool, isi_tup, seq_t, seq_l, len_t, len_l, tupOf_l, tupOf_t, tup1, tup2, tup3, tup4, sm0, sm1, sm2, sm3, sm4, ix_t, ix_l, lit0, lit1, lit2, lit3, lit4, lit5, lit6, lit8, lit9, lit12, lit16, lit60, Bool.not_true, Bool.not_false, g_0, g_1, nxL_ret, ite_true, ite_false, Bool.false_eq_true, seq_p, seq_tD, len_p, len_tD, Option.map_some]
  refine Al.le (al_bnd (n := 100) (k := 100) (al_row h1 h8) fun d4 ⟨r, hr, hrm, e⟩ => ?_) (by omega)
  subst e
  refine Al.le (al_bnd (n := 100) (k := 0) (al_row h1 h8) fun d5 ⟨s, hs, hsm, e⟩ => ?_) (by omega)
  subst e
  have hrs : ∀ x ∈ r ++ s, x < n := fun x hx => (List.mem_append.mp hx).elim (hrm x) (hsm x)
  have e1 := e_is_read h1 h8 hL (r := r) (by omega) hrm
  have e2 := e_is_written h1 h8 hL (o := s) (by omega) hsm
  have e3 := add_tD (l := r) (m := s) (by omega)
  have e4 := e_is_row h1 h8 hL (r := r ++ s) (by simp; omega) hrs
  simp -implicitDefEqProofs only [bnd_ret, of_some, all_nil, all_cons, g_nil, g_inl, g_inr, and_t, and_f, or_t, or_f, elt1_ret, eltIf_t, eltIf_f, it_t, it_f, bndF_nx, bndF_rt, fin_rt, fin_nx, t2_at, t3_at, part_n, add_n, lt_n, le_n, gt_n, ge_n, bl_b, tru_b, not_b, isN_n, isB_b, isNB_b, int_n, isi_int, isi_bool, isi_tup, seq_t, seq_l, len_t, len_l, tupOf_l, tupOf_t, tup1, tup2, tup3, tup4, sm0, sm1, sm2, sm3, sm4, ix_t, ix_l, lit0, lit1, lit2, lit3, lit4, lit5, lit6, lit8, lit9, lit12, lit16, lit60, Bool.not_true, Bool.not_false, g_0, g_1, nxL_ret, ite_true, ite_false, Bool.false_eq_true, seq_p, seq_tD, len_p, len_tD, Option.map_some, e1, e2, e3, e4, decide_true, sub_n (by omega : r.length ≤ 60)]
  have e5 : gSl (tD s) none (some ((60 - r.length : Nat) : Int)) = some (tD (s.take (60 - r.length))) := by
    unfold tD
    rw [slt_take, List.map_take]
  have hs2 : (s.take (60 - r.length)).length ≤ 60 - r.length := by simp; omega
  have hsm2 : ∀ x ∈ s.take (60 - r.length), x < n := fun x hx => hsm x (List.mem_of_mem_take hx)
  have e6 := e_is_joined h1 h8 hL (r := r) (s := s.take (60 - r.length)) (by omega) hrm hsm2
  simp -implicitDefEqProofs only [bnd_ret, of_some, all_nil, all_cons, g_nil, g_inl, g_inr, and_t, and_f, or_t, or_f, elt1_ret, eltIf_t, eltIf_f, it_t, it_f, bndF_nx, bndF_rt, fin_rt, fin_nx, t2_at, t3_at, part_n, add_n, lt_n, le_n, gt_n, ge_n, bl_b, tru_b, not_b, isN_n, isB_b, isNB_b, int_n, isi_int, isi_bool, isi_tup, seq_t, seq_l, len_t, len_l, tupOf_l, tupOf_t, tup1, tup2, tup3, tup4, sm0, sm1, sm2, sm3, sm4, ix_t, ix_l, lit0, lit1, lit2, lit3, lit4, lit5, lit6, lit8, lit9, lit12, lit16, lit60, Bool.not_true, Bool.not_false, g_0, g_1, nxL_ret, ite_true, ite_false, Bool.false_eq_true, seq_p, seq_tD, len_p, len_tD, Option.map_some, e5, e6]
  by_cases q : 5 < n
  · rw [decide_eq_true q]
    simp -implicitDefEqProofs only [bnd_ret, of_some, all_nil, all_cons, g_nil, g_inl, g_inr, and_t, and_f, or_t, or_f, elt1_ret, eltIf_t, eltIf_f, it_t, it_f, bndF_nx, bndF_rt, fin_rt, fin_nx, t2_at, t3_at, part_n, add_n, lt_n, le_n, gt_n, ge_n, bl_b, tru_b, not_b, isN_n, isB_b, isNB_b, int_n, isi_int, isi_bool, isi_tup, seq_t, seq_l, len_t, len_l, tupOf_l, tupOf_t, tup1, tup2, tup3, tup4, sm0, sm1, sm2, sm3, sm4, ix_t, ix_l, lit0, lit1, lit2, lit3, lit4, lit5, lit6, lit8, lit9, lit12, lit16, lit60, Bool.not_true, Bool.not_false, g_0, g_1, nxL_ret, ite_true, ite_false, Bool.false_eq_true, seq_p, seq_tD, len_p, len_tD, Option.map_some]
    exact al_ret rfl
  · rw [decide_eq_false q]
    have e7 := add_tD (l := r) (m := s.take (60 - r.length)) (by omega)
    have e8 := e_is_read h1 h8 hL (r := r ++ s.take (60 - r.length)) (by simp; omega) (fun x hx => (List.mem_append.mp hx).elim (hrm x) (hsm2 x))
    simp -implicitDefEqProofs only [bnd_ret, of_some, all_nil, all_cons, g_nil, g_inl, g_inr, and_t, and_f, or_t, or_f, elt1_ret, eltIf_t, eltIf_f, it_t, it_f, bndF_nx, bndF_rt, fin_rt, fin_nx, t2_at, t3_at, part_n, add_n, lt_n, le_n, gt_n, ge_n, bl_b, tru_b, not_b, isN_n, isB_b, isNB_b, int_n, isi_int, isi_bool, isi_tup, seq_t, seq_l, len_t, len_l, tupOf_l, tupOf_t, tup1, tup2, tup3, tup4, sm0, sm1, sm2, sm3, sm4, ix_t, ix_l, lit0, lit1, lit2, lit3, lit4, lit5, lit6, lit8, lit9, lit12, lit16, lit60, Bool.not_true, Bool.not_false, g_0, g_1, nxL_ret, ite_true, ite_false, Bool.false_eq_true, seq_p, seq_tD, len_p, len_tD, Option.map_some, e7, e8]
    exact al_ret rfl
end K12
set_option Elab.async false
set_option linter.all false
set_option maxRecDepth 100000
set_option maxHeartbeats 2000000
namespace K12
open PySem PySem.Spec PyProof.Rows L2 Cz Rl
theorem deck_loop {S : Type} {f : D → D → Mo S (Fl D)} (hf : ∀ c i : Int, 0 ≤ i → i < 2147483587 → f (.int c) (.int i) = mRet (.nx (.int ((i * 48271 + c % 2147483629 + 77) % 2147483587)))) :
    ∀ (ns : List Int) (i : Int), 0 ≤ i → i < 2147483587 → ∃ j : Int, 0 ≤ j ∧ j < 2147483587 ∧ mFor (ns.map PyData.int) (.int i) f = mRet (.nx (.int j))
  | [], i, h0, h1 => ⟨i, h0, h1, rfl⟩
  | c :: ns, i, h0, h1 => by
    obtain ⟨j, j0, j1, e⟩ := deck_loop hf ns ((i * 48271 + c % 2147483629 + 77) % 2147483587) (Int.emod_nonneg _ (by omega)) (Int.emod_lt_of_pos _ (by omega))
    refine ⟨j, j0, j1, ?_⟩
    show mBndF (f (.int c) (.int i)) _ = _
    rw [hf c i h0 h1, bndF_nx]
    exact e
theorem cut63 (ns : List Int) (h : ns.length ≤ 63) : Cz.cutD (ns.map PyData.int) none (some 63) = ns.map PyData.int := by
  unfold Cz.cutD
  have e : HT.sIx (ns.map PyData.int).length (ns.map PyData.int).length (some 63) = ns.length := by
    have := HT.sIx_nat (ns.map PyData.int).length (ns.map PyData.int).length 63
    rw [List.length_map] at this ⊢
    rw [show (some (63 : Int)) = some ((63 : Nat) : Int) from rfl, this]
    omega
  rw [e, HT.sIx_none, List.drop_zero, Nat.sub_zero, List.take_of_length_le (by simp)]
theorem flat_ints (ns : List Int) : gFlat (ns.map PyData.int) = some (ns.map PyData.int) := by
  have e : (ns.map PyData.int).all flatD = true := by
    induction ns with
    | nil => rfl
    | cons a l ih => simpa [List.all_cons, flatD] using ih
  exact if_pos e
def F0 (K : PySem.W.Frag) : D → D → Mo (Sc K) (Fl D) := fun c4 (a2 : D) => (mBnd (mBnd (mBnd (mAll [(mBnd (mBnd (mBnd (mRet a2) fun x6 => mBnd (mRet (.int 48271)) fun y7 => mOf (gMulT x6 y7)) fun x10 => mBnd (mBnd (mBnd (mAll [(mRet c4)]) fun ds => mOf (gInt ds)) fun x8 => mBnd (mRet (.int 2147483629)) fun y9 => mOf (gMod x8 y9)) fun y11 => mOf (gAdd x10 y11)) fun x12 => mBnd (mRet (.int 77)) fun y13 => mOf (gAdd x12 y13))]) fun ds => mOf (gInt ds)) fun x14 => mBnd (mRet (.int 2147483587)) fun y15 => mOf (gMod x14 y15)) fun d5 => (mRet (.nx (d5))))
theorem deck_all {K : PySem.W.Frag} (ns : List Int) (h : ns.length ≤ 63) : ∃ (l : List Int) (i : Int), (mD_law (K := K)) ⟨ns⟩ = .ok (deckD "cells" (l.map .int) i 0) ⟨ns⟩ ∧ l.length ≤ 63 ∧ 0 ≤ i ∧ i < 2147483587 := by
  have sc : ∀ {Q : D → Sc K → Prop}, Q (.list (ns.map .int)) ⟨ns⟩ → Wp (mScut (K := K) (mPart (mRet (.int 63)))) ⟨ns⟩ Q := fun {Q} hq => ⟨_, ⟨ns⟩, by
    show Out.ok (PyData.list (Cz.cutD (ns.map .int) none (some 63))) (⟨ns⟩ : Sc K) = _
    rw [cut63 ns h], hq⟩
  have sc1 : ∀ {Q : List D → Sc K → Prop}, Q [.list (ns.map .int)] ⟨ns⟩ → Wp (mAll [mScut (K := K) (mPart (mRet (.int 63)))]) ⟨ns⟩ Q := fun {Q} hq => ⟨_, ⟨ns⟩, by
    show Out.ok [PyData.list (Cz.cutD (ns.map .int) none (some 63))] (⟨ns⟩ : Sc K) = _
    rw [cut63 ns h], hq⟩
  have main : Wp (mf__law_deck (K := K) []) ⟨ns⟩ fun d s' => s' = ⟨ns⟩ ∧ ∃ (l : List Int) (i : Int), d = deckD "cells" (l.map .int) i 0 ∧ l.length ≤ 63 ∧ 0 ≤ i ∧ i < 2147483587 := by
    unfold mf__law_deck m__law_deck
    refine wp_fin (wp_bnd (wp_ret (wp_bnd (wp_bnd (sc (wp_of seq_l (wp_bndF ?_)))))))
    have hf : ∀ c i : Int, 0 ≤ i → i < 2147483587 → F0 K (.int c) (.int i) = mRet (.nx (.int ((i * 48271 + c % 2147483629 + 77) % 2147483587))) := fun c i h0 h1 => by
      have c1 : gMulT (.int i) (.int 48271) = some (.int (i * 48271)) := mul_i (by omega) (by omega)
      have c2 : gMod (.int c) (.int 2147483629) = some (.int (c % 2147483629)) := mod_i (by omega)
      have c3 : ∀ z, gMod (.int z) (.int 2147483587) = some (.int (z % 2147483587)) := fun z => mod_i (by omega)
      simp -implicitDefEqProofs only [F0, bnd_ret, all_nil, all_cons, of_some, c1, int_i, c2, add_i, c3]
    obtain ⟨j, j0, j1, e⟩ := deck_loop (f := F0 K) hf ns 10882012 (by omega) (by omega)
    have ew : ∀ {Q : Fl D → Sc K → Prop}, Q (.nx (.int j)) ⟨ns⟩ → Wp (mFor (ns.map PyData.int) (.int 10882012) (F0 K)) ⟨ns⟩ Q := fun {Q} hq => ⟨_, _, congrFun e _, hq⟩
    unfold F0 at ew
    refine ew (wp_bnd ?_)
    refine wp_bnd (wp_bnd (wp_bnd (sc1 (wp_of (a := .list (ns.map .int)) rfl ?_))))
    show Wp (mRet (ns.map PyData.int).reverse) _ _
    refine wp_ret (wp_bnd ?_)
    rw [← List.map_reverse, flat_ints]
    exact wp_of rfl (wp_bnd (wp_ret (wp_bnd (wp_ret (wp_bnd (wp_ret (wp_bnd (wp_ret (wp_ret (wp_ret ⟨rfl, ns.reverse, j, rfl, by simpa using h, j0, j1⟩))))))))))
  obtain ⟨d, s', e, rfl, l, i, rfl, hl, i0, i1⟩ := main
  exact ⟨l, i, e, hl, i0, i1⟩
theorem law_true {K : PySem.W.Frag} (ns : List Int) (hl : ns.length ≤ 63) (hb : ∀ z ∈ ns, Builtin.Int.intBits z ≤ 1048576) : ∃ (l : List Int) (i j : Int) (s' : Sc K) (s2 : S0), mD_law ⟨ns⟩ = .ok (deckD "cells" (l.map .int) i j) s' ∧ m_law ⟨l, i, j⟩ = .ok (.rt (.bool true)) s2 := by
  obtain ⟨l, i, e, l63, i0, i1⟩ := deck_all (K := K) ns hl
  obtain ⟨fl, s2, e2, p, _, _⟩ := law_all ⟨l, i, 0⟩ ⟨by dsimp only; omega, i0, i1, by dsimp only; omega⟩ (by dsimp only; omega)
  subst p
  exact ⟨l, i, 0, _, s2, e, e2⟩
end K12
set_option Elab.async false
set_option linter.all false
set_option maxRecDepth 100000
open PySem PySem.W PySem.Calls PyProof.Rows
set_option maxRecDepth 100000 in
set_option maxHeartbeats 0 in
theorem PySem.Challenge.cw_threesfit_k12_orders_and_rows_holds : PySem.Challenge.rw_threesfit_k12_orders_and_rows.Holds := by
  w_on; o_law
  refine HandSHeadRun.head_imp (r := OpenLaw.row PySem.Challenge.rw_threesfit_k12_orders_and_rows) (q := view (OpenLaw.row PySem.Challenge.rw_threesfit_k12_orders_and_rows).prog [0, 53]) (H := K12.hk) (ob := K12.ob) (M := 8000) (loose := K12.names) (d := HandSHeadRun.topDef (OpenLaw.row PySem.Challenge.rw_threesfit_k12_orders_and_rows).prog 53) (kwd := []) K12.ob_eq
    K12.run (by kernel_rfl) (by kernel_rfl) (by rfl) (by kernel_rfl) (by kernel_rfl) (by kernel_rfl) ⟨rfl, rfl, rfl, rfl, rfl, by decide +kernel⟩ ?hw ?hc
  case hw => w_witness2
  case hc =>
    refine Cz.walkG (l := PySem.Challenge.rw_threesfit_k12_orders_and_rows) (n := 63) (k := 12) (x := "_law_script") rfl (by decide) (by kernel_rfl) ⟨rfl, by decide, by decide⟩ ?F
    intro w mg fa h Y G hmg0
    obtain ⟨K, KX, c⟩ := Y
    have hmg : mg ("law" : PySem.Str) = some (.ref fa) := by
      have e : (HandSHeadRun.topDef (OpenLaw.row PySem.Challenge.rw_threesfit_k12_orders_and_rows).prog 53).name = ("law" : PySem.Str) := by kernel_rfl
      rw [← e]
      exact hmg0
    obtain ⟨fd, hb, hF⟩ := K12.law_ok (P := (PySem.Challenge.rw_threesfit_k12_orders_and_rows).prog) (w := w) KX G hmg c (fun ns => ns.length ≤ 63 ∧ ∀ z ∈ ns, Builtin.Int.intBits z ≤ 1048576) (fun ns hp => K12.law_true ns hp.1 hp.2)
    exact ⟨K, fd, Cz.spLaw K _, KX, hb, fun H a ns hl hbits hO hS => ⟨a, ns, rfl, Cz.ScAt.of hO hS, ⟨hl, hbits⟩, fun _ => rfl⟩, hF⟩
