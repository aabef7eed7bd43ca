import PyProof.Rows.All
import Wide.All
import OpenK.AllK
import Wide.FinOn
import HandS.ForExc
import HandS.Comp
import HandS.Walk
import HandS.Wide
import HandS.Gcd
import HandS.Zip
import HandS.Defaults
import HandS.Ends
import HandS.IsInst
import HandS.TupAny
import HandS.TupMul
import HandS.Deep
import HandS.Text
import HandS.Conv
import HandS.Lambda
import HandS.ExcInit
import HandS.ExcField
import HandS.ExcIs
import KE.KExcIs
import HandS.EndTab
import HandS.Style
import PyProof.ReprLen
import PySem.Challenge.RW_tiesums_k03_fractions_and_weights_refuse
set_option Elab.async false
set_option linter.all false
set_option maxRecDepth 100000
set_option maxHeartbeats 4000000
/-! values as data; slots; what a reading comes to, over data alone -/
namespace DL
open PySem PySem.Spec PyProof.Rows L2

inductive D where
  | non | bl (b : Bool) | int (i : Int) | str (x : Str) | val (v : V)
  | tup (xs : List D) | lst (xs : List D) | dic (kvs : List (Key × D)) | dct (kvs : List (List Key × D))
  | ins (C : Addr) (fs : List (Str × D)) | exc (C : Addr) (d : D) | scr (ns : List Int)

/-- an exception's object, held as a value -/
def ExV (a C dx : Addr) : HO := .ext fun h => ∃ (oe : Obj) (vs : Array Value), h.get? a = some oe ∧ Zc (.ref C) (some dx) oe ∧ oe.data = .fields vs

mutual
inductive Is (K : PySem.W.Frag) (G : Hp) : V → D → Prop
  | non : Is K G .non .non
  | bl (b : Bool) : Is K G (.bl b) (.bl b)
  | int (i : Int) : Is K G (.int i) (.int i)
  | str (x : Str) : Is K G (.str x) (.str x)
  | val (v : V) : Is K G v (.val v)
  | tup {a : Addr} {vs : List V} {ds : List D} : SqT K G a vs → IsL K G vs ds → Is K G (.ref a) (.tup ds)
  | lst {a : Addr} {vs : List V} {ds : List D} : G a = some (.lst vs) → IsL K G vs ds → Is K G (.ref a) (.lst ds)
  | dic {a : Addr} {vs : List (Key × V)} {ds : List (Key × D)} : G a = some (.dK vs) → IsK K G vs ds → Is K G (.ref a) (.dic ds)
  | dct {a : Addr} {vs : List (List Key × V)} {ds : List (List Key × D)} : G a = some (.dT vs) → IsT K G vs ds → Is K G (.ref a) (.dct ds)
  | ins {a dx C : Addr} {vs : List (Str × V)} {ds : List (Str × D)} : G a = some (.ins C dx vs) → IsF K G vs ds → Is K G (.ref a) (.ins C ds)
  | scr {a : Addr} {ns : List Int} : SqL K G a (ns.map V.int) → Is K G (.ref a) (.scr ns)
  | exc {a dx C : Addr} {v : V} {d : D} : G a = some (ExV a C dx) → G dx = some (.xd [("value", v)]) → Is K G v d → Is K G (.ref a) (.exc C d)
inductive IsL (K : PySem.W.Frag) (G : Hp) : List V → List D → Prop
  | nil : IsL K G [] []
  | cons {v : V} {vs : List V} {d : D} {ds : List D} : Is K G v d → IsL K G vs ds → IsL K G (v :: vs) (d :: ds)
inductive IsK (K : PySem.W.Frag) (G : Hp) : List (Key × V) → List (Key × D) → Prop
  | nil : IsK K G [] []
  | cons {k : Key} {v : V} {vs : List (Key × V)} {d : D} {ds : List (Key × D)} : Is K G v d → IsK K G vs ds → IsK K G ((k, v) :: vs) ((k, d) :: ds)
inductive IsT (K : PySem.W.Frag) (G : Hp) : List (List Key × V) → List (List Key × D) → Prop
  | nil : IsT K G [] []
  | cons {k : List Key} {v : V} {vs : List (List Key × V)} {d : D} {ds : List (List Key × D)} : Is K G v d → IsT K G vs ds → IsT K G ((k, v) :: vs) ((k, d) :: ds)
inductive IsF (K : PySem.W.Frag) (G : Hp) : List (Str × V) → List (Str × D) → Prop
  | nil : IsF K G [] []
  | cons {k : Str} {v : V} {vs : List (Str × V)} {d : D} {ds : List (Str × D)} : Is K G v d → IsF K G vs ds → IsF K G ((k, v) :: vs) ((k, d) :: ds)
end

theorem seqL_mono {K : PySem.W.Frag} {G G' : Hp} {a : Addr} {xs : List V} (e : Same G G') (h : SqL K G a xs) : SqL K G' a xs := e.seq h
theorem seqT_mono {K : PySem.W.Frag} {G G' : Hp} {a : Addr} {xs : List V} (e : Same G G') (h : SqT K G a xs) : SqT K G' a xs := by
  rcases h with (h | ⟨o, h⟩) | h
  · exact .inl (.inl (e _ _ h))
  · exact .inl (.inr ⟨o, e _ _ h⟩)
  · exact .inr h

section
variable {K : PySem.W.Frag} {G G' : Hp}
mutual
theorem Is.mono (e : Same G G') : ∀ {v : V} {d : D}, Is K G v d → Is K G' v d
  | _, _, .non => .non
  | _, _, .bl b => .bl b
  | _, _, .int i => .int i
  | _, _, .str x => .str x
  | _, _, .val v => .val v
  | _, _, .tup h t => .tup (seqT_mono e h) (IsL.mono e t)
  | _, _, .lst h t => .lst (e _ _ h) (IsL.mono e t)
  | _, _, .dic h t => .dic (e _ _ h) (IsK.mono e t)
  | _, _, .dct h t => .dct (e _ _ h) (IsT.mono e t)
  | _, _, .ins h t => .ins (e _ _ h) (IsF.mono e t)
  | _, _, .scr h => .scr (seqL_mono e h)
  | _, _, .exc h h2 t => .exc (e _ _ h) (e _ _ h2) (Is.mono e t)
theorem IsL.mono (e : Same G G') : ∀ {v : List V} {d : List D}, IsL K G v d → IsL K G' v d
  | _, _, .nil => .nil
  | _, _, .cons h t => .cons (Is.mono e h) (IsL.mono e t)
theorem IsK.mono (e : Same G G') : ∀ {v : List (Key × V)} {d : List (Key × D)}, IsK K G v d → IsK K G' v d
  | _, _, .nil => .nil
  | _, _, .cons h t => .cons (Is.mono e h) (IsK.mono e t)
theorem IsT.mono (e : Same G G') : ∀ {v : List (List Key × V)} {d : List (List Key × D)}, IsT K G v d → IsT K G' v d
  | _, _, .nil => .nil
  | _, _, .cons h t => .cons (Is.mono e h) (IsT.mono e t)
theorem IsF.mono (e : Same G G') : ∀ {v : List (Str × V)} {d : List (Str × D)}, IsF K G v d → IsF K G' v d
  | _, _, .nil => .nil
  | _, _, .cons h t => .cons (Is.mono e h) (IsF.mono e t)
end
theorem IsL.length : ∀ {vs : List V} {ds : List D}, IsL K G vs ds → vs.length = ds.length
  | _, _, .nil => rfl
  | _, _, .cons _ t => by rw [List.length_cons, List.length_cons, IsL.length t]
theorem IsL.get : ∀ {vs : List V} {ds : List D} {i : Nat} {d : D}, IsL K G vs ds → ds[i]? = some d → ∃ v, vs[i]? = some v ∧ Is K G v d
  | _, _, _, _, .nil, e => by simp at e
  | _, _, 0, _, .cons h _, e => by
    simp at e
    subst e
    exact ⟨_, rfl, h⟩
  | _, _, i + 1, d, .cons _ t, e => by
    obtain ⟨v, h1, h2⟩ := IsL.get (i := i) (d := d) t (by simpa using e)
    exact ⟨v, by simpa using h1, h2⟩
theorem IsL.getV : ∀ {vs : List V} {ds : List D} {i : Nat} {v : V}, IsL K G vs ds → vs[i]? = some v → ∃ d, ds[i]? = some d ∧ Is K G v d
  | _, _, _, _, .nil, e => by simp at e
  | _, _, 0, _, .cons h _, e => by
    simp at e
    subst e
    exact ⟨_, rfl, h⟩
  | _, _, i + 1, d, .cons _ t, e => by
    obtain ⟨v, h1, h2⟩ := IsL.getV (i := i) (v := d) t (by simpa using e)
    exact ⟨v, by simpa using h1, h2⟩
theorem IsL.append : ∀ {vs ws : List V} {ds es : List D}, IsL K G vs ds → IsL K G ws es → IsL K G (vs ++ ws) (ds ++ es)
  | _, _, _, _, .nil, s => s
  | _, _, _, _, .cons h t, s => .cons h (IsL.append t s)
theorem IsL.take : ∀ {vs : List V} {ds : List D} (n : Nat), IsL K G vs ds → IsL K G (vs.take n) (ds.take n)
  | _, _, 0, _ => .nil
  | _, _, _ + 1, .nil => .nil
  | _, _, n + 1, .cons h t => .cons h (IsL.take n t)
theorem IsL.drop : ∀ {vs : List V} {ds : List D} (n : Nat), IsL K G vs ds → IsL K G (vs.drop n) (ds.drop n)
  | _, _, 0, r => r
  | _, _, _ + 1, .nil => .nil
  | _, _, n + 1, .cons _ t => IsL.drop n t
theorem IsL.erase : ∀ {vs : List V} {ds : List D} (n : Nat), IsL K G vs ds → IsL K G (vs.eraseIdx n) (ds.eraseIdx n)
  | _, _, _, .nil => .nil
  | _, _, 0, .cons _ t => t
  | _, _, n + 1, .cons h t => .cons h (IsL.erase n t)
theorem IsL.set {v : V} {d : D} (h : Is K G v d) : ∀ {vs : List V} {ds : List D} (n : Nat), IsL K G vs ds → IsL K G (vs.set n v) (ds.set n d)
  | _, _, _, .nil => .nil
  | _, _, 0, .cons _ t => .cons h t
  | _, _, n + 1, .cons q t => .cons q (IsL.set h n t)
theorem IsL.rev : ∀ {vs : List V} {ds : List D}, IsL K G vs ds → IsL K G vs.reverse ds.reverse
  | _, _, .nil => .nil
  | _, _, .cons h t => by
    rw [List.reverse_cons, List.reverse_cons]
    exact (IsL.rev t).append (.cons h .nil)
end

/-- a list of three ints: what it gives out next hangs on it; at most k numbers were given out by its third -/
def PotAt (H : Hp) (a : Addr) (k : Nat) : Prop := ∃ x y n : Int, H a = some (.lst [.int x, .int y, .int n]) ∧ 0 ≤ x ∧ x < 2 ^ 1000 ∧ 0 ≤ y ∧ y < 2305843009213693921 ∧ 0 ≤ n ∧ n ≤ (k : Int)
theorem PotAt.mono {H : Hp} {a : Addr} {k k' : Nat} (h : PotAt H a k) (e : k ≤ k') : PotAt H a k' := by
  obtain ⟨x, y, n, h1, h2, h3, h4, h5, h6, h7⟩ := h
  exact ⟨x, y, n, h1, h2, h3, h4, h5, h6, by omega⟩

/-- an object of one's own: a dict of either kind, an instance -/
inductive OD where
  | dk (kvs : List (Key × D)) | dt (kvs : List (List Key × D)) | ins (C : Addr) (fs : List (Str × D))
inductive IsO (K : PySem.W.Frag) (G : Hp) : HO → OD → Prop
  | dk {vs : List (Key × V)} {ds : List (Key × D)} : IsK K G vs ds → IsO K G (.dK vs) (.dk ds)
  | dt {vs : List (List Key × V)} {ds : List (List Key × D)} : IsT K G vs ds → IsO K G (.dT vs) (.dt ds)
  | ins {C dx : Addr} {vs : List (Str × V)} {ds : List (Str × D)} : IsF K G vs ds → IsO K G (.ins C dx vs) (.ins C ds)
theorem IsO.mono {K : PySem.W.Frag} {G G' : Hp} (e : Same G G') {o : HO} {x : OD} (h : IsO K G o x) : IsO K G' o x := by
  cases h with
  | dk t => exact .dk (IsK.mono e t)
  | dt t => exact .dt (IsT.mono e t)
  | ins t => exact .ins (IsF.mono e t)
theorem IsO.nt {K : PySem.W.Frag} {G : Hp} {o : HO} {x : OD} (h : IsO K G o x) : (∀ ps, o ≠ .tbl ps) ∧ ∀ f, o ≠ .ext f := by
  cases h <;> exact ⟨(fun _ z => nomatch z), (fun _ z => nomatch z)⟩
inductive Slot where
  | un | dat (d : D) | own (ds : List D) | pot (a : Addr) (k : Nat) | obj (x : OD)
/-- what may be changed through it -/
def Slot.mu : Slot → Bool
  | .own _ => true
  | .pot _ _ => true
  | .obj _ => true
  | _ => false

/-- a call's ground: the written part, the frozen and the whole heap at its start, what it may change -/
structure Fx where
  K : PySem.W.Frag
  G0 : Hp
  H0 : Hp
  F0 : Addr → Prop

/-- the tables of code objects, and the name that their code objects bear -/
class TabT where
  T : List (Addr × Str)
variable [TabT]
/-- no table of code objects is frozen -/
def NoT (G : Hp) : Prop := ∀ b ps, G b ≠ some (.tbl ps)
/-- frozen things stay and grow by new ones; all things but those of F stay -/
structure Ext (G H G' H' : Hp) (F : Addr → Prop) : Prop where
  gg : Same G G'
  gh : Same G' H'
  fr : ∀ b o, H b = some o → (∀ ps, o ≠ .tbl ps) → ¬ F b → H' b = some o
  nf : ∀ b o, H b = some o → G b = none → ¬ F b → G' b = none
  th : ∀ b o, H b = some o → ∃ u, H' b = some u
  tt : LamX.Tabs TabT.T H → LamX.Tabs TabT.T H'
  nt : NoT G → NoT G'
theorem Ext.refl {G H : Hp} {F : Addr → Prop} (h : Same G H) : Ext G H G H F := ⟨Same.refl G, h, fun _ _ e _ _ => e, fun _ _ _ e _ => e, fun _ o e => ⟨o, e⟩, fun t => t, fun n => n⟩
theorem Ext.mono {G H G' H' : Hp} {F F' : Addr → Prop} (e : Ext G H G' H' F) (h : ∀ b, F b → F' b) : Ext G H G' H' F' :=
  ⟨e.gg, e.gh, fun b o q t n => e.fr b o q t fun z => n (h b z), fun b o q n m => e.nf b o q n fun z => m (h b z), e.th, e.tt, e.nt⟩
theorem Ext.trans {G H G1 H1 G2 H2 : Hp} {F F' : Addr → Prop} (a : Ext G H G1 H1 F) (b : Ext G1 H1 G2 H2 F') (h : ∀ x o, H x = some o → F' x → F x) : Ext G H G2 H2 F where
  gg := a.gg.trans b.gg
  gh := b.gh
  fr := fun x o e t n => b.fr x o (a.fr x o e t n) t fun z => n (h x o e z)
  nf := fun x o e q n =>
    let ⟨u, e1⟩ := a.th x o e
    b.nf x u e1 (a.nf x o e q n) fun z => n (h x o e z)
  th := fun x o e =>
    let ⟨u, e1⟩ := a.th x o e
    b.th x u e1
  tt := fun t => b.tt (a.tt t)
  nt := fun n => b.nt (a.nt n)
/-- not a table -/
theorem ext_tbl {f : Heap → Prop} {ps : Array Value} : HO.ext f ≠ .tbl ps := fun z => by cases z
/-- one object is written, no table, no code object -/
theorem tabs_upd {H : Hp} {p : Addr} {o u : HO} {T : List (Addr × Str)} (h : H p = some u) (n1 : ∀ ps, u ≠ .tbl ps) (n2 : ∀ f, u ≠ .ext f) (t : LamX.Tabs T H) : LamX.Tabs T (upd H p o) := fun q hq => by
  obtain ⟨ps, h1, h2, h3⟩ := t q hq
  refine ⟨ps, ?_, h2, fun pos cv hc => ?_⟩
  · rw [upd_ne fun z => by
      rw [z, h] at h1
      exact n1 ps (Option.some.inj h1)]
    exact h1
  · obtain ⟨c, e1, e2⟩ := h3 pos cv hc
    refine ⟨c, e1, ?_⟩
    rw [upd_ne fun z => by
      rw [z, h] at e2
      exact n2 _ (Option.some.inj e2)]
    exact e2
theorem tabs_new {H : Hp} {p : Addr} {o : HO} {T : List (Addr × Str)} (n : H p = none) (t : LamX.Tabs T H) : LamX.Tabs T (upd H p o) := t.ext fun b u e => by
  rw [upd_ne (ne_of_none e n)]
  exact e
theorem NoT.upd {G : Hp} {p : Addr} {o : HO} (g : NoT G) (h : ∀ ps, o ≠ .tbl ps) : NoT (L2.upd G p o) := fun b ps e => by
  by_cases hb : b = p
  · subst hb
    rw [upd_same] at e
    exact h ps (Option.some.inj e)
  · rw [upd_ne hb] at e
    exact g b ps e
/-- a new object, frozen at once -/
theorem Ext.new {G H : Hp} {F : Addr → Prop} (h : Same G H) {p : Addr} (n : H p = none) (o : HO) (ho : ∀ ps, o ≠ .tbl ps := by (intro _ z; first | cases z | exact ext_tbl z)) : Ext G H (upd G p o) (upd H p o) F := by
  have gn : G p = none := h.free n
  refine ⟨fun b u e => ?_, fun b u e => ?_, fun b u e _ _ => ?_, fun b u e q _ => ?_, fun b u e => ⟨u, ?_⟩, fun t => tabs_new n t, fun g => g.upd ho⟩
  · rw [upd_ne (ne_of_none e gn)]
    exact e
  · by_cases hb : b = p
    · subst hb
      rw [upd_same] at e ⊢
      exact e
    · rw [upd_ne hb] at e ⊢
      exact h b u e
  · rw [upd_ne (ne_of_none e n)]
    exact e
  · rw [upd_ne (ne_of_none e n)]
    exact q
  · rw [upd_ne (ne_of_none e n)]
    exact e
/-- a new object, not frozen -/
theorem Ext.newM {G H : Hp} {F : Addr → Prop} (h : Same G H) {p : Addr} (n : H p = none) (o : HO) : Ext G H G (upd H p o) F :=
  ⟨Same.refl G, fun b u e => by
    rw [upd_ne (ne_of_none (h b u e) n)]
    exact h b u e, fun b u e _ _ => by
    rw [upd_ne (ne_of_none e n)]
    exact e, fun b u e q _ => q, fun b u e => ⟨u, by
    rw [upd_ne (ne_of_none e n)]
    exact e⟩, fun t => tabs_new n t, fun g => g⟩

def SlotOk (C : Fx) (G H : Hp) : Option V → Slot → Prop
  | _, .un => True
  | o, .dat d => ∃ v, o = some v ∧ Is C.K G v d
  | o, .own ds => ∃ p vs, o = some (.ref p) ∧ G p = none ∧ H p = some (.lst vs) ∧ IsL C.K G vs ds ∧ C.H0 p = none
  | o, .pot a k => o = some (.ref a) ∧ G a = none ∧ PotAt H a k ∧ (C.F0 a ∨ C.H0 a = none)
  | o, .obj x => ∃ p u, o = some (.ref p) ∧ G p = none ∧ H p = some u ∧ IsO C.K G u x ∧ C.H0 p = none
theorem SlotOk.move {C : Fx} {G H G' H' : Hp} {o : Option V} {s : Slot} (q : SlotOk C G H o s) (gg : Same G G') (hm : s.mu = true → ∀ a u, o = some (.ref a) → H a = some u → (∀ ps, u ≠ .tbl ps) → G a = none → H' a = some u ∧ G' a = none) : SlotOk C G' H' o s := by
  cases s with
  | un => trivial
  | dat d =>
    obtain ⟨v, e, h⟩ := q
    exact ⟨v, e, h.mono gg⟩
  | own ds =>
    obtain ⟨p, vs, e, g, h, k, h0⟩ := q
    obtain ⟨a1, a2⟩ := hm rfl p _ e h (fun _ z => nomatch z) g
    exact ⟨p, vs, e, a2, a1, k.mono gg, h0⟩
  | pot a k =>
    obtain ⟨e, g, ⟨x, y, n, h, r⟩, f⟩ := q
    obtain ⟨a1, a2⟩ := hm rfl a _ e h (fun _ z => nomatch z) g
    exact ⟨e, a2, ⟨x, y, n, a1, r⟩, f⟩
  | obj x =>
    obtain ⟨p, u, e, g, h, k, h0⟩ := q
    obtain ⟨a1, a2⟩ := hm rfl p _ e h k.nt.1 g
    exact ⟨p, u, e, a2, a1, k.mono gg, h0⟩
/-- a slot that may be changed: what it is at -/
theorem SlotOk.at_ {C : Fx} {G H : Hp} {o : Option V} {s : Slot} (q : SlotOk C G H o s) (hm : s.mu = true) : ∃ a u, o = some (.ref a) ∧ G a = none ∧ H a = some u ∧ (∀ ps, u ≠ .tbl ps) ∧ (∀ f, u ≠ .ext f) ∧ (C.F0 a ∨ C.H0 a = none) := by
  cases s with
  | un => cases hm
  | dat d => cases hm
  | own ds =>
    obtain ⟨p, vs, e, g, h, k, h0⟩ := q
    exact ⟨p, _, e, g, h, (fun _ z => nomatch z), (fun _ z => nomatch z), .inr h0⟩
  | pot a k =>
    obtain ⟨e, g, ⟨x, y, n, h, r⟩, f⟩ := q
    exact ⟨a, _, e, g, h, (fun _ z => nomatch z), (fun _ z => nomatch z), f⟩
  | obj x =>
    obtain ⟨p, u, e, g, h, k, h0⟩ := q
    exact ⟨p, u, e, g, h, k.nt.1, k.nt.2, .inr h0⟩

/-- the addresses of what the slots may change -/
def Mt (σ : L2.St) (ρ : List Slot) (i : Nat) (a : Addr) : Prop := σ[i]? = some (some (.ref a)) ∧ ∃ s, ρ[i]? = some s ∧ s.mu = true
def Fp (σ : L2.St) (ρ : List Slot) (a : Addr) : Prop := ∃ i, Mt σ ρ i a

structure Sg (C : Fx) (G H : Hp) (σ : L2.St) (ρ : List Slot) : Prop where
  ext : Ext C.G0 C.H0 G H C.F0
  len : σ.length = ρ.length
  sl : ∀ (i : Nat) (s : Slot), ρ[i]? = some s → ∃ o, σ[i]? = some o ∧ SlotOk C G H o s
  dis : ∀ i j a, Mt σ ρ i a → Mt σ ρ j a → i = j

section
variable {C : Fx} {G H G' H' G1 H1 : Hp} {σ σ' : L2.St} {ρ ρ' ρ1 : List Slot}
theorem Sg.le (S : Sg C G H σ ρ) : Same G H := S.ext.gh
theorem Sg.fp_some (S : Sg C G H σ ρ) {a : Addr} (h : Fp σ ρ a) : G a = none ∧ (∃ u, H a = some u) ∧ (C.F0 a ∨ C.H0 a = none) := by
  obtain ⟨i, hs, s, hr, hm⟩ := h
  obtain ⟨o, ho, q⟩ := S.sl i _ hr
  obtain ⟨b, u, e, g, h, _, _, f⟩ := q.at_ hm
  rw [hs] at ho
  have ho := Option.some.inj ho
  rw [← ho] at e
  cases e
  exact ⟨g, ⟨u, h⟩, f⟩
/-- one step: what it kept, where it stands, it changes nothing further -/
structure Stp (C : Fx) (G H : Hp) (σ : L2.St) (ρ : List Slot) (G' H' : Hp) (ρ' : List Slot) : Prop where
  ext : Ext G H G' H' (Fp σ ρ)
  st : Sg C G' H' σ ρ'
  sub : ∀ a, Fp σ ρ' a → Fp σ ρ a
theorem Stp.refl (S : Sg C G H σ ρ) : Stp C G H σ ρ G H ρ := ⟨Ext.refl S.le, S, fun _ h => h⟩
theorem Stp.trans (a : Stp C G H σ ρ G1 H1 ρ1) (b : Stp C G1 H1 σ ρ1 G' H' ρ') : Stp C G H σ ρ G' H' ρ' :=
  ⟨a.ext.trans b.ext fun x _ _ h => a.sub x h, b.st, fun x h => a.sub x (b.sub x h)⟩
/-- nothing that the slots may change is touched -/
theorem Sg.keep (S : Sg C G H σ ρ) (e : Ext G H G' H' (fun _ => False)) : Stp C G H σ ρ G' H' ρ := by
  refine ⟨e.mono fun _ h => h.elim, ⟨S.ext.trans e fun _ _ _ h => h.elim, S.len, fun i s hs => ?_, S.dis⟩, fun _ h => h⟩
  obtain ⟨o, ho, q⟩ := S.sl i s hs
  exact ⟨o, ho, q.move e.gg fun _ a u _ h nt g => ⟨e.fr a _ h nt (fun z => z), e.nf a _ h g (fun z => z)⟩⟩
end

/-! ### what a reading comes to -/
abbrev PD := D → List Slot → Prop
def Ev (C : Fx) (te : TE) (ρ : List Slot) (P : PD) : Prop := ∀ (σ : L2.St) (G H : Hp) (Q : VK), Sg C G H σ ρ → (∀ v d G' H' ρ', Stp C G H σ ρ G' H' ρ' → P d ρ' → Is C.K G' v d → Q v H') → te σ H Q
def EvT (C : Fx) (tt : TT) (ρ : List Slot) (P : Bool → List Slot → Prop) : Prop := ∀ (σ : L2.St) (G H : Hp) (Q : Bool → Hp → Prop), Sg C G H σ ρ → (∀ b G' H' ρ', Stp C G H σ ρ G' H' ρ' → P b ρ' → Q b H') → tt σ H Q
def EvA (C : Fx) (ta : TA) (ρ : List Slot) (P : List D → List Slot → Prop) : Prop := ∀ (σ : L2.St) (G H : Hp) (Q : List V → Hp → Prop), Sg C G H σ ρ → (∀ vs ds G' H' ρ', Stp C G H σ ρ G' H' ρ' → P ds ρ' → IsL C.K G' vs ds → Q vs H') → ta σ H Q
def EvO (C : Fx) (to : TO) (ρ : List Slot) (P : Option Int → List Slot → Prop) : Prop := ∀ (σ : L2.St) (G H : Hp) (Q : Option Int → Hp → Prop), Sg C G H σ ρ → (∀ o G' H' ρ', Stp C G H σ ρ G' H' ρ' → P o ρ' → Q o H') → to σ H Q
/-- operators, calls, by data: they change nothing -/
def RD (K : PySem.W.Frag) (r : R2) (x y : D) (P : D → Prop) : Prop := ∀ (G H : Hp) (v u : V) (Q : VK), Same G H → Is K G v x → Is K G u y → (∀ z d G' H', Ext G H G' H' (fun _ => False) → P d → Is K G' z d → Q z H') → r v u H Q
def RU1 (K : PySem.W.Frag) (r : V → Hp → VK → Prop) (x : D) (P : D → Prop) : Prop := ∀ (G H : Hp) (v : V) (Q : VK), Same G H → Is K G v x → (∀ z d G' H', Ext G H G' H' (fun _ => False) → P d → Is K G' z d → Q z H') → r v H Q
def RC1 (K : PySem.W.Frag) (r : List V → Hp → VK → Prop) (xs : List D) (P : D → Prop) : Prop := ∀ (G H : Hp) (vs : List V) (Q : VK), Same G H → IsL K G vs xs → (∀ z d G' H', Ext G H G' H' (fun _ => False) → P d → Is K G' z d → Q z H') → r vs H Q

section
variable {C : Fx} {ρ : List Slot} {P : PD} {te ta tb tx : TE} {tt tu : TT} {tA tB' : TA}
theorem Ev.imp {P' : PD} (h : Ev C te ρ P) (i : ∀ d ρ', P d ρ' → P' d ρ') : Ev C te ρ P' := fun σ G H Q S q => h σ G H Q S fun v d G' H' ρ' s p => q v d G' H' ρ' s (i d ρ' p)
theorem EvT.imp {P P' : Bool → List Slot → Prop} (h : EvT C tt ρ P) (i : ∀ d ρ', P d ρ' → P' d ρ') : EvT C tt ρ P' := fun σ G H Q S q => h σ G H Q S fun d G' H' ρ' s p => q d G' H' ρ' s (i d ρ' p)
theorem ev_var {i : Nat} {d : D} (h : ρ[i]? = some (.dat d)) (k : P d ρ) : Ev C (tVar i) ρ P := fun σ G H Q S q => by
  obtain ⟨o, ho, v, rfl, hv⟩ := S.sl i _ h
  exact ⟨v, ho, q v d G H ρ (Stp.refl S) k hv⟩
theorem ev_int {i : Int} (k : P (.int i) ρ) : Ev C (tC (.int i)) ρ P := fun σ G H Q S q => q _ _ G H ρ (Stp.refl S) k (.int i)
theorem ev_str {i : Str} (k : P (.str i) ρ) : Ev C (tC (.str i)) ρ P := fun σ G H Q S q => q _ _ G H ρ (Stp.refl S) k (.str i)
theorem ev_bl {i : Bool} (k : P (.bl i) ρ) : Ev C (tC (.bl i)) ρ P := fun σ G H Q S q => q _ _ G H ρ (Stp.refl S) k (.bl i)
theorem ev_non (k : P .non ρ) : Ev C (tC .non) ρ P := fun σ G H Q S q => q _ _ G H ρ (Stp.refl S) k .non
theorem ev_val {v : V} (k : P (.val v) ρ) : Ev C (tC v) ρ P := fun σ G H Q S q => q _ _ G H ρ (Stp.refl S) k (.val v)
/-- a constant of the module's, by what it is -/
theorem ev_c {v : V} {d : D} (h : ∀ G, Is C.K G v d) (k : P d ρ) : Ev C (tC v) ρ P := fun σ G H Q S q => q _ _ G H ρ (Stp.refl S) k (h G)
theorem ev_op {r : R2} (h : Ev C ta ρ fun x ρ1 => Ev C tb ρ1 fun y ρ2 => RD C.K r x y fun d => P d ρ2) : Ev C (tOp r ta tb) ρ P := fun σ G H Q S q => by
  refine h σ G H _ S fun v x G1 H1 ρ1 s1 h1 i1 => ?_
  refine h1 σ G1 H1 _ s1.st fun u y G2 H2 ρ2 s2 h2 i2 => ?_
  refine h2 G2 H2 v u Q s2.st.le (i1.mono s2.ext.gg) i2 fun z d G3 H3 e p i3 => ?_
  exact q z d G3 H3 ρ2 ((s1.trans s2).trans (s2.st.keep e)) p i3
theorem ev_un {r : V → Hp → VK → Prop} (h : Ev C ta ρ fun x ρ1 => RU1 C.K r x fun d => P d ρ1) : Ev C (tUn r ta) ρ P := fun σ G H Q S q => by
  refine h σ G H _ S fun v x G1 H1 ρ1 s1 h1 i1 => ?_
  refine h1 G1 H1 v Q s1.st.le i1 fun z d G3 H3 e p i3 => ?_
  exact q z d G3 H3 ρ1 (s1.trans (s1.st.keep e)) p i3
theorem ev_cb {r : List V → Hp → VK → Prop} (h : EvA C tA ρ fun xs ρ1 => RC1 C.K r xs fun d => P d ρ1) : Ev C (tCB r tA) ρ P := fun σ G H Q S q => by
  refine h σ G H _ S fun v x G1 H1 ρ1 s1 h1 i1 => ?_
  refine h1 G1 H1 v Q s1.st.le i1 fun z d G3 H3 e p i3 => ?_
  exact q z d G3 H3 ρ1 (s1.trans (s1.st.keep e)) p i3
theorem ea_nil {P : List D → List Slot → Prop} (k : P [] ρ) : EvA C tNil ρ P := fun σ G H Q S q => q [] [] G H ρ (Stp.refl S) k .nil
theorem ea_cons {P : List D → List Slot → Prop} (h : Ev C ta ρ fun x ρ1 => EvA C tA ρ1 fun xs ρ2 => P (x :: xs) ρ2) : EvA C (tCons ta tA) ρ P := fun σ G H Q S q => by
  refine h σ G H _ S fun v x G1 H1 ρ1 s1 h1 i1 => ?_
  refine h1 σ G1 H1 _ s1.st fun vs xs G2 H2 ρ2 s2 h2 i2 => ?_
  exact q _ _ G2 H2 ρ2 (s1.trans s2) h2 (.cons (i1.mono s2.ext.gg) i2)
theorem ev_tup (h : EvA C tA ρ fun xs ρ1 => xs.length ≤ 100000 ∧ P (.tup xs) ρ1) : Ev C (tTup tA) ρ P := fun σ G H Q S q => by
  refine h σ G H _ S fun vs xs G1 H1 ρ1 s1 h1 i1 => ⟨?_, fun p hp => ?_⟩
  · rw [i1.length]
    exact Nat.le_trans h1.1 (by decide)
  · have e := Ext.new (F := fun _ => False) s1.st.le hp (.tup vs)
    exact q _ _ _ _ ρ1 (s1.trans (s1.st.keep e)) h1.2 (.tup (.inl (.inl upd_same)) (i1.mono e.gg))
theorem ev_lst (h : EvA C tA ρ fun xs ρ1 => xs.length ≤ 100000 ∧ P (.lst xs) ρ1) : Ev C (tLst tA) ρ P := fun σ G H Q S q => by
  refine h σ G H _ S fun vs xs G1 H1 ρ1 s1 h1 i1 => ⟨?_, fun p hp => ?_⟩
  · rw [i1.length]
    exact Nat.le_trans h1.1 (by decide)
  · have e := Ext.new (F := fun _ => False) s1.st.le hp (.lst vs)
    exact q _ _ _ _ ρ1 (s1.trans (s1.st.keep e)) h1.2 (.lst upd_same (i1.mono e.gg))
theorem ev_if (h : EvT C tt ρ fun b ρ1 => (b = true → Ev C ta ρ1 P) ∧ (b = false → Ev C tb ρ1 P)) : Ev C (tIf tt ta tb) ρ P := fun σ G H Q S q => by
  refine h σ G H _ S fun b G1 H1 ρ1 s1 h1 => ?_
  cases b with
  | true => exact iteT (h1.1 rfl σ G1 H1 Q s1.st fun v d G2 H2 ρ2 s2 p i => q v d G2 H2 ρ2 (s1.trans s2) p i)
  | false => exact iteF (h1.2 rfl σ G1 H1 Q s1.st fun v d G2 H2 ρ2 s2 p i => q v d G2 H2 ρ2 (s1.trans s2) p i)
theorem ev_andV (h : Ev C ta ρ fun x ρ1 => ∃ b, x = .bl b ∧ (b = true → Ev C tb ρ1 P) ∧ (b = false → P (.bl false) ρ1)) : Ev C (tAndV ta tb) ρ P := fun σ G H Q S q => by
  refine h σ G H _ S fun v x G1 H1 ρ1 s1 h1 i1 => ?_
  obtain ⟨b, rfl, h2, h3⟩ := h1
  cases i1
  refine ⟨b, rfl, ?_⟩
  cases b with
  | true => exact iteT (h2 rfl σ G1 H1 Q s1.st fun v d G2 H2 ρ2 s2 p i => q v d G2 H2 ρ2 (s1.trans s2) p i)
  | false => exact iteF (q _ _ G1 H1 ρ1 s1 (h3 rfl) (.bl false))
theorem ev_orV (h : Ev C ta ρ fun x ρ1 => ∃ b, x = .bl b ∧ (b = true → P (.bl true) ρ1) ∧ (b = false → Ev C tb ρ1 P)) : Ev C (tOrV ta tb) ρ P := fun σ G H Q S q => by
  refine h σ G H _ S fun v x G1 H1 ρ1 s1 h1 i1 => ?_
  obtain ⟨b, rfl, h2, h3⟩ := h1
  cases i1
  refine ⟨b, rfl, ?_⟩
  cases b with
  | true => exact iteT (q _ _ G1 H1 ρ1 s1 (h2 rfl) (.bl true))
  | false => exact iteF (h3 rfl σ G1 H1 Q s1.st fun v d G2 H2 ρ2 s2 p i => q v d G2 H2 ρ2 (s1.trans s2) p i)
theorem ev_notV (h : Ev C ta ρ fun x ρ1 => ∃ b, x = .bl b ∧ P (.bl (!b)) ρ1) : Ev C (tNotV ta) ρ P := fun σ G H Q S q => by
  refine h σ G H _ S fun v x G1 H1 ρ1 s1 h1 i1 => ?_
  obtain ⟨b, rfl, h2⟩ := h1
  cases i1
  exact ⟨b, rfl, q _ _ G1 H1 ρ1 s1 h2 (.bl _)⟩
theorem et_B {P : Bool → List Slot → Prop} (h : Ev C te ρ fun x ρ1 => ∃ b, x = .bl b ∧ P b ρ1) : EvT C (tB te) ρ P := fun σ G H Q S q => by
  refine h σ G H _ S fun v x G1 H1 ρ1 s1 h1 i1 => ?_
  obtain ⟨b, rfl, h2⟩ := h1
  cases i1
  exact ⟨b, rfl, q _ G1 H1 ρ1 s1 h2⟩
theorem et_test {P : Bool → List Slot → Prop} (h : Ev C te ρ fun x ρ1 => ∃ b, x = .bl b ∧ P b ρ1) : EvT C (tTest te) ρ P := fun σ G H Q S q => by
  refine h σ G H _ S fun v x G1 H1 ρ1 s1 h1 i1 => ?_
  obtain ⟨b, rfl, h2⟩ := h1
  cases i1
  exact ⟨b, rfl, q _ G1 H1 ρ1 s1 h2⟩
theorem et_and {P : Bool → List Slot → Prop} (h : EvT C tt ρ fun b ρ1 => (b = true → EvT C tu ρ1 P) ∧ (b = false → P false ρ1)) : EvT C (tAnd tt tu) ρ P := fun σ G H Q S q => by
  refine h σ G H _ S fun b G1 H1 ρ1 s1 h1 => ?_
  cases b with
  | true => exact iteT (h1.1 rfl σ G1 H1 Q s1.st fun c G2 H2 ρ2 s2 p => q c G2 H2 ρ2 (s1.trans s2) p)
  | false => exact iteF (q false G1 H1 ρ1 s1 (h1.2 rfl))
theorem et_or {P : Bool → List Slot → Prop} (h : EvT C tt ρ fun b ρ1 => (b = true → P true ρ1) ∧ (b = false → EvT C tu ρ1 P)) : EvT C (tOr tt tu) ρ P := fun σ G H Q S q => by
  refine h σ G H _ S fun b G1 H1 ρ1 s1 h1 => ?_
  cases b with
  | true => exact iteT (q true G1 H1 ρ1 s1 (h1.1 rfl))
  | false => exact iteF (h1.2 rfl σ G1 H1 Q s1.st fun c G2 H2 ρ2 s2 p => q c G2 H2 ρ2 (s1.trans s2) p)
theorem et_not {P : Bool → List Slot → Prop} (h : EvT C tt ρ fun b ρ1 => P (!b) ρ1) : EvT C (tNot tt) ρ P := fun σ G H Q S q =>
  h σ G H _ S fun b G1 H1 ρ1 s1 h1 => q (!b) G1 H1 ρ1 s1 h1
theorem et_yes {P : Bool → List Slot → Prop} (h : P true ρ) : EvT C tYes ρ P := fun σ G H Q S q => q true G H ρ (Stp.refl S) h
end
end DL
namespace DL
open PySem PySem.Spec PyProof.Rows L2
variable [TabT]

section
variable {C : Fx} {G H G' H' G1 H1 : Hp} {σ σ' : L2.St} {ρ ρ' ρ1 : List Slot}
/-! ### slots set -/
theorem Mt.ne {i j : Nat} {a : Addr} {o : Option V} {s : Slot} (h : Mt (σ.set i o) (ρ.set i s) j a) (n : j ≠ i) : Mt σ ρ j a := by
  obtain ⟨h1, r, h2, hm⟩ := h
  rw [List.getElem?_set_ne (Ne.symm n)] at h1 h2
  exact ⟨h1, r, h2, hm⟩
theorem Mt.lt {i : Nat} {a : Addr} (h : Mt σ ρ i a) : i < σ.length := (List.getElem?_eq_some_iff.mp h.1).1
theorem Mt.slot {i : Nat} {a : Addr} (h : Mt σ ρ i a) : ∃ s, ρ[i]? = some s ∧ s.mu = true := h.2
/-- slot i holds data now -/
theorem Sg.setD {i : Nat} {v : V} {d : D} (S : Sg C G H σ ρ) (h : Is C.K G v d) : Sg C G H (σ.set i (some v)) (ρ.set i (.dat d)) := by
  refine ⟨S.ext, by rw [List.length_set, List.length_set, S.len], fun j s hs => ?_, fun j k a h1 h2 => ?_⟩
  · by_cases hj : j = i
    · subst hj
      have hl : j < ρ.length := by
        have := (List.getElem?_eq_some_iff.mp hs).1
        rwa [List.length_set] at this
      rw [List.getElem?_set_self hl] at hs
      have hs := Option.some.inj hs
      subst hs
      exact ⟨some v, List.getElem?_set_self (by rw [S.len]; exact hl), v, rfl, h⟩
    · rw [List.getElem?_set_ne (Ne.symm hj)] at hs ⊢
      exact S.sl j s hs
  · have nd : ∀ {j : Nat} {a : Addr}, Mt (σ.set i (some v)) (ρ.set i (.dat d)) j a → j ≠ i := fun {j a} h e => by
      subst e
      have hl : j < ρ.length := by
        have := h.lt
        rwa [List.length_set, S.len] at this
      obtain ⟨r, h, hm⟩ := h.slot
      rw [List.getElem?_set_self hl] at h
      cases h
      cases hm
    exact S.dis j k a (h1.ne (nd h1)) (h2.ne (nd h2))
/-- slot i is forgotten -/
theorem Sg.setU {i : Nat} {o : Option V} (S : Sg C G H σ ρ) : Sg C G H (σ.set i o) (ρ.set i .un) := by
  refine ⟨S.ext, by rw [List.length_set, List.length_set, S.len], fun j s hs => ?_, fun j k a h1 h2 => ?_⟩
  · by_cases hj : j = i
    · subst hj
      have hl : j < ρ.length := by
        have := (List.getElem?_eq_some_iff.mp hs).1
        rwa [List.length_set] at this
      rw [List.getElem?_set_self hl] at hs
      have hs := Option.some.inj hs
      subst hs
      exact ⟨o, List.getElem?_set_self (by rw [S.len]; exact hl), trivial⟩
    · rw [List.getElem?_set_ne (Ne.symm hj)] at hs ⊢
      exact S.sl j s hs
  · have nd : ∀ {j : Nat} {a : Addr}, Mt (σ.set i o) (ρ.set i .un) j a → j ≠ i := fun {j a} h e => by
      subst e
      have hl : j < ρ.length := by
        have := h.lt
        rwa [List.length_set, S.len] at this
      obtain ⟨r, h, hm⟩ := h.slot
      rw [List.getElem?_set_self hl] at h
      cases h
      cases hm
    exact S.dis j k a (h1.ne (nd h1)) (h2.ne (nd h2))
/-- slot i holds a list of one's own: nobody else knows it -/
theorem Sg.setO {i : Nat} {p : Addr} {vs : List V} {ds : List D} (S : Sg C G H σ ρ) (g : G p = none) (h : H p = some (.lst vs)) (t : IsL C.K G vs ds) (h0 : C.H0 p = none) (nf : ∀ j, j ≠ i → ¬ Mt σ ρ j p) : Sg C G H (σ.set i (some (.ref p))) (ρ.set i (.own ds)) := by
  refine ⟨S.ext, by rw [List.length_set, List.length_set, S.len], fun j s hs => ?_, fun j k a h1 h2 => ?_⟩
  · by_cases hj : j = i
    · subst hj
      have hl : j < ρ.length := by
        have := (List.getElem?_eq_some_iff.mp hs).1
        rwa [List.length_set] at this
      rw [List.getElem?_set_self hl] at hs
      have hs := Option.some.inj hs
      subst hs
      exact ⟨_, List.getElem?_set_self (by rw [S.len]; exact hl), p, vs, rfl, g, h, t, h0⟩
    · rw [List.getElem?_set_ne (Ne.symm hj)] at hs ⊢
      exact S.sl j s hs
  · have key : ∀ {j : Nat} {a : Addr}, Mt (σ.set i (some (.ref p))) (ρ.set i (.own ds)) j a → j = i → a = p := fun {j a} h e => by
      subst e
      have h1 := h.1
      have hl : j < σ.length := by
        have := h.lt
        rwa [List.length_set] at this
      rw [List.getElem?_set_self hl] at h1
      cases h1
      rfl
    by_cases hj : j = i
    · by_cases hk : k = i
      · rw [hj, hk]
      · have e := key h1 hj
        subst e
        exact absurd (h2.ne hk) (nf k hk)
    · by_cases hk : k = i
      · have e := key h2 hk
        subst e
        exact absurd (h1.ne hj) (nf j hj)
      · exact S.dis j k a (h1.ne hj) (h2.ne hk)
/-- the own list at slot i is frozen -/
theorem Sg.freeze {i : Nat} {ds : List D} (S : Sg C G H σ ρ) (hi : ρ[i]? = some (.own ds)) : ∃ p vs, σ[i]? = some (some (.ref p)) ∧ H p = some (.lst vs) ∧ G p = none ∧ IsL C.K G vs ds ∧ Same G (upd G p (.lst vs)) ∧ Is C.K (upd G p (.lst vs)) (.ref p) (.lst ds) ∧ Stp C G H σ ρ (upd G p (.lst vs)) H (ρ.set i (.dat (.lst ds))) := by
  obtain ⟨o, ho, p, vs, rfl, h1, h2, h3, h4⟩ := S.sl i _ hi
  have mp : Mt σ ρ i p := ⟨ho, _, hi, rfl⟩
  have sg : Same G (upd G p (.lst vs)) := fun b u e => by
    rw [upd_ne (ne_of_none e h1)]
    exact e
  have sh : Same (upd G p (.lst vs)) H := fun b u e => by
    by_cases hb : b = p
    · subst hb
      rw [upd_same] at e
      rw [h2]
      exact e
    · rw [upd_ne hb] at e
      exact S.le b u e
  have ep : Is C.K (upd G p (.lst vs)) (.ref p) (.lst ds) := .lst upd_same (h3.mono sg)
  have hl : i < ρ.length := (List.getElem?_eq_some_iff.mp hi).1
  have back : ∀ {j : Nat} {a : Addr}, Mt σ (ρ.set i (.dat (.lst ds))) j a → j ≠ i ∧ Mt σ ρ j a := fun {j a} h => by
    have hj : j ≠ i := fun e => by
      subst e
      obtain ⟨r, q, hm⟩ := h.slot
      rw [List.getElem?_set_self hl] at q
      cases q
      cases hm
    refine ⟨hj, h.1, ?_⟩
    obtain ⟨r, q, hm⟩ := h.slot
    rw [List.getElem?_set_ne (Ne.symm hj)] at q
    exact ⟨r, q, hm⟩
  have ex : Ext G H (upd G p (.lst vs)) H (Fp σ ρ) := ⟨sg, sh, fun b o e _ _ => e, fun b o e q n => by
    have hb : b ≠ p := fun z => n (z ▸ ⟨i, mp⟩)
    rw [upd_ne hb]
    exact q, fun b o e => ⟨o, e⟩, fun t => t, fun g => g.upd fun _ z => nomatch z⟩
  refine ⟨p, vs, ho, h2, h1, h3, sg, ep, ex, ⟨S.ext.trans ex fun x u hx hf => ?_, by rw [List.length_set, S.len], fun j s hs => ?_, fun j k a q1 q2 => S.dis j k a (back q1).2 (back q2).2⟩, fun a h => ?_⟩
  · obtain ⟨_, _, hf⟩ := S.fp_some hf
    rcases hf with hf | hf
    · exact hf
    · rw [hf] at hx
      cases hx
  · by_cases hj : j = i
    · subst hj
      rw [List.getElem?_set_self hl] at hs
      have hs := Option.some.inj hs
      subst hs
      exact ⟨_, ho, _, rfl, ep⟩
    · rw [List.getElem?_set_ne (Ne.symm hj)] at hs
      obtain ⟨o', ho', q⟩ := S.sl j s hs
      refine ⟨o', ho', q.move sg fun hm a u e h nt g => ?_⟩
      have np : a ≠ p := fun z => by
        rw [e, z] at ho'
        exact hj (S.dis j i p ⟨ho', _, hs, hm⟩ mp)
      exact ⟨h, by rw [upd_ne np]; exact g⟩
  · obtain ⟨j, h⟩ := h
    exact ⟨j, (back h).2⟩
end

/-! ### statements -/
structure Po where
  nx : List Slot → Prop
  rt : D → List Slot → Prop
  bk : List Slot → Prop := fun _ => False
  ct : List Slot → Prop := fun _ => False
def Xs (C : Fx) (ts : TS) (ρ : List Slot) (po : Po) : Prop := ∀ (σ : L2.St) (G H : Hp) (Dn : Ends), Sg C G H σ ρ →
  (∀ σ' G' H' ρ', Sg C G' H' σ' ρ' → Same G G' → po.nx ρ' → Dn.nx σ' H') → (∀ v d σ' G' H' ρ', Sg C G' H' σ' ρ' → Is C.K G' v d → po.rt d ρ' → Dn.rt v H') →
  (∀ σ' G' H' ρ', Sg C G' H' σ' ρ' → Same G G' → po.bk ρ' → Dn.bk σ' H') → (∀ σ' G' H' ρ', Sg C G' H' σ' ρ' → Same G G' → po.ct ρ' → Dn.ct σ' H') → ts Dn σ H
/-- a target that stores into the slots is alone -/
def Eg (C : Fx) (g : TG) (is : List Nat) (d : D) (ρ : List Slot) (P : List Slot → Prop) : Prop := ∀ (σ : L2.St) (G H : Hp) (v : V) (Q : L2.St → Hp → Prop), Sg C G H σ ρ → Is C.K G v d →
  (∀ σ' ρ', Sg C G H σ' ρ' → P ρ' → (∀ vs : List Nat, (∀ i ∈ is, i ∈ vs) → wipe σ' vs = wipe σ vs) → (∀ j a, Mt σ' ρ' j a → Mt σ ρ j a) → Q σ' H) → g v σ H Q
def Egs (C : Fx) (g : TGs) (is : List Nat) (ds : List D) (ρ : List Slot) (P : List Slot → Prop) : Prop := ∀ (σ : L2.St) (G H : Hp) (vs : List V) (Q : L2.St → Hp → Prop), Sg C G H σ ρ → IsL C.K G vs ds →
  (∀ σ' ρ', Sg C G H σ' ρ' → P ρ' → (∀ ws : List Nat, (∀ i ∈ is, i ∈ ws) → wipe σ' ws = wipe σ ws) → (∀ j a, Mt σ' ρ' j a → Mt σ ρ j a) → Q σ' H) → g vs σ H Q
theorem wipe_set {x : Option V} : ∀ {vs : List Nat} {σ : L2.St} {i : Nat}, i ∈ vs → wipe (σ.set i x) vs = wipe σ vs := by
  have key : ∀ (vs : List Nat) (σ : L2.St) (i : Nat), wipe (σ.set i x) vs = if i ∈ vs then wipe σ vs else (wipe σ vs).set i x := by
    intro vs
    induction vs with
    | nil =>
      intro σ i
      simp [wipe]
    | cons v vs ih =>
      intro σ i
      unfold wipe
      rw [ih]
      by_cases h : i ∈ vs
      · simp [h]
      · by_cases hv : i = v
        · subst hv
          simp [h]
        · have e : i ∉ v :: vs := by simp [h, hv]
          rw [if_neg h, if_neg e]
          exact List.set_comm _ _ (fun z => hv z)
  intro vs σ i h
  rw [key, if_pos h]
theorem mt_setD {σ : L2.St} {ρ : List Slot} {i j : Nat} {o : Option V} {d : D} {a : Addr} (hl : σ.length = ρ.length) (h : Mt (σ.set i o) (ρ.set i (.dat d)) j a) : Mt σ ρ j a := by
  refine h.ne fun e => ?_
  subst e
  have hl : j < ρ.length := by
    have := h.lt
    rwa [List.length_set, hl] at this
  obtain ⟨r, h, hm⟩ := h.slot
  rw [List.getElem?_set_self hl] at h
  cases h
  cases hm

section
variable {C : Fx} {ρ : List Slot} {P : List Slot → Prop} {te ta tb : TE} {tc : TT} {tA : TA} {t u : TS} {po : Po} {i j : Nat}
theorem Xs.imp {po' : Po} (h : Xs C t ρ po) (n : ∀ ρ, po.nx ρ → po'.nx ρ) (r : ∀ d ρ, po.rt d ρ → po'.rt d ρ) (b : ∀ ρ, po.bk ρ → po'.bk ρ) (c : ∀ ρ, po.ct ρ → po'.ct ρ) : Xs C t ρ po' := fun σ G H Dn S hn hr hb hc =>
  h σ G H Dn S (fun σ' G' H' ρ' s e p => hn σ' G' H' ρ' s e (n _ p)) (fun v d σ' G' H' ρ' s k p => hr v d σ' G' H' ρ' s k (r _ _ p)) (fun σ' G' H' ρ' s e p => hb σ' G' H' ρ' s e (b _ p)) fun σ' G' H' ρ' s e p => hc σ' G' H' ρ' s e (c _ p)
theorem xs_seq (h : Xs C t ρ { po with nx := fun ρ' => Xs C u ρ' po }) : Xs C (tSeq t u) ρ po := fun σ G H Dn S hn hr hb hc =>
  h σ G H { Dn with nx := u Dn } S (fun σ' G' H' ρ' s e q => q σ' G' H' Dn s (fun σ2 G2 H2 ρ2 s2 e2 => hn σ2 G2 H2 ρ2 s2 (e.trans e2)) hr (fun σ2 G2 H2 ρ2 s2 e2 => hb σ2 G2 H2 ρ2 s2 (e.trans e2)) fun σ2 G2 H2 ρ2 s2 e2 => hc σ2 G2 H2 ρ2 s2 (e.trans e2)) hr hb hc
theorem xs_next (h : po.nx ρ) : Xs C tNext ρ po := fun σ G H Dn S hn hr hb hc => hn σ G H ρ S (Same.refl G) h
theorem xs_break (h : po.bk ρ) : Xs C tBreak ρ po := fun σ G H Dn S hn hr hb hc => hb σ G H ρ S (Same.refl G) h
theorem xs_cont (h : po.ct ρ) : Xs C tCont ρ po := fun σ G H Dn S hn hr hb hc => hc σ G H ρ S (Same.refl G) h
theorem xs_ret (h : Ev C te ρ fun d ρ' => po.rt d ρ') : Xs C (tRet te) ρ po := fun σ G H Dn S hn hr hb hc =>
  h σ G H _ S fun v d G' H' ρ' s p k => hr v d σ G' H' ρ' s.st k p
theorem xs_drop (h : Ev C te ρ fun d ρ' => po.nx ρ') : Xs C (tDrop te) ρ po := fun σ G H Dn S hn hr hb hc =>
  h σ G H _ S fun v d G' H' ρ' s p k => hn σ G' H' ρ' s.st s.ext.gg p
theorem xs_if (h : EvT C tc ρ fun b ρ' => (b = true → Xs C t ρ' po) ∧ (b = false → Xs C u ρ' po)) : Xs C (tIfS tc t u) ρ po := fun σ G H Dn S hn hr hb hc => by
  refine h σ G H _ S fun b G1 H1 ρ1 s1 h1 => ?_
  cases b with
  | true => exact iteT (h1.1 rfl σ G1 H1 Dn s1.st (fun σ2 G2 H2 ρ2 s2 e2 => hn σ2 G2 H2 ρ2 s2 (s1.ext.gg.trans e2)) hr (fun σ2 G2 H2 ρ2 s2 e2 => hb σ2 G2 H2 ρ2 s2 (s1.ext.gg.trans e2)) fun σ2 G2 H2 ρ2 s2 e2 => hc σ2 G2 H2 ρ2 s2 (s1.ext.gg.trans e2))
  | false => exact iteF (h1.2 rfl σ G1 H1 Dn s1.st (fun σ2 G2 H2 ρ2 s2 e2 => hn σ2 G2 H2 ρ2 s2 (s1.ext.gg.trans e2)) hr (fun σ2 G2 H2 ρ2 s2 e2 => hb σ2 G2 H2 ρ2 s2 (s1.ext.gg.trans e2)) fun σ2 G2 H2 ρ2 s2 e2 => hc σ2 G2 H2 ρ2 s2 (s1.ext.gg.trans e2))
theorem eg_name {d : D} (h : P (ρ.set i (.dat d))) : Eg C (gName i) [i] d ρ P := fun σ G H v Q S k q =>
  q _ _ (S.setD k) h (fun vs hv => wipe_set (hv i (by simp))) fun j a m => mt_setD S.len m
theorem egs_nil (h : P ρ) : Egs C gNil [] [] ρ P := fun σ G H vs Q S k q => by
  cases k
  exact ⟨rfl, q σ ρ S h (fun _ _ => rfl) fun _ _ m => m⟩
theorem egs_cons {g : TG} {gs : TGs} {is js : List Nat} {d : D} {ds : List D} (h : Eg C g is d ρ fun ρ1 => Egs C gs js ds ρ1 P) : Egs C (gCons g gs) (is ++ js) (d :: ds) ρ P := fun σ G H vs Q S k q => by
  cases k with
  | cons k1 k2 =>
    refine ⟨_, _, rfl, h σ G H _ _ S k1 fun σ1 ρ1 S1 p1 w1 m1 => ?_⟩
    exact p1 σ1 G H _ _ S1 k2 fun σ2 ρ2 S2 p2 w2 m2 => q σ2 ρ2 S2 p2 (fun ws hw => (w2 ws fun i hi => hw i (by simp [hi])).trans (w1 ws fun i hi => hw i (by simp [hi]))) fun j a m => m1 j a (m2 j a m)
theorem eg_tup {n : Nat} {gs : TGs} {is : List Nat} {ds : List D} (hn : ds.length = n) (h : Egs C gs is ds ρ P) : Eg C (gTup C.K n gs) is (.tup ds) ρ P := fun σ G H v Q S k q => by
  cases k with
  | tup k1 k2 => exact ⟨_, _, rfl, seqT_mono S.le k1, by rw [k2.length, hn], h σ G H _ Q S k2 q⟩
theorem xs_asg {g : TG} {is : List Nat} (h : Ev C te ρ fun d ρ1 => Eg C g is d ρ1 po.nx) : Xs C (tAsg te g) ρ po := fun σ G H Dn S hn hr hb hc =>
  h σ G H _ S fun v d G1 H1 ρ1 s1 p1 k1 => p1 σ G1 H1 v _ s1.st k1 fun σ2 ρ2 S2 p2 _ _ => hn σ2 G1 H1 ρ2 S2 s1.ext.gg p2
theorem xs_set (h : Ev C te ρ fun d ρ1 => po.nx (ρ1.set i (.dat d))) : Xs C (tAsg te (gName i)) ρ po := xs_asg (h.imp fun _ _ p => eg_name p)

/-! ### new lists -/
/-- te makes a new list that nobody knows yet -/
def EvN (C : Fx) (te : TE) (ρ : List Slot) (P : List D → List Slot → Prop) : Prop := ∀ (σ : L2.St) (G H : Hp) (Q : VK), Sg C G H σ ρ → (∀ p vs ds G' H' ρ', Stp C G H σ ρ G' H' ρ' → P ds ρ' → H p = none → G' p = none → H' p = some (.lst vs) → IsL C.K G' vs ds → Q (.ref p) H') → te σ H Q
theorem nomt {G H G' H' : Hp} {σ : L2.St} {ρ ρ' : List Slot} (S : Sg C G H σ ρ) (s : Stp C G H σ ρ G' H' ρ') {p : Addr} (n : H p = none) {j : Nat} (m : Mt σ ρ' j p) : False := by
  obtain ⟨_, ⟨xs, e⟩, _⟩ := S.fp_some (s.sub p ⟨j, m⟩)
  rw [n] at e
  cases e
theorem h0_none {G H : Hp} {σ : L2.St} (S : Sg C G H σ ρ) {p : Addr} (n : H p = none) : C.H0 p = none := by
  cases q : C.H0 p with
  | none => rfl
  | some o =>
    obtain ⟨u, e⟩ := S.ext.th p o q
    rw [n] at e
    cases e
theorem xs_own (h : EvN C te ρ fun ds ρ1 => po.nx (ρ1.set i (.own ds))) : Xs C (tAsg te (gName i)) ρ po := fun σ G H Dn S hn hr hb hc =>
  h σ G H _ S fun p vs ds G1 H1 ρ1 s1 p1 n g1 h1 k1 => hn _ G1 H1 _ (s1.st.setO g1 h1 k1 (h0_none S n) fun j _ m => nomt S s1 n m) s1.ext.gg p1
/-- a new list, frozen at once -/
theorem EvN.ev {P : PD} (h : EvN C te ρ fun ds ρ1 => P (.lst ds) ρ1) : Ev C te ρ P := fun σ G H Q S q =>
  h σ G H _ S fun p vs ds G1 H1 ρ1 s1 p1 n g1 h1 k1 => by
    have sg : Same G1 (upd G1 p (.lst vs)) := fun b u e => by
      rw [upd_ne (ne_of_none e g1)]
      exact e
    have sh : Same (upd G1 p (.lst vs)) H1 := fun b u e => by
      by_cases hb : b = p
      · subst hb
        rw [upd_same] at e
        rw [h1]
        exact e
      · rw [upd_ne hb] at e
        exact s1.st.le b u e
    have nm : ∀ b, Fp σ ρ1 b → b ≠ p := fun b ⟨j, m⟩ e => nomt S s1 n (e ▸ m)
    have s2 : Stp C G H σ ρ (upd G1 p (.lst vs)) H1 ρ1 := by
      refine ⟨⟨s1.ext.gg.trans sg, sh, s1.ext.fr, fun b o e g f => ?_, s1.ext.th, s1.ext.tt, fun g => (s1.ext.nt g).upd fun _ z => nomatch z⟩, ⟨⟨s1.st.ext.gg.trans sg, sh, s1.st.ext.fr, fun b o e g f => ?_, s1.st.ext.th, s1.st.ext.tt, fun g => (s1.st.ext.nt g).upd fun _ z => nomatch z⟩, s1.st.len, fun j s hs => ?_, s1.st.dis⟩, s1.sub⟩
      · rw [upd_ne (ne_of_none e n)]
        exact s1.ext.nf b o e g f
      · rw [upd_ne (ne_of_none e (h0_none S n))]
        exact s1.st.ext.nf b o e g f
      · obtain ⟨o, ho, q⟩ := s1.st.sl j s hs
        refine ⟨o, ho, q.move sg fun hm a u e h nt g => ⟨h, ?_⟩⟩
        subst e
        rw [upd_ne (nm a ⟨j, ho, _, hs, hm⟩)]
        exact g
    exact q _ _ _ _ _ s2 p1 (.lst upd_same (k1.mono sg))
theorem en_lst {P : List D → List Slot → Prop} (h : EvA C tA ρ fun xs ρ1 => xs.length ≤ 100000 ∧ P xs ρ1) : EvN C (tLst tA) ρ P := fun σ G H Q S q => by
  refine h σ G H _ S fun vs xs G1 H1 ρ1 s1 h1 i1 => ⟨?_, fun p hp => ?_⟩
  · rw [i1.length]
    exact Nat.le_trans h1.1 (by decide)
  · have n0 : H p = none := by
      cases z : H p with
      | none => rfl
      | some o =>
        obtain ⟨u, e⟩ := s1.ext.th p o z
        rw [hp] at e
        cases e
    have e := Ext.newM (F := fun _ => False) s1.st.le hp (.lst vs)
    exact q p vs xs G1 _ ρ1 (s1.trans (s1.st.keep e)) h1.2 n0 (s1.st.le.free hp) upd_same i1
/-- an own list is handed on for good -/
theorem ev_take {P : PD} {ds : List D} (hi : ρ[i]? = some (.own ds)) (h : Ev C te (ρ.set i (.dat (.lst ds))) P) : Ev C te ρ P := fun σ G H Q S q => by
  obtain ⟨p, vs, _, _, _, _, _, _, s⟩ := S.freeze hi
  exact h σ _ H Q s.st fun v d G' H' ρ' s' => q v d G' H' ρ' (s.trans s')
theorem et_take {P : Bool → List Slot → Prop} {ds : List D} (hi : ρ[i]? = some (.own ds)) (h : EvT C tc (ρ.set i (.dat (.lst ds))) P) : EvT C tc ρ P := fun σ G H Q S q => by
  obtain ⟨p, vs, _, _, _, _, _, _, s⟩ := S.freeze hi
  exact h σ _ H Q s.st fun b G' H' ρ' s' => q b G' H' ρ' (s.trans s')
theorem xs_take {ds : List D} (hi : ρ[i]? = some (.own ds)) (h : Xs C t (ρ.set i (.dat (.lst ds))) po) : Xs C t ρ po := fun σ G H Dn S hn hr hb hc => by
  obtain ⟨p, vs, _, _, _, _, _, _, s⟩ := S.freeze hi
  exact h σ _ H Dn s.st (fun σ2 G2 H2 ρ2 s2 e2 => hn σ2 G2 H2 ρ2 s2 (s.ext.gg.trans e2)) hr (fun σ2 G2 H2 ρ2 s2 e2 => hb σ2 G2 H2 ρ2 s2 (s.ext.gg.trans e2)) fun σ2 G2 H2 ρ2 s2 e2 => hc σ2 G2 H2 ρ2 s2 (s.ext.gg.trans e2)
def scalD : D → Bool
  | .non => true
  | .bl _ => true
  | .int _ => true
  | .str _ => true
  | _ => false
theorem Is.scal {K : PySem.W.Frag} {G G' : Hp} {v : V} {d : D} (h : Is K G v d) (s : scalD d = true) : Is K G' v d := by
  cases h with
  | non => exact .non
  | bl b => exact .bl b
  | int i => exact .int i
  | str x => exact .str x
  | val v => cases s
  | tup _ _ => cases s
  | lst _ _ => cases s
  | dic _ _ => cases s
  | dct _ _ => cases s
  | ins _ _ => cases s
  | exc _ _ _ => cases s
  | scr _ => cases s
/-- te only looks -/
def Er (C : Fx) (te : TE) (ρ : List Slot) (P : D → Prop) : Prop := ∀ (σ : L2.St) (G H : Hp) (Q : VK), Sg C G H σ ρ → (∀ v d G' H', Ext G H G' H' (fun _ => False) → P d → Is C.K G' v d → Q v H') → te σ H Q
def ErA (C : Fx) (ta : TA) (ρ : List Slot) (P : List D → Prop) : Prop := ∀ (σ : L2.St) (G H : Hp) (Q : List V → Hp → Prop), Sg C G H σ ρ → (∀ vs ds G' H', Ext G H G' H' (fun _ => False) → P ds → IsL C.K G' vs ds → Q vs H') → ta σ H Q
theorem Er.ev {P : PD} (h : Er C te ρ fun d => P d ρ) : Ev C te ρ P := fun σ G H Q S q => h σ G H Q S fun v d G' H' e p k => q v d G' H' ρ (S.keep e) p k
section
variable {P : D → Prop}
theorem er_var {d : D} (h : ρ[i]? = some (.dat d)) (k : P d) : Er C (tVar i) ρ P := fun σ G H Q S q => by
  obtain ⟨o, ho, v, rfl, hv⟩ := S.sl i _ h
  exact ⟨v, ho, q v d G H (Ext.refl S.le) k hv⟩
theorem er_int {i : Int} (k : P (.int i)) : Er C (tC (.int i)) ρ P := fun σ G H Q S q => q _ _ G H (Ext.refl S.le) k (.int i)
theorem er_str {i : Str} (k : P (.str i)) : Er C (tC (.str i)) ρ P := fun σ G H Q S q => q _ _ G H (Ext.refl S.le) k (.str i)
theorem er_bl {i : Bool} (k : P (.bl i)) : Er C (tC (.bl i)) ρ P := fun σ G H Q S q => q _ _ G H (Ext.refl S.le) k (.bl i)
theorem er_non (k : P .non) : Er C (tC .non) ρ P := fun σ G H Q S q => q _ _ G H (Ext.refl S.le) k .non
theorem er_op {r : R2} (h : Er C ta ρ fun x => Er C tb ρ fun y => RD C.K r x y P) : Er C (tOp r ta tb) ρ P := fun σ G H Q S q => by
  refine h σ G H _ S fun v x G1 H1 e1 h1 i1 => ?_
  refine h1 σ G1 H1 _ (S.keep e1).st fun u y G2 H2 e2 h2 i2 => ?_
  refine h2 G2 H2 v u Q e2.gh (i1.mono e2.gg) i2 fun z d G3 H3 e3 p i3 => ?_
  exact q z d G3 H3 ((e1.trans e2 fun _ _ _ h => h).trans e3 fun _ _ _ h => h) p i3
theorem er_cb {r : List V → Hp → VK → Prop} (h : ErA C tA ρ fun xs => RC1 C.K r xs P) : Er C (tCB r tA) ρ P := fun σ G H Q S q => by
  refine h σ G H _ S fun v x G1 H1 e1 h1 i1 => ?_
  refine h1 G1 H1 v Q e1.gh i1 fun z d G3 H3 e3 p i3 => ?_
  exact q z d G3 H3 (e1.trans e3 fun _ _ _ h => h) p i3
end
theorem era_nil {P : List D → Prop} (k : P []) : ErA C tNil ρ P := fun σ G H Q S q => q [] [] G H (Ext.refl S.le) k .nil
theorem era_cons {P : List D → Prop} (h : Er C ta ρ fun x => ErA C tA ρ fun xs => P (x :: xs)) : ErA C (tCons ta tA) ρ P := fun σ G H Q S q => by
  refine h σ G H _ S fun v x G1 H1 e1 h1 i1 => ?_
  refine h1 σ G1 H1 _ (S.keep e1).st fun vs xs G2 H2 e2 h2 i2 => ?_
  exact q _ _ G2 H2 (e1.trans e2 fun _ _ _ h => h) h2 (.cons (i1.mono e2.gg) i2)
/-- a look at an own list that tells a plain value -/
theorem er_thaw {P : D → Prop} {ds : List D} (hi : ρ[i]? = some (.own ds)) (h : Er C te (ρ.set i (.dat (.lst ds))) fun d => scalD d = true ∧ P d) : Er C te ρ P := fun σ G H Q S q => by
  obtain ⟨p, vs, ho, hp, gp, _, sg, _, s⟩ := S.freeze hi
  refine h σ _ H Q s.st fun v d G' H' e pd k => q v d G H' ⟨Same.refl G, fun b u g => e.gh _ _ (e.gg _ _ (sg b u g)), e.fr, fun b o _ g _ => g, e.th, e.tt, fun g => g⟩ pd.2 (k.scal pd.1)
theorem ev_thaw {P : PD} {ds : List D} (hi : ρ[i]? = some (.own ds)) (h : Er C te (ρ.set i (.dat (.lst ds))) fun d => scalD d = true ∧ P d ρ) : Ev C te ρ P := Er.ev (er_thaw hi h)
/-- an item of an own list -/
theorem er_item {P : D → Prop} {ds : List D} {d : D} {tb : TE} {K' : PySem.W.Frag} (hK : K' = C.K) (hi : ρ[i]? = some (.own ds)) (h : Er C tb ρ fun x => ∃ n, x = .int n ∧ ∃ k : Nat, n = (k : Int) ∧ ds[k]? = some d ∧ P d) : Er C (tOp (rIxL K') (tVar i) tb) ρ P := fun σ G H Q S q => by
  subst hK
  obtain ⟨o, ho, p, vs, rfl, h1, h2, h3, h4⟩ := S.sl i _ hi
  refine ⟨_, ho, h σ G H _ S fun v x G1 H1 e1 k1 i1 => ?_⟩
  obtain ⟨n, rfl, k, rfl, k2, k3⟩ := k1
  cases i1
  obtain ⟨u, g1, g2⟩ := (h3.mono e1.gg).get k2
  exact ⟨p, vs, _, u, rfl, rfl, .inl (.inl (e1.fr _ _ h2 (fun _ z => nomatch z) (fun z => z))), atI_nat g1, q u d G1 H1 e1 k3 g2⟩
/-- the own list at i as an address -/
theorem Sg.own {G H : Hp} {σ : L2.St} {ds : List D} (S : Sg C G H σ ρ) (hi : ρ[i]? = some (.own ds)) : ∃ p vs, σ[i]? = some (some (.ref p)) ∧ G p = none ∧ H p = some (.lst vs) ∧ IsL C.K G vs ds ∧ C.H0 p = none ∧ Mt σ ρ i p := by
  obtain ⟨o, ho, p, vs, rfl, h1, h2, h3, h4⟩ := S.sl i _ hi
  exact ⟨p, vs, ho, h1, h2, h3, h4, ho, _, hi, rfl⟩
/-- what slot i may change is changed -/
theorem Sg.poke1 {G H : Hp} {σ : L2.St} {r r' : Slot} {o' : HO} (S : Sg C G H σ ρ) (hi : ρ[i]? = some r) (hm : r.mu = true) {p : Addr} (ho : σ[i]? = some (some (.ref p))) (hm' : r'.mu = true) (q' : SlotOk C G (upd H p o') (some (.ref p)) r') : Stp C G H σ ρ G (upd H p o') (ρ.set i r') := by
  have hl : i < ρ.length := (List.getElem?_eq_some_iff.mp hi).1
  obtain ⟨o, ho', q⟩ := S.sl i _ hi
  obtain ⟨p', u0, e, h1, h2, nt, nx, h4⟩ := q.at_ hm
  rw [ho] at ho'
  have e := (Option.some.inj ho').trans e
  cases e
  have mp : Mt σ ρ i p := ⟨ho, _, hi, hm⟩
  have gh : Same G (upd H p o') := fun b u e => by
    rw [upd_ne (ne_of_none e h1)]
    exact S.le b u e
  have ex : Ext G H G (upd H p o') (Fp σ ρ) := ⟨Same.refl G, gh, fun b o e _ f => by
    have nb : b ≠ p := fun z => by
      subst z
      exact f ⟨i, mp⟩
    rw [upd_ne nb]
    exact e, fun b o e g f => g, fun b o e => by
    by_cases hb : b = p
    · exact ⟨_, by rw [hb, upd_same]⟩
    · exact ⟨o, by rw [upd_ne hb]; exact e⟩, fun t => tabs_upd h2 nt nx t, fun g => g⟩
  have mt : ∀ {j : Nat} {a : Addr}, Mt σ (ρ.set i r') j a → Mt σ ρ j a := fun {j a} m => by
    by_cases hj : j = i
    · subst hj
      exact ⟨m.1, _, hi, hm⟩
    · refine ⟨m.1, ?_⟩
      obtain ⟨s, e, hs⟩ := m.slot
      rw [List.getElem?_set_ne (Ne.symm hj)] at e
      exact ⟨s, e, hs⟩
  refine ⟨ex, ⟨S.ext.trans ex fun x u hx hf => ?_, by rw [List.length_set, S.len], fun j s hs => ?_, fun j k a q1 q2 => S.dis j k a (mt q1) (mt q2)⟩, fun a ⟨j, m⟩ => ⟨j, mt m⟩⟩
  · obtain ⟨_, _, hf⟩ := S.fp_some hf
    rcases hf with hf | hf
    · exact hf
    · rw [hf] at hx
      cases hx
  · by_cases hj : j = i
    · subst hj
      rw [List.getElem?_set_self hl] at hs
      cases hs
      exact ⟨_, ho, q'⟩
    · rw [List.getElem?_set_ne (Ne.symm hj)] at hs
      obtain ⟨o, ho2, q⟩ := S.sl j s hs
      refine ⟨o, ho2, q.move (Same.refl G) fun hs' a u e h nt g => ⟨?_, g⟩⟩
      subst e
      have na : a ≠ p := fun e => hj (S.dis j i a ⟨ho2, _, hs, hs'⟩ (e ▸ mp))
      rw [upd_ne na]
      exact h
/-- the own list at i is written -/
theorem Sg.put {G H : Hp} {σ : L2.St} {ds es : List D} (S : Sg C G H σ ρ) (hi : ρ[i]? = some (.own ds)) {p : Addr} {us : List V} (ho : σ[i]? = some (some (.ref p))) (k : IsL C.K G us es) : Stp C G H σ ρ G (upd H p (.lst us)) (ρ.set i (.own es)) := by
  obtain ⟨p', vs, ho', h1, h2, h3, h4, mp⟩ := S.own hi
  rw [ho] at ho'
  cases ho'
  exact S.poke1 hi rfl ho rfl ⟨p, us, rfl, h1, upd_same, k, h4⟩
/-- found.append(x) -/
theorem ev_append {K' : PySem.W.Frag} (hK : K' = C.K) {P : PD} (hi : ∃ ds, ρ[i]? = some (.own ds)) (h : Ev C te ρ fun d ρ1 => ∃ ds, ρ1[i]? = some (.own ds) ∧ ds.length < 100000 ∧ P .non (ρ1.set i (.own (ds ++ [d])))) :
    Ev C (tBM K' "list" rAppend (tVar i) (tCons te tNil)) ρ P := fun σ G H Q S q => by
  subst hK
  obtain ⟨ds0, hi⟩ := hi
  obtain ⟨p, vs, ho, h1, h2, h3, h4, mp⟩ := S.own hi
  refine ⟨_, ho, .inl ⟨rfl, vs, .inl (.inl h2)⟩, h σ G H _ S fun v d G1 H1 ρ1 s1 p1 k1 => ?_⟩
  obtain ⟨ds, e1, e2, e3⟩ := p1
  obtain ⟨p2, vs2, ho2, _, g2, g3, _, _⟩ := s1.st.own e1
  rw [ho] at ho2
  cases ho2
  refine ⟨p, vs2, v, rfl, rfl, g2, ?_, ?_⟩
  · rw [g3.length]
    exact Nat.lt_of_lt_of_le e2 (by decide)
  · exact q _ _ G1 _ _ (s1.trans (s1.st.put e1 ho (g3.append (.cons k1 .nil)))) e3 .non
/-- rest.pop(n) -/
theorem ev_popAt {K' : PySem.W.Frag} (hK : K' = C.K) {P : PD} (hi : ∃ ds, ρ[i]? = some (.own ds)) (h : Ev C te ρ fun d ρ1 => ∃ ds x, ∃ n : Nat, d = .int (n : Int) ∧ n < 100000 ∧ ρ1[i]? = some (.own ds) ∧ ds[n]? = some x ∧ P x (ρ1.set i (.own (ds.eraseIdx n)))) :
    Ev C (tBM K' "list" rPopAt (tVar i) (tCons te tNil)) ρ P := fun σ G H Q S q => by
  subst hK
  obtain ⟨ds0, hi⟩ := hi
  obtain ⟨p, vs, ho, h1, h2, h3, h4, mp⟩ := S.own hi
  refine ⟨_, ho, .inl ⟨rfl, vs, .inl (.inl h2)⟩, h σ G H _ S fun v d G1 H1 ρ1 s1 p1 k1 => ?_⟩
  obtain ⟨ds, x, n, rfl, e0, e1, e2, e3⟩ := p1
  cases k1
  obtain ⟨p2, vs2, ho2, _, g2, g3, _, _⟩ := s1.st.own e1
  rw [ho] at ho2
  cases ho2
  obtain ⟨u, f1, f2⟩ := g3.get e2
  have hn : n < vs2.length := (List.getElem?_eq_some_iff.mp f1).1
  refine ⟨p, vs2, (n : Int), n, u, rfl, rfl, g2, by omega, by omega, ?_, f1, ?_⟩
  · unfold seqIndex?
    simp
    omega
  · exact q _ _ G1 _ _ (s1.trans (s1.st.put e1 ho (g3.erase n))) e3 f2
/-- found.extend(a new list) -/
theorem ev_extend {K' : PySem.W.Frag} (hK : K' = C.K) {P : PD} (hi : ∃ ds, ρ[i]? = some (.own ds)) (h : EvN C te ρ fun es ρ1 => ∃ ds, ρ1[i]? = some (.own ds) ∧ ds.length + es.length ≤ 100000 ∧ P .non (ρ1.set i (.own (ds ++ es)))) :
    Ev C (tBM K' "list" rExtend (tVar i) (tCons te tNil)) ρ P := fun σ G H Q S q => by
  subst hK
  obtain ⟨ds0, hi⟩ := hi
  obtain ⟨p, vs, ho, h1, h2, h3, h4, mp⟩ := S.own hi
  refine ⟨_, ho, .inl ⟨rfl, vs, .inl (.inl h2)⟩, h σ G H _ S fun b ws es G1 H1 ρ1 s1 p1 nb gb hb kb => ?_⟩
  obtain ⟨ds, e1, e2, e3⟩ := p1
  obtain ⟨p2, vs2, ho2, _, g2, g3, _, _⟩ := s1.st.own e1
  rw [ho] at ho2
  cases ho2
  refine ⟨p, b, vs2, ws, rfl, rfl, g2, hb, ?_, ?_⟩
  · rw [g3.length, kb.length]
    exact Nat.le_trans e2 (by decide)
  · exact q _ _ G1 _ _ (s1.trans (s1.st.put e1 ho (g3.append kb))) e3 .non
end
end DL
namespace DL
open PySem PySem.Spec PyProof.Rows L2
variable [TabT]

/-- what is walked tells the data ds, one a turn -/
structure WD (K : PySem.W.Frag) (G : Hp) (J : It) (ds : List D) : Prop where
  goes : ∀ i H, i < ds.length → Same G H → J.go i H
  stops : ∀ H, Same G H → J.stop ds.length H
  yields : ∀ i H x H' d, Same G H → ds[i]? = some d → J.yld i H x H' → (H' = H ∧ Is K G x d) ∨ ∃ T xs es, x = .ref T ∧ H T = none ∧ H' = upd H T (.tup xs) ∧ d = .tup es ∧ IsL K G xs es
def EvI (C : Fx) (wi : TI) (ρ : List Slot) (P : List D → List Slot → Prop) : Prop := ∀ (σ : L2.St) (G H : Hp) (R : It → Hp → Prop), Sg C G H σ ρ → (∀ J ds G' H' ρ', Stp C G H σ ρ G' H' ρ' → P ds ρ' → WD C.K G' J ds → R J H') → wi σ H R

section
variable {K : PySem.W.Frag} {G : Hp} {ds : List D}
def YW (K : PySem.W.Frag) (G : Hp) (ds : List D) : Nat → Hp → V → Hp → Prop := fun i H x H' => ∀ d, ds[i]? = some d → (H' = H ∧ Is K G x d) ∨ ∃ T xs es, x = .ref T ∧ H T = none ∧ H' = upd H T (.tup xs) ∧ d = .tup es ∧ IsL K G xs es
theorem WD.walk {J : It} (w : WD K G J ds) : Walk J ds.length (Same G) (YW K G ds) :=
  ⟨fun i H hi h => w.goes i H hi h, fun H h => w.stops H h, fun i H x H' _ h y d e => w.yields i H x H' d h e y⟩
theorem wd_list {a : Addr} {vs : List V} (h : G a = some (.lst vs)) (k : IsL K G vs ds) : WD K G (Itl K a) ds :=
  ⟨fun i H hi s => walk_list.goes i H (by rw [k.length]; exact hi) (.inl (.inl (s _ _ h))), fun H s => by
    have := walk_list (K := K) (a := a) (xs := vs)
    rw [← k.length]
    exact this.stops H (.inl (.inl (s _ _ h))), fun i H x H' d s e y => by
    have hi : i < vs.length := by
      rw [k.length]
      exact (List.getElem?_eq_some_iff.mp e).1
    obtain ⟨e1, e2⟩ := walk_list.yields i H x H' hi (.inl (.inl (s _ _ h))) y
    obtain ⟨v, f1, f2⟩ := k.get e
    rw [e2] at f1
    cases f1
    exact .inl ⟨e1, f2⟩⟩
theorem wd_tup {a : Addr} {vs : List V} (h : SqT K G a vs) (k : IsL K G vs ds) : WD K G (Itt K a) ds :=
  ⟨fun i H hi s => walk_tup.goes i H (by rw [k.length]; exact hi) (seqT_mono s h), fun H s => by
    have := walk_tup (K := K) (a := a) (xs := vs)
    rw [← k.length]
    exact this.stops H (seqT_mono s h), fun i H x H' d s e y => by
    have hi : i < vs.length := by
      rw [k.length]
      exact (List.getElem?_eq_some_iff.mp e).1
    obtain ⟨e1, e2⟩ := walk_tup.yields i H x H' hi (seqT_mono s h) y
    obtain ⟨v, f1, f2⟩ := k.get e
    rw [e2] at f1
    cases f1
    exact .inl ⟨e1, f2⟩⟩
/-- lo, lo + 1, .. -/
def intsD (lo : Int) (n : Nat) : List D := (List.range n).map fun (k : Nat) => D.int (lo + (k : Int))
theorem ints_len {lo : Int} {n : Nat} : (intsD lo n).length = n := by simp [intsD]
theorem ints_get {lo : Int} {n i : Nat} {d : D} (h : (intsD lo n)[i]? = some d) : d = .int (lo + i) ∧ i < n := by
  obtain ⟨hi, e⟩ := List.getElem?_eq_some_iff.mp h
  rw [ints_len] at hi
  simp [intsD] at e
  exact ⟨e.symm, hi⟩
theorem wd_range {lo : Int} {n : Nat} : WD K G (Itr lo n) (intsD lo n) :=
  ⟨fun i H hi s => walk_range.goes i H (by rw [ints_len] at hi; exact hi) trivial, fun H s => by
    rw [ints_len]
    exact walk_range.stops H trivial, fun i H x H' d s e y => by
    obtain ⟨rfl, hi⟩ := ints_get e
    obtain ⟨e1, e2⟩ := walk_range.yields i H x H' hi trivial y
    subst e2
    exact .inl ⟨e1, .int _⟩⟩
def pairs (i : Nat) : List D → List D
  | [] => []
  | d :: ds => .tup [.int (i : Int), d] :: pairs (i + 1) ds
theorem pairs_len : ∀ (i : Nat) (ds : List D), (pairs i ds).length = ds.length
  | _, [] => rfl
  | i, d :: ds => by
    show (pairs (i + 1) ds).length + 1 = ds.length + 1
    rw [pairs_len]
theorem pairs_get : ∀ {ds : List D} {i k : Nat} {d : D}, (pairs i ds)[k]? = some d → ∃ e, ds[k]? = some e ∧ d = .tup [.int ((i + k : Nat) : Int), e]
  | [], _, _, _, h => by simp [pairs] at h
  | e :: ds, i, 0, d, h => ⟨e, rfl, by
    have h : some (D.tup [.int (i : Int), e]) = some d := h
    cases h
    rfl⟩
  | e :: ds, i, k + 1, d, h => by
    have h : (pairs (i + 1) ds)[k]? = some d := h
    obtain ⟨e', h1, h2⟩ := pairs_get h
    exact ⟨e', h1, by rw [h2]; congr 3; omega⟩
theorem wd_enum {a : Addr} {vs : List V} (h : G a = some (.lst vs)) (k : IsL K G vs ds) : WD K G (Ite K a) (pairs 0 ds) :=
  ⟨fun i H hi s => walk_enum.goes i H (by rw [pairs_len] at hi; rw [k.length]; exact hi) (.inl (.inl (s _ _ h))), fun H s => by
    have := walk_enum (K := K) (a := a) (xs := vs)
    rw [pairs_len, ← k.length]
    exact this.stops H (.inl (.inl (s _ _ h))), fun i H x H' d s e y => by
    obtain ⟨d', f1, rfl⟩ := pairs_get e
    have hi : i < vs.length := by
      rw [k.length]
      exact (List.getElem?_eq_some_iff.mp f1).1
    obtain ⟨T, y1, y2, rfl, nT, e2, e3, e4⟩ := walk_enum.yields i H x H' hi (.inl (.inl (s _ _ h))) y
    obtain ⟨v, g1, g2⟩ := k.get f1
    cases e3
    have e4 : vs[i]? = some y2 := e4
    rw [e4] at g1
    cases g1
    refine .inr ⟨T, _, _, rfl, nT, e2, rfl, .cons ?_ (.cons g2 .nil)⟩
    simpa using Is.int (K := K) (G := G) (i : Int)⟩
def zips : List D → List D → List D
  | x :: xs, y :: ys => .tup [x, y] :: zips xs ys
  | _, _ => []
theorem zips_len : ∀ (xs ys : List D), (zips xs ys).length = min xs.length ys.length
  | [], _ => by simp [zips]
  | _ :: _, [] => by simp [zips]
  | x :: xs, y :: ys => by
    show (zips xs ys).length + 1 = min (xs.length + 1) (ys.length + 1)
    rw [zips_len]
    omega
theorem zips_get : ∀ {xs ys : List D} {k : Nat} {d : D}, (zips xs ys)[k]? = some d → ∃ x y, xs[k]? = some x ∧ ys[k]? = some y ∧ d = .tup [x, y]
  | [], _, _, _, h => by simp [zips] at h
  | _ :: _, [], _, _, h => by simp [zips] at h
  | x :: xs, y :: ys, 0, d, h => ⟨x, y, rfl, rfl, by
    have h : some (D.tup [x, y]) = some d := h
    cases h
    rfl⟩
  | x :: xs, y :: ys, k + 1, d, h => by
    have h : (zips xs ys)[k]? = some d := h
    obtain ⟨x', y', h1, h2, h3⟩ := zips_get h
    exact ⟨x', y', h1, h2, h3⟩
theorem wd_zip {a b : Addr} {vs ws : List V} {es : List D} (h : G a = some (.lst vs)) (k : IsL K G vs ds) (h' : G b = some (.lst ws)) (k' : IsL K G ws es) : WD K G (Itz K a b) (zips ds es) :=
  have wk := walk_zip (K := K) (a := a) (b := b) (xs := vs) (ys := ws) rfl
  ⟨fun i H hi s => wk.goes i H (by rw [zips_len] at hi; rw [k.length, k'.length]; exact hi) ⟨.inl (.inl (s _ _ h)), .inl (.inl (s _ _ h'))⟩, fun H s => by
    rw [zips_len, ← k.length, ← k'.length]
    exact wk.stops H ⟨.inl (.inl (s _ _ h)), .inl (.inl (s _ _ h'))⟩, fun i H x H' d s e y => by
    obtain ⟨d1, d2, f1, f2, rfl⟩ := zips_get e
    have hi : i < min vs.length ws.length := by
      rw [k.length, k'.length]
      have := (List.getElem?_eq_some_iff.mp f1).1
      have := (List.getElem?_eq_some_iff.mp f2).1
      omega
    obtain ⟨T, y1, y2, rfl, nT, e2, e3, e4⟩ := wk.yields i H x H' hi ⟨.inl (.inl (s _ _ h)), .inl (.inl (s _ _ h'))⟩ y
    obtain ⟨v, g1, g2⟩ := k.get f1
    obtain ⟨v', g1', g2'⟩ := k'.get f2
    have e3 : vs[i]? = some y1 := e3
    have e4 : ws[i]? = some y2 := e4
    rw [e3] at g1
    rw [e4] at g1'
    cases g1
    cases g1'
    exact .inr ⟨T, _, _, rfl, nT, e2, rfl, .cons g2 (.cons g2' .nil)⟩⟩
end

section
variable {C : Fx} {ρ : List Slot} {te tl : TE} {ta : TA}
theorem ei_list {K' : PySem.W.Frag} {P : List D → List Slot → Prop} (h : Ev C tl ρ fun d ρ1 => ∃ ds, d = .lst ds ∧ P ds ρ1) (hK : K' = C.K := by rfl) : EvI C (iList K' tl) ρ P := fun σ G H R S q => by
  subst hK
  refine h σ G H _ S fun v d G1 H1 ρ1 s1 p1 k1 => ?_
  obtain ⟨ds, rfl, p1⟩ := p1
  cases k1 with
  | lst k1 k2 => exact ⟨_, rfl, ⟨_, .inl (.inl (s1.st.le _ _ k1))⟩, q _ ds G1 H1 ρ1 s1 p1 (wd_list k1 k2)⟩
theorem ei_tup {K' : PySem.W.Frag} {P : List D → List Slot → Prop} (h : Ev C tl ρ fun d ρ1 => ∃ ds, d = .tup ds ∧ P ds ρ1) (hK : K' = C.K := by rfl) : EvI C (iTup K' tl) ρ P := fun σ G H R S q => by
  subst hK
  refine h σ G H _ S fun v d G1 H1 ρ1 s1 p1 k1 => ?_
  obtain ⟨ds, rfl, p1⟩ := p1
  cases k1 with
  | tup k1 k2 => exact ⟨_, rfl, ⟨_, seqT_mono s1.st.le k1⟩, q _ ds G1 H1 ρ1 s1 p1 (wd_tup k1 k2)⟩
theorem ei_range1 {P : List D → List Slot → Prop} (h : EvA C ta ρ fun ds ρ1 => ∃ j : Int, ds = [.int j] ∧ -(2 ^ 62) ≤ j ∧ j < 2 ^ 62 ∧ P (intsD 0 j.toNat) ρ1) : EvI C (iRng1 ta) ρ P := fun σ G H R S q => by
  refine h σ G H _ S fun vs ds G1 H1 ρ1 s1 p1 k1 => ?_
  obtain ⟨j, rfl, b1, b2, p1⟩ := p1
  cases k1 with
  | cons k1 k2 =>
    cases k1
    cases k2
    exact ⟨j, rfl, b1, b2, q _ _ G1 H1 ρ1 s1 p1 wd_range⟩
theorem ei_range2 {P : List D → List Slot → Prop} (h : EvA C ta ρ fun ds ρ1 => ∃ i j : Int, ds = [.int i, .int j] ∧ (-(2 ^ 62) ≤ i ∧ i < 2 ^ 62 ∧ -(2 ^ 62) ≤ j ∧ j < 2 ^ 62) ∧ P (intsD i (j - i).toNat) ρ1) : EvI C (iRng2 ta) ρ P := fun σ G H R S q => by
  refine h σ G H _ S fun vs ds G1 H1 ρ1 s1 p1 k1 => ?_
  obtain ⟨i, j, rfl, b, p1⟩ := p1
  cases k1 with
  | cons k1 k2 =>
    cases k1
    cases k2 with
    | cons k2 k3 =>
      cases k2
      cases k3
      exact ⟨i, j, rfl, b, q _ _ G1 H1 ρ1 s1 p1 wd_range⟩
theorem ei_enum {K' : PySem.W.Frag} {P : List D → List Slot → Prop} (h : EvA C ta ρ fun ds ρ1 => ∃ es, ds = [.lst es] ∧ P (pairs 0 es) ρ1) (hK : K' = C.K := by rfl) : EvI C (iEnum K' ta) ρ P := fun σ G H R S q => by
  subst hK
  refine h σ G H _ S fun vs ds G1 H1 ρ1 s1 p1 k1 => ?_
  obtain ⟨es, rfl, p1⟩ := p1
  cases k1 with
  | cons k1 k2 =>
    cases k2
    cases k1 with
    | lst k1 k2 => exact ⟨_, _, rfl, .inl (.inl (s1.st.le _ _ k1)), q _ _ G1 H1 ρ1 s1 p1 (wd_enum k1 k2)⟩
theorem wd_zipT {K : PySem.W.Frag} {G : Hp} {ds es : List D} {a b : Addr} {vs ws : List V} (h : SqT K G a vs) (k : IsL K G vs ds) (h' : SqT K G b ws) (k' : IsL K G ws es) : WD K G (RZ.ItzT K a b) (zips ds es) := by
  refine ⟨fun i H hi s => ?_, fun H s => ?_, fun i H x H' d s e y => ?_⟩
  · rw [zips_len, ← k.length, ← k'.length] at hi
    exact ⟨vs, ws, vs[i]'(by omega), ws[i]'(by omega), seqT_mono s h, seqT_mono s h', by simp, by simp⟩
  · rw [zips_len, ← k.length, ← k'.length]
    exact ⟨vs, ws, seqT_mono s h, seqT_mono s h', by omega⟩
  · obtain ⟨d1, d2, f1, f2, rfl⟩ := zips_get e
    obtain ⟨T, y1, y2, rfl, nT, e2, e3, e4⟩ := y
    obtain ⟨v, g1, g2⟩ := k.get f1
    obtain ⟨v', g1', g2'⟩ := k'.get f2
    rw [e3 vs (seqT_mono s h)] at g1
    rw [e4 ws (seqT_mono s h')] at g1'
    cases g1
    cases g1'
    exact .inr ⟨T, _, _, rfl, nT, e2, rfl, .cons g2 (.cons g2' .nil)⟩
theorem ei_zip {K' : PySem.W.Frag} {P : List D → List Slot → Prop} (h : EvA C ta ρ fun ds ρ1 => ∃ xs ys, (ds = [.lst xs, .lst ys] ∨ ds = [.tup xs, .tup ys]) ∧ P (zips xs ys) ρ1) (hK : K' = C.K := by rfl) : EvI C (RZ.iZipA K' ta) ρ P := fun σ G H R S q => by
  subst hK
  refine h σ G H _ S fun vs ds G1 H1 ρ1 s1 p1 k1 => ?_
  obtain ⟨xs, ys, e, p1⟩ := p1
  rcases e with rfl | rfl
  · cases k1 with
    | cons k1 k2 =>
      cases k2 with
      | cons k2 k3 =>
        cases k3
        cases k1 with
        | lst a1 a2 =>
          cases k2 with
          | lst b1 b2 => exact ⟨_, _, _, _, rfl, .inl ⟨.inl (.inl (s1.st.le _ _ a1)), .inl (.inl (s1.st.le _ _ b1)), q _ _ G1 H1 ρ1 s1 p1 (wd_zip a1 a2 b1 b2)⟩⟩
  · cases k1 with
    | cons k1 k2 =>
      cases k2 with
      | cons k2 k3 =>
        cases k3
        cases k1 with
        | tup a1 a2 =>
          cases k2 with
          | tup b1 b2 => exact ⟨_, _, _, _, rfl, .inr ⟨seqT_mono s1.st.le a1, seqT_mono s1.st.le b1, q _ _ G1 H1 ρ1 s1 p1 (wd_zipT a1 a2 b1 b2)⟩⟩

/-! ### for -/
theorem xs_for {wi : TI} {g : TG} {tb : TS} {is : List Nat} {po : Po} (I : List D → Nat → List Slot → Prop) (h : EvI C wi ρ fun ds ρ1 => I ds 0 ρ1 ∧
    (∀ i d ρ', ds[i]? = some d → I ds i ρ' → Eg C g is d ρ' fun ρ2 => Xs C tb ρ2 { nx := I ds (i + 1), rt := po.rt, bk := po.nx, ct := I ds (i + 1) }) ∧ ∀ ρ', I ds ds.length ρ' → po.nx ρ') : Xs C (tFor wi g tb) ρ po := fun σ G H Dn S hn hr hb hc => by
  refine h σ G H _ S fun J ds G1 H1 ρ1 s1 p1 w => ?_
  obtain ⟨i0, step, fin⟩ := p1
  refine for_it w.walk (fun i σ2 H2 => ∃ G2 ρ2, Sg C G2 H2 σ2 ρ2 ∧ Same G1 G2 ∧ I ds i ρ2) ⟨G1, ρ1, s1.st, Same.refl G1, i0⟩ (fun i σ2 H2 _ ⟨G2, ρ2, S2, e2, _⟩ => e2.trans S2.le) (fun i x σ2 H2 H3 hi ⟨G2, ρ2, S2, e2, i2⟩ y => ?_) fun σ2 H2 ⟨G2, ρ2, S2, e2, i2⟩ => hn σ2 G2 H2 ρ2 S2 (s1.ext.gg.trans e2) (fin ρ2 i2)
  have hd : ds[i]? = some ds[i] := List.getElem?_eq_getElem hi
  have go : ∀ {G3 : Hp} {x : V}, Sg C G3 H3 σ2 ρ2 → Same G2 G3 → Is C.K G3 x ds[i] → g x σ2 H3 fun σ4 H4 => tb { Dn with nx := fun σ5 H5 => ∃ G5 ρ5, Sg C G5 H5 σ5 ρ5 ∧ Same G1 G5 ∧ I ds (i + 1) ρ5, ct := fun σ5 H5 => ∃ G5 ρ5, Sg C G5 H5 σ5 ρ5 ∧ Same G1 G5 ∧ I ds (i + 1) ρ5, bk := Dn.nx } σ4 H4 := fun {G3 x} S3 e3 k => by
    refine step i _ ρ2 hd i2 σ2 G3 H3 x _ S3 k fun σ4 ρ4 S4 p4 _ _ => ?_
    exact p4 σ4 G3 H3 _ S4 (fun σ5 G5 H5 ρ5 S5 e5 p5 => ⟨G5, ρ5, S5, (e2.trans e3).trans e5, p5⟩) hr (fun σ5 G5 H5 ρ5 S5 e5 p5 => hn σ5 G5 H5 ρ5 S5 (((s1.ext.gg.trans e2).trans e3).trans e5) p5) fun σ5 G5 H5 ρ5 S5 e5 p5 => ⟨G5, ρ5, S5, (e2.trans e3).trans e5, p5⟩
  rcases y _ hd with ⟨rfl, k⟩ | ⟨T, xs, es, rfl, nT, rfl, e, k⟩
  · exact go S2 (Same.refl G2) (k.mono e2)
  · have ex := Ext.new (F := fun _ => False) S2.le nT (.tup xs)
    refine go (S2.keep ex).st ex.gg ?_
    rw [e]
    exact .tup (.inl (.inl upd_same)) (k.mono (e2.trans ex.gg))
theorem xs_while {tc : TT} {tb : TS} {po : Po} (I : Nat → List Slot → Prop) {m0 : Nat} (h0 : I m0 ρ) (step : ∀ m ρ', I m ρ' → EvT C tc ρ' fun b ρ2 => (b = true → Xs C tb ρ2 { nx := fun ρ3 => ∃ m', m' < m ∧ I m' ρ3, rt := po.rt, bk := po.nx, ct := fun ρ3 => ∃ m', m' < m ∧ I m' ρ3 }) ∧ (b = false → po.nx ρ2)) : Xs C (tWhile tc tb) ρ po := fun σ G H Dn S hn hr hb hc => by
  refine ⟨fun m σ2 H2 => ∃ G2 ρ2, Sg C G2 H2 σ2 ρ2 ∧ Same G G2 ∧ I m ρ2, ⟨m0, G, ρ, S, Same.refl G, h0⟩, fun m σ2 H2 ⟨G2, ρ2, S2, e2, i2⟩ => ?_⟩
  refine step m ρ2 i2 σ2 G2 H2 _ S2 fun b G3 H3 ρ3 s3 p3 => ?_
  cases b with
  | false => exact iteF (hn σ2 G3 H3 ρ3 s3.st (e2.trans s3.ext.gg) (p3.2 rfl))
  | true =>
    refine iteT ⟨fun σ4 H4 => ∃ m', m' < m ∧ ∃ G4 ρ4, Sg C G4 H4 σ4 ρ4 ∧ Same G G4 ∧ I m' ρ4, fun σ4 H4 z => z, ?_⟩
    exact p3.1 rfl σ2 G3 H3 _ s3.st (fun σ5 G5 H5 ρ5 S5 e5 ⟨m', l, p5⟩ => ⟨m', l, G5, ρ5, S5, (e2.trans s3.ext.gg).trans e5, p5⟩) hr (fun σ5 G5 H5 ρ5 S5 e5 p5 => hn σ5 G5 H5 ρ5 S5 ((e2.trans s3.ext.gg).trans e5) p5) fun σ5 G5 H5 ρ5 S5 e5 ⟨m', l, p5⟩ => ⟨m', l, G5, ρ5, S5, (e2.trans s3.ext.gg).trans e5, p5⟩

/-! ### comprehensions -/
def wipeS (ρ : List Slot) : List Nat → List Slot
  | [] => ρ
  | v :: vs => (wipeS ρ vs).set v .un
theorem Sg.wipe {G H : Hp} {σ : L2.St} (S : Sg C G H σ ρ) : ∀ vs : List Nat, Sg C G H (L2.wipe σ vs) (wipeS ρ vs)
  | [] => S
  | v :: vs => (S.wipe vs).setU
theorem wipeS_len : ∀ vs : List Nat, (wipeS ρ vs).length = ρ.length
  | [] => rfl
  | v :: vs => by unfold wipeS; rw [List.length_set, wipeS_len vs]
theorem wipeS_get {i : Nat} {s : Slot} : ∀ {vs : List Nat}, (wipeS ρ vs)[i]? = some s → s = .un ∨ (i ∉ vs ∧ ρ[i]? = some s)
  | [], h => .inr ⟨by simp, h⟩
  | v :: vs, h => by
    unfold wipeS at h
    by_cases hi : v = i
    · subst hi
      by_cases hv : v < (wipeS ρ vs).length
      · rw [List.getElem?_set_self hv] at h
        exact .inl (Option.some.inj h).symm
      · rw [List.getElem?_eq_none (by simpa using hv)] at h
        cases h
    · rw [List.getElem?_set_ne hi] at h
      rcases wipeS_get h with h | ⟨h1, h2⟩
      · exact .inl h
      · exact .inr ⟨by simp only [List.mem_cons, not_or]; exact ⟨fun e => hi e.symm, h1⟩, h2⟩
theorem wipe_ne {σ : L2.St} {i : Nat} : ∀ {vs : List Nat}, i ∉ vs → (L2.wipe σ vs)[i]? = σ[i]?
  | [], _ => rfl
  | v :: vs, h => by
    unfold L2.wipe
    simp only [List.mem_cons, not_or] at h
    rw [List.getElem?_set_ne (fun e => h.1 e.symm), wipe_ne h.2]
theorem Mt.wipe {σ : L2.St} {vs : List Nat} {j : Nat} {a : Addr} (m : Mt (L2.wipe σ vs) (wipeS ρ vs) j a) : Mt σ (wipeS ρ vs) j a ∧ Mt σ ρ j a := by
  have key : j ∉ vs ∧ ∃ s, ρ[j]? = some s ∧ s.mu = true := by
    obtain ⟨s, e, hm⟩ := m.slot
    rcases wipeS_get e with e | ⟨h1, h2⟩
    · subst e
      cases hm
    · exact ⟨h1, s, h2, hm⟩
  have e := m.1
  rw [wipe_ne key.1] at e
  exact ⟨⟨e, m.2⟩, ⟨e, key.2⟩⟩
theorem Mt.wipe' {σ : L2.St} {vs : List Nat} {j : Nat} {a : Addr} (m : Mt σ (wipeS ρ vs) j a) : Mt (L2.wipe σ vs) (wipeS ρ vs) j a := by
  have key : j ∉ vs := by
    obtain ⟨s, e, hm⟩ := m.slot
    rcases wipeS_get e with e | ⟨h1, h2⟩
    · subst e
      cases hm
    · exact h1
  refine ⟨?_, m.2⟩
  rw [wipe_ne key]
  exact m.1
/-- only the slots that are not forgotten matter -/
theorem Sg.unwipe {G H : Hp} {σ : L2.St} {vs : List Nat} (S : Sg C G H (L2.wipe σ vs) (wipeS ρ vs)) : Sg C G H σ (wipeS ρ vs) := by
  have len : σ.length = (wipeS ρ vs).length := by
    have := S.len
    rwa [wipe_length] at this
  refine ⟨S.ext, len, fun i s hs => ?_, fun i j a h1 h2 => S.dis i j a h1.wipe' h2.wipe'⟩
  rcases wipeS_get hs with rfl | ⟨hi, _⟩
  · have hl : i < σ.length := by
      rw [len]
      exact (List.getElem?_eq_some_iff.mp hs).1
    exact ⟨_, List.getElem?_eq_getElem hl, trivial⟩
  · obtain ⟨o, ho, q⟩ := S.sl i s hs
    rw [wipe_ne hi] at ho
    exact ⟨o, ho, q⟩
theorem wipe_none {σ : L2.St} {v : Nat} : ∀ us : List Nat, v ∈ us → v < σ.length → (L2.wipe σ us)[v]? = some none
  | [], h, _ => by simp at h
  | u :: us, h, hl => by
    have hu : L2.wipe σ (u :: us) = (L2.wipe σ us).set u none := rfl
    rw [hu]
    by_cases e : u = v
    · subst e
      rw [List.getElem?_set_self (by rw [wipe_length]; exact hl)]
    · rw [List.getElem?_set_ne e]
      simp only [List.mem_cons] at h
      exact wipe_none us (h.resolve_left fun z => e z.symm) hl
theorem wipe_wipe {σ : L2.St} {vs : List Nat} : ∀ ws : List Nat, (∀ v ∈ ws, v ∈ vs) → L2.wipe (L2.wipe σ vs) ws = L2.wipe σ vs
  | [], _ => rfl
  | v :: ws, hw => by
    have hu : L2.wipe (L2.wipe σ vs) (v :: ws) = (L2.wipe (L2.wipe σ vs) ws).set v none := rfl
    rw [hu, wipe_wipe ws fun z hz => hw z (by simp [hz])]
    refine List.ext_getElem? fun j => ?_
    by_cases hj : v = j
    · subst hj
      by_cases hl : v < σ.length
      · rw [List.getElem?_set_self (by rw [wipe_length]; exact hl), wipe_none vs (hw v (by simp)) hl]
      · rw [List.getElem?_eq_none (by rw [List.length_set, wipe_length]; omega), List.getElem?_eq_none (by rw [wipe_length]; omega)]
    · rw [List.getElem?_set_ne hj]
theorem en_lc {wi : TI} {g : TG} {tt : TT} {te : TE} {vs is : List Nat} {P : List D → List Slot → Prop} (I : List D → Nat → List D → List Slot → Prop) (hv : ∀ i ∈ is, i ∈ vs) (h : EvI C wi ρ fun ds ρ1 => ds.length ≤ 100000 ∧ I ds 0 [] (wipeS ρ1 vs) ∧
    (∀ i d acc ρ', ds[i]? = some d → I ds i acc (wipeS ρ' vs) → Eg C g is d (wipeS ρ' vs) fun ρ2 => EvT C tt ρ2 fun b ρ3 => (b = true → Ev C te ρ3 fun e ρ4 => I ds (i + 1) (acc ++ [e]) (wipeS ρ4 vs)) ∧ (b = false → I ds (i + 1) acc (wipeS ρ3 vs))) ∧
    ∀ acc ρ', acc.length ≤ ds.length → I ds ds.length acc (wipeS ρ' vs) → P acc (wipeS ρ' vs)) : EvN C (tLc wi g tt te vs) ρ P := fun σ G H Q S q => by
  refine h σ G H _ S fun J ds G1 H1 ρ1 s1 p1 w => ?_
  obtain ⟨hlen, i0, step, fin⟩ := p1
  intro Dl nD
  have nD0 : H Dl = none := by
    cases z : H Dl with
    | none => rfl
    | some o =>
      obtain ⟨u, e⟩ := s1.ext.th _ _ z
      rw [nD] at e
      cases e
  have gD : G1 Dl = none := s1.st.le.free nD
  have ex0 := Ext.newM (F := fun _ => False) s1.st.le nD (.lst [])
  have s0 := s1.st.keep ex0
  let Pv : Nat → Hp → Prop := fun i H2 => ∃ G2 ρ2 acc accd, Stp C G H σ ρ G2 H2 (wipeS ρ2 vs) ∧ Same G1 G2 ∧ G2 Dl = none ∧ H2 Dl = some (.lst acc) ∧ IsL C.K G2 acc accd ∧ I ds i accd (wipeS ρ2 vs) ∧ accd.length ≤ i
  have sub0 : ∀ a, Fp σ (wipeS ρ1 vs) a → Fp σ ρ1 a := fun a ⟨j, m⟩ => ⟨j, m.wipe'.wipe.2⟩
  refine lc_it w.walk Pv ⟨G1, ρ1, [], [], ⟨(s1.trans s0).ext, (s0.st.wipe vs).unwipe, fun a ha => s1.sub a (sub0 a ha)⟩, Same.refl G1, gD, upd_same, .nil, i0, Nat.zero_le _⟩ (fun i H2 _ ⟨G2, ρ2, acc, accd, s2, e2, _⟩ => e2.trans s2.st.le) (fun i x H2 H3 hi ⟨G2, ρ2, acc, accd, s2, e2, gd, hd, ka, i2, la⟩ y => ?_) fun H2 ⟨G2, ρ2, acc, accd, s2, e2, gd, hd, ka, i2, la⟩ => q Dl acc accd G2 H2 _ s2 (fin accd ρ2 la i2) nD0 gd hd ka
  have hdi : ds[i]? = some ds[i] := List.getElem?_eq_getElem hi
  have S2w : Sg C G2 H2 (L2.wipe σ vs) (wipeS ρ2 vs) := by
    refine ⟨s2.st.ext, by rw [wipe_length, s2.st.len], fun j s hs => ?_, fun j k a h1 h2 => s2.st.dis j k a h1.wipe.1 h2.wipe.1⟩
    rcases wipeS_get hs with rfl | ⟨hj, _⟩
    · have hl : j < (L2.wipe σ vs).length := by
        rw [wipe_length, s2.st.len]
        exact (List.getElem?_eq_some_iff.mp hs).1
      exact ⟨_, List.getElem?_eq_getElem hl, trivial⟩
    · obtain ⟨o, ho, qo⟩ := s2.st.sl j s hs
      exact ⟨o, by rw [wipe_ne hj]; exact ho, qo⟩
  have go : ∀ {G3 : Hp} {x : V}, Ext G2 H2 G3 H3 (fun _ => False) → G3 Dl = none → H3 Dl = some (.lst acc) → Is C.K G3 x ds[i] → g x (L2.wipe σ vs) H3 fun σ4 H4 => L2.wipe σ4 vs = L2.wipe σ vs ∧ tt σ4 H4 fun b H5 =>
      if b = true then te σ4 H5 fun y H6 => ∃ acc, H6 Dl = some (.lst acc) ∧ acc.length < sizeLine ∧ Pv (i + 1) (upd H6 Dl (.lst (acc ++ [y]))) else Pv (i + 1) H5 := fun {G3 x} ex g3 h3 k => by
    have S3 := (S2w.keep ex).st
    refine step i _ accd ρ2 hdi i2 (L2.wipe σ vs) G3 H3 x _ S3 k fun σ4 ρ4 S4 p4 w4 m4 => ⟨?_, ?_⟩
    · rw [w4 vs hv]
      exact wipe_wipe vs fun _ h => h
    · have w4' : L2.wipe σ4 vs = L2.wipe σ vs := by
        rw [w4 vs hv]
        exact wipe_wipe vs fun _ h => h
      -- D is nobody's
      have nf2 : ¬ Fp (L2.wipe σ vs) (wipeS ρ2 vs) Dl := fun ⟨j, m⟩ => by
        obtain ⟨_, ⟨xs, e⟩, _⟩ := S.fp_some (s2.sub Dl ⟨j, m.wipe.1⟩)
        rw [nD0] at e
        cases e
      have nf4 : ¬ Fp σ4 ρ4 Dl := fun ⟨j, m⟩ => nf2 ⟨j, m4 j _ m⟩
      have back : ∀ {ρ5 : List Slot} {G5 H5 : Hp}, Stp C G3 H3 σ4 ρ4 G5 H5 ρ5 → Stp C G H σ ρ G5 H5 (wipeS ρ5 vs) := fun {ρ5 G5 H5} s5 => by
        have S5 : Sg C G5 H5 σ (wipeS ρ5 vs) := by
          have := s5.st.wipe vs
          rw [w4'] at this
          exact this.unwipe
        have sub5 : ∀ a, Fp σ4 ρ5 a → Fp σ ρ a := fun a ha => by
          obtain ⟨j, m⟩ := s5.sub a ha
          exact s2.sub a ⟨j, (m4 j a m).wipe.1⟩
        refine ⟨(s2.ext.trans ex fun _ _ _ h => h.elim).trans s5.ext fun a _ _ ⟨j, m⟩ => s2.sub a ⟨j, (m4 j a m).wipe.1⟩, S5, fun a ⟨j, m⟩ => sub5 a ?_⟩
        have m1 := m.wipe'
        rw [← w4'] at m1
        exact ⟨j, m1.wipe.2⟩
      refine p4 σ4 G3 H3 _ S4 fun b G5 H5 ρ5 s5 p5 => ?_
      cases b with
      | false =>
        refine iteF ⟨G5, ρ5, acc, accd, back s5, (e2.trans ex.gg).trans s5.ext.gg, s5.ext.nf _ _ h3 g3 nf4, s5.ext.fr _ _ h3 (fun _ z => nomatch z) nf4, (ka.mono ex.gg).mono s5.ext.gg, p5.2 rfl, Nat.le_succ_of_le la⟩
      | true =>
        refine iteT (p5.1 rfl σ4 G5 H5 _ s5.st fun y e6 G6 H6 ρ6 s6 p6 k6 => ?_)
        have g6 : G6 Dl = none := s6.ext.nf _ _ (s5.ext.fr _ _ h3 (fun _ z => nomatch z) nf4) (s5.ext.nf _ _ h3 g3 nf4) fun z => nf4 (s5.sub _ z)
        have h6 : H6 Dl = some (.lst acc) := s6.ext.fr _ _ (s5.ext.fr _ _ h3 (fun _ z => nomatch z) nf4) (fun _ z => nomatch z) fun z => nf4 (s5.sub _ z)
        have t6 := back (s5.trans s6)
        have nf6 : ¬ Fp σ (wipeS ρ6 vs) Dl := fun z => by
          obtain ⟨_, ⟨xs, e⟩, _⟩ := S.fp_some (t6.sub Dl z)
          rw [nD0] at e
          cases e
        refine ⟨acc, h6, ?_, G6, ρ6, acc ++ [y], accd ++ [e6], ?_, ((e2.trans ex.gg).trans s5.ext.gg).trans s6.ext.gg, g6, upd_same, (((ka.mono ex.gg).mono s5.ext.gg).mono s6.ext.gg).append (.cons k6 .nil), p6, by rw [List.length_append]; exact Nat.succ_le_succ la⟩
        · rw [ka.length]
          exact Nat.lt_of_le_of_lt (Nat.le_of_lt (Nat.lt_of_le_of_lt la (Nat.lt_of_lt_of_le hi hlen))) (by decide)
        · -- the new list is written: the slots don't know it
          have gh : Same G6 (upd H6 Dl (.lst (acc ++ [y]))) := fun b u e => by
            rw [upd_ne (ne_of_none e g6)]
            exact t6.st.le b u e
          have ex6 : ∀ {A B : Hp} {F : Addr → Prop}, B Dl = none → Ext A B G6 H6 F → Ext A B G6 (upd H6 Dl (.lst (acc ++ [y]))) F := fun {A B F} n e => ⟨e.gg, gh, fun b o hb nt f => by
            rw [upd_ne (ne_of_none hb n)]
            exact e.fr b o hb nt f, e.nf, fun b o hb => by
            obtain ⟨u, hu⟩ := e.th b o hb
            exact ⟨u, by rw [upd_ne (ne_of_none hb n)]; exact hu⟩, fun t => tabs_upd h6 (fun _ z => nomatch z) (fun _ z => nomatch z) (e.tt t), e.nt⟩
          refine ⟨ex6 nD0 t6.ext, ⟨ex6 (h0_none S nD0) t6.st.ext, t6.st.len, fun j s hs => ?_, t6.st.dis⟩, t6.sub⟩
          obtain ⟨o, ho, qo⟩ := t6.st.sl j s hs
          refine ⟨o, ho, qo.move (Same.refl G6) fun hm a u e h nt g => ⟨?_, g⟩⟩
          subst e
          have np : a ≠ Dl := fun z => nf6 (z ▸ ⟨j, ho, _, hs, hm⟩)
          rw [upd_ne np]
          exact h
  rcases y _ hdi with ⟨rfl, k⟩ | ⟨T, xs, es, rfl, nT, rfl, e, k⟩
  · exact go (Ext.refl s2.st.le) gd hd (k.mono e2)
  · have ex := Ext.new (F := fun _ => False) s2.st.le nT (.tup xs)
    refine go ex ?_ ?_ ?_
    · rw [upd_ne (ne_of_none hd nT)]
      exact gd
    · rw [upd_ne (ne_of_none hd nT)]
      exact hd
    · rw [e]
      exact .tup (.inl (.inl upd_same)) (k.mono (e2.trans ex.gg))
end
end DL
namespace DL
open PySem PySem.Spec PyProof.Rows L2
variable [TabT]

/-- what is asked for an answer with R, for an error of the class at X with Z -/
abbrev FS := List D → (D → Prop) → (Addr → D → Prop) → Prop
abbrev FP := Nat → List D → (D → Nat → Prop) → (Addr → D → Prop) → Prop
/-- an exception flies: its class, its dict, frozen -/
def Flies (K : PySem.W.Frag) (G H : Hp) (F : Addr → Prop) (Z : Addr → D → Prop) (E : XK) : Prop :=
  ∀ (X dx : Addr) (v : V) (d : D) (G' H' : Hp), Ext G H G' H' F → G' dx = some (.xd [("value", v)]) → Is K G' v d → Z X d → E (.ref X) (some dx) H'
/-- the promise of a def over data -/
def spD (K : PySem.W.Frag) (f : FS) : Sp := fun vs H Q E => ∃ G ds R Z, Same G H ∧ IsL K G vs ds ∧ f ds R Z ∧ (∀ v d G' H', Ext G H G' H' (fun _ => False) → Is K G' v d → R d → Q v H') ∧ Flies K G H (fun _ => False) Z E
/-- .. of one that draws from the list that comes first -/
def spP (K : PySem.W.Frag) (f : FP) : Sp := fun vs H Q E => ∃ a ws G ds k R Z, vs = .ref a :: ws ∧ Same G H ∧ G a = none ∧ PotAt H a k ∧ IsL K G ws ds ∧ f k ds R Z ∧
  (∀ v d k' G' H', Ext G H G' H' (fun b => b = a) → G' a = none → PotAt H' a k' → Is K G' v d → R d k' → Q v H') ∧ Flies K G H (fun b => b = a) Z E
theorem Flies.none {K : PySem.W.Frag} {G H : Hp} {F : Addr → Prop} {E : XK} : Flies K G H F (fun _ _ => False) E := fun _ _ _ _ _ _ _ _ _ z => z.elim
theorem Flies.imp {K : PySem.W.Frag} {G H : Hp} {F : Addr → Prop} {Z Z' : Addr → D → Prop} {E : XK} (h : Flies K G H F Z E) (i : ∀ X d, Z' X d → Z X d) : Flies K G H F Z' E := fun X dx v d G' H' e g k z => h X dx v d G' H' e g k (i X d z)

section
variable {C : Fx} {ρ : List Slot} {P : PD} {ta : TA} {E : XK} {Z : Addr → D → Prop}
theorem list_nil {α : Type} (l : List α) : l ++ [] = l := List.append_nil l
/-- f(..) of a def over data; es: its defaults -/
theorem ev_call {K' : PySem.W.Frag} {f : FS} {dvs : List V} {es : List D} (hE : Flies C.K C.G0 C.H0 C.F0 Z E) (hd : ∀ G, IsL C.K G dvs es) (h : EvA C ta ρ fun ds ρ1 => f (ds ++ es) (fun d => P d ρ1) Z) (hK : K' = C.K := by rfl) : Ev C (tCall (spD K' f) dvs E ta) ρ P := fun σ G H Q S q => by
  subst hK
  refine h σ G H _ S fun vs ds G1 H1 ρ1 s1 p1 k1 => ?_
  refine ⟨G1, ds ++ es, _, Z, s1.st.le, k1.append (hd G1), p1, fun v d G' H' e k r => q v d G' H' ρ1 (s1.trans (s1.st.keep e)) r k, fun X dx v d G' H' e g k z => ?_⟩
  exact hE X dx v d G' H' (s1.st.ext.trans e fun _ _ _ z => z.elim) g k z
/-- .. without arguments -/
theorem ev_call0 {K' : PySem.W.Frag} {f : FS} {dvs : List V} {es : List D} {t0 : TE} (hE : Flies C.K C.G0 C.H0 C.F0 Z E) (hd : ∀ G, IsL C.K G dvs es) (ht : ∀ σ H Q, t0 σ H Q = spD K' f dvs H Q E) (h : f es (fun d => P d ρ) Z) (hK : K' = C.K := by rfl) : Ev C t0 ρ P := fun σ G H Q S q => by
  subst hK
  rw [ht]
  exact ⟨G, es, _, Z, S.le, hd G, h, fun v d G' H' e k r => q v d G' H' ρ (S.keep e) r k, fun X dx v d G' H' e g k z => hE X dx v d G' H' (S.ext.trans e fun _ _ _ z => z.elim) g k z⟩
/-- the list that is drawn from has turned -/
theorem Sg.drew {G H G' H' : Hp} {σ : L2.St} {i : Nat} {a : Addr} {k k' : Nat} (S : Sg C G H σ ρ) (hi : ρ[i]? = some (.pot a k)) (e : Ext G H G' H' (fun b => b = a)) (g : G' a = none) (p : PotAt H' a k') : Stp C G H σ ρ G' H' (ρ.set i (.pot a k')) := by
  have hl : i < ρ.length := (List.getElem?_eq_some_iff.mp hi).1
  obtain ⟨o, ho, rfl, h1, h2, h3⟩ := S.sl i _ hi
  have mp : Mt σ ρ i a := ⟨ho, _, hi, rfl⟩
  have mt : ∀ {j : Nat} {b : Addr}, Mt σ (ρ.set i (.pot a k')) j b → Mt σ ρ j b := fun {j b} m => by
    by_cases hj : j = i
    · subst hj
      have := m.1
      rw [ho] at this
      cases this
      exact mp
    · refine ⟨m.1, ?_⟩
      obtain ⟨q, e, hm⟩ := m.slot
      rw [List.getElem?_set_ne (Ne.symm hj)] at e
      exact ⟨q, e, hm⟩
  refine ⟨e.mono fun b hb => hb ▸ ⟨i, mp⟩, ⟨S.ext.trans e fun x u hx hf => ?_, by rw [List.length_set, S.len], fun j s hs => ?_, fun j k b q1 q2 => S.dis j k b (mt q1) (mt q2)⟩, fun b ⟨j, m⟩ => ⟨j, mt m⟩⟩
  · subst hf
    rcases h3 with h3 | h3
    · exact h3
    · rw [h3] at hx
      cases hx
  · by_cases hj : j = i
    · subst hj
      rw [List.getElem?_set_self hl] at hs
      cases hs
      exact ⟨_, ho, rfl, g, p, h3⟩
    · rw [List.getElem?_set_ne (Ne.symm hj)] at hs
      obtain ⟨o, ho2, q⟩ := S.sl j s hs
      refine ⟨o, ho2, q.move e.gg fun hm b u eb h nt g => ?_⟩
      subst eb
      have na : b ≠ a := fun z => hj (S.dis j i a ⟨z ▸ ho2, _, hs, hm⟩ mp)
      exact ⟨e.fr _ _ h nt na, e.nf _ _ h g na⟩
/-- f(pot, ..) -/
theorem ev_callP {K' : PySem.W.Frag} {f : FP} {i : Nat} {dvs : List V} {es : List D} (hE : Flies C.K C.G0 C.H0 C.F0 Z E) (hd : ∀ G, IsL C.K G dvs es) (hi : ∃ a k, ρ[i]? = some (.pot a k)) (h : EvA C ta ρ fun ds ρ1 => ∃ a k, ρ1[i]? = some (.pot a k) ∧ f k (ds ++ es) (fun d k' => P d (ρ1.set i (.pot a k'))) Z) (hK : K' = C.K := by rfl) :
    Ev C (tCall (spP K' f) dvs E (tCons (tVar i) ta)) ρ P := fun σ G H Q S q => by
  subst hK
  obtain ⟨a0, k0, hi⟩ := hi
  obtain ⟨o, ho, rfl, _⟩ := S.sl i _ hi
  refine ⟨_, ho, h σ G H _ S fun vs ds G1 H1 ρ1 s1 p1 k1 => ?_⟩
  obtain ⟨a, k, e1, p1⟩ := p1
  obtain ⟨o, ho2, rfl, g1, g2, g3⟩ := s1.st.sl i _ e1
  rw [ho] at ho2
  cases ho2
  refine ⟨a0, vs ++ dvs, G1, ds ++ es, k, _, Z, rfl, s1.st.le, g1, g2, k1.append (hd G1), p1, fun v d k' G' H' e g p kd r => q v d G' H' _ (s1.trans (s1.st.drew e1 e g p)) r kd, fun X dx v d G' H' e g kk z => ?_⟩
  refine hE X dx v d G' H' (s1.st.ext.trans e fun x u hx hf => ?_) g kk z
  subst hf
  rcases g3 with g3 | g3
  · exact g3
  · rw [g3] at hx
    cases hx
end

/-! ### a def's body -/
section
variable {K : PySem.W.Frag} {N : List Str} {vs : List V} {ds : List D} {G H : Hp}
theorem start_get {i : Nat} : (start N vs)[i]? = if i < vs.length then vs[i]?.map some else (List.replicate (N.length - vs.length) (none : Option V))[i - vs.length]? := by
  unfold L2.start
  rw [List.getElem?_append]
  simp only [List.length_map]
  split
  · rw [List.getElem?_map]
  · rfl
theorem start_sg (le : Same G H) (k : IsL K G vs ds) (F : Addr → Prop) : Sg ⟨K, G, H, F⟩ G H (start N vs) (ds.map .dat ++ List.replicate (N.length - ds.length) .un) := by
  have kl := k.length
  have lens : (start N vs).length = (ds.map Slot.dat ++ List.replicate (N.length - ds.length) Slot.un).length := by
    unfold L2.start
    simp [kl]
  have nm : ∀ {i : Nat} {s : Slot}, (ds.map Slot.dat ++ List.replicate (N.length - ds.length) Slot.un)[i]? = some s → (∃ d, ds[i]? = some d ∧ s = .dat d) ∨ s = .un := fun {i s} h => by
    rw [List.getElem?_append] at h
    split at h
    · rw [List.getElem?_map] at h
      cases e : ds[i]? with
      | none =>
        rw [e] at h
        cases h
      | some d =>
        rw [e] at h
        exact .inl ⟨d, rfl, (Option.some.inj h).symm⟩
    · rw [List.getElem?_replicate] at h
      split at h
      · exact .inr (Option.some.inj h).symm
      · cases h
  have nmt : ∀ {i : Nat} {a : Addr}, ¬ Mt (start N vs) (ds.map Slot.dat ++ List.replicate (N.length - ds.length) Slot.un) i a := fun {i a} m => by
    obtain ⟨r, e, hm⟩ := m.slot
    rcases nm e with ⟨d, _, z⟩ | z <;> subst z <;> cases hm
  refine ⟨Ext.refl le, lens, fun i s hs => ?_, fun i j a h _ => (nmt h).elim⟩
  have hl : i < (start N vs).length := by
    rw [lens]
    exact (List.getElem?_eq_some_iff.mp hs).1
  rcases nm hs with ⟨d, hd, rfl⟩ | rfl
  · obtain ⟨v, hv, kv⟩ := k.get hd
    refine ⟨some v, ?_, v, rfl, kv⟩
    rw [start_get, if_pos (List.getElem?_eq_some_iff.mp hv).1, hv]
    rfl
  · exact ⟨_, List.getElem?_eq_getElem hl, trivial⟩
theorem start_sgP {a : Addr} {k : Nat} (le : Same G H) (ga : G a = none) (pa : PotAt H a k) (t : IsL K G vs ds) (F : Addr → Prop) (fa : F a) : Sg ⟨K, G, H, F⟩ G H (start N (.ref a :: vs)) (.pot a k :: (ds.map .dat ++ List.replicate (N.length - (ds.length + 1)) .un)) := by
  have kl := t.length
  have lens : (start N (.ref a :: vs)).length = (Slot.pot a k :: (ds.map Slot.dat ++ List.replicate (N.length - (ds.length + 1)) Slot.un)).length := by
    unfold L2.start
    simp [kl]
  have nm : ∀ {i : Nat} {s : Slot}, (ds.map Slot.dat ++ List.replicate (N.length - (ds.length + 1)) Slot.un)[i]? = some s → (∃ d, ds[i]? = some d ∧ s = .dat d) ∨ s = .un := fun {i s} h => by
    rw [List.getElem?_append] at h
    split at h
    · rw [List.getElem?_map] at h
      cases e : ds[i]? with
      | none =>
        rw [e] at h
        cases h
      | some d =>
        rw [e] at h
        exact .inl ⟨d, rfl, (Option.some.inj h).symm⟩
    · rw [List.getElem?_replicate] at h
      split at h
      · exact .inr (Option.some.inj h).symm
      · cases h
  have nmt : ∀ {i : Nat} {b : Addr}, Mt (start N (.ref a :: vs)) (Slot.pot a k :: (ds.map Slot.dat ++ List.replicate (N.length - (ds.length + 1)) Slot.un)) i b → i = 0 := fun {i b} m => by
    cases i with
    | zero => rfl
    | succ i =>
      obtain ⟨r, e, hm⟩ := m.slot
      rw [List.getElem?_cons_succ] at e
      rcases nm e with ⟨d, _, z⟩ | z <;> subst z <;> cases hm
  refine ⟨Ext.refl le, lens, fun i s hs => ?_, fun i j b h1 h2 => (nmt h1).trans (nmt h2).symm⟩
  have hl : i < (start N (.ref a :: vs)).length := by
    rw [lens]
    exact (List.getElem?_eq_some_iff.mp hs).1
  cases i with
  | zero =>
    have hs : some (Slot.pot a k) = some s := hs
    cases hs
    exact ⟨some (.ref a), rfl, rfl, ga, pa, .inl fa⟩
  | succ i =>
    rw [List.getElem?_cons_succ] at hs
    rcases nm hs with ⟨d, hd, rfl⟩ | rfl
    · obtain ⟨v, hv, kv⟩ := t.get hd
      refine ⟨some v, ?_, v, rfl, kv⟩
      rw [start_get, if_pos (by rw [List.length_cons]; have := (List.getElem?_eq_some_iff.mp hv).1; omega), List.getElem?_cons_succ, hv]
      rfl
    · exact ⟨_, List.getElem?_eq_getElem hl, trivial⟩
/-- the end of a def's proof -/
theorem fin_D {t : TS} {Q : VK} {R : D → Prop} (le : Same G H) (k : IsL K G vs ds) (hq : ∀ v d G' H', Ext G H G' H' (fun _ => False) → Is K G' v d → R d → Q v H')
    (h : Xs ⟨K, G, H, fun _ => False⟩ t (ds.map .dat ++ List.replicate (N.length - ds.length) .un) { nx := fun _ => R .non, rt := fun d _ => R d }) : t { nx := fun _ H' => Q .non H', rt := Q } (start N vs) H :=
  h _ G H _ (start_sg le k _) (fun σ' G' H' ρ' s _ r => hq _ _ G' H' s.ext .non r) (fun v d σ' G' H' ρ' s kd r => hq v d G' H' s.ext kd r) (fun _ _ _ _ _ _ z => z.elim) (fun _ _ _ _ _ _ z => z.elim)
theorem fin_P {t : TS} {Q : VK} {R : D → Nat → Prop} {a : Addr} {k : Nat} (le : Same G H) (ga : G a = none) (pa : PotAt H a k) (kk : IsL K G vs ds) (hq : ∀ v d k' G' H', Ext G H G' H' (fun b => b = a) → G' a = none → PotAt H' a k' → Is K G' v d → R d k' → Q v H')
    (h : Xs ⟨K, G, H, fun b => b = a⟩ t (.pot a k :: (ds.map .dat ++ List.replicate (N.length - (ds.length + 1)) .un)) { nx := fun ρ' => ∃ k', ρ'[0]? = some (.pot a k') ∧ R .non k', rt := fun d ρ' => ∃ k', ρ'[0]? = some (.pot a k') ∧ R d k' }) : t { nx := fun _ H' => Q .non H', rt := Q } (start N (.ref a :: vs)) H := by
  refine h _ G H _ (start_sgP le ga pa kk _ rfl) (fun σ' G' H' ρ' s _ r => ?_) (fun v d σ' G' H' ρ' s kd r => ?_) (fun _ _ _ _ _ _ z => z.elim) (fun _ _ _ _ _ _ z => z.elim)
  · obtain ⟨k', e, r⟩ := r
    obtain ⟨o, ho, rfl, g1, g2, g3⟩ := s.sl 0 _ e
    exact hq _ _ k' G' H' s.ext g1 g2 .non r
  · obtain ⟨k', e, r⟩ := r
    obtain ⟨o, ho, rfl, g1, g2, g3⟩ := s.sl 0 _ e
    exact hq _ _ k' G' H' s.ext g1 g2 kd r
end
end DL
/-! defs that are called where nothing is being shown (repr) -/
namespace DL
open PySem PySem.Spec PyProof.Rows L2
variable [TabT]

/-- as FnOk, where no object is being shown -/
structure FnG (P : Program) (w : World) (K : PySem.W.Frag) (mg : Str → Option Value) (base : Heap) (CX : CXT) (k : Nat) (f : Addr) (fd : FuncData) (ps : List Str) (sp : Sp) : Prop where
  len : ∀ vs H Q E, sp vs H Q E → vs.length = ps.length
  run : ∀ (A : Around) (outer : List Env) (s : Shared) (H : Hp) (args : Args) (us : List Value) (vs : List V) (Q : VK) (E : XK), A.guards = some [] → Room k A → Env0 P w K mg base A outer s H → BindsTo s fd args (ps.zip us) → Vals vs us → sp vs H Q E →
    codeAny (model P w) A (.call (.ref f) args) (CR CX outer P w H s Q E) s
theorem FnG.mono {P : Program} {w : World} {K : PySem.W.Frag} {mg : Str → Option Value} {base : Heap} {CX : CXT} {j k : Nat} {f : Addr} {fd : FuncData} {ps : List Str} {sp : Sp} (F : FnG P w K mg base CX j f fd ps sp) (h : j ≤ k) :
    FnG P w K mg base CX k f fd ps sp := ⟨F.len, fun A outer s H args us vs Q E g hr => F.run A outer s H args us vs Q E g (hr.mono h)⟩

section
variable {X : Cx} {CX : CXT} {k : Nat} {f : Addr} {fd : FuncData} {ps : List Str} {sp : Sp} {dvs : List V} {ds : List Value} {E : XK} {x : Str} {p pos : Pos} {e : Expr} {es : List Expr} {t : TA}
theorem run_g {pins : List (Addr × Obj)} {σ : L2.St} {H : Hp} {s : Shared} {Q : VK} {us : List Value} {vs : List V} (gd : X.A.guards = some []) (F : FnG X.prog X.w X.K X.mg X.base CX k f fd ps sp) (hr : Room k X.A) (hb : Binds X.K fd ps ds) (hd : Vals dvs ds) (hx : Passes CX X E)
    (I : Inv X pins σ H s) (r : Vals vs us) (h : sp (vs ++ dvs) H Q E) : wpAny (model X.prog X.w) X.A (call (.ref f) us) (EP X pins σ Q) X.xe s := by
  have r2 := r.append hd
  have hl : (us ++ ds).length = ps.length := r2.length ▸ F.len _ _ _ _ h
  have key := F.run X.A X.stack s H ⟨us, []⟩ (us ++ ds) (vs ++ dvs) Q E gd hr I.env0 (hb s us I.kIn hl) r2 h
  refine wpAny_call (codeAny_mono key fun r s' hq => ?_)
  match r, hq with
  | .error e, hq => exact hx pins σ H s e s' I hq
  | .ok (.ret u), hq => exact I.after hq
/-- f(e, ..) -/
theorem pe_g (gd : X.A.guards = some []) (F : FnG X.prog X.w X.K X.mg X.base CX k f fd ps sp) (hr : Room k X.A) (hg : Gl X x) (hm : X.mg x = some (.ref f)) (hk : PySem.W.keepIn X.K (.ref f) = true) (hb : Binds X.K fd ps ds) (hd : Vals dvs ds) (hx : Passes CX X E)
    (ha : PA X (e :: es) t) (hdb : (x == ("__debug__" : Str)) = false := by decide) (he : starEach (e :: es) X.env = (false, eval e X.env) :: starEach es X.env := by rfl) (hpl : (backTo pos (starEach es X.env)).any (·.1) = false := by rfl) :
    PE X (.Call (.Name x p) (e :: es) [] pos) (tCall sp dvs E t) :=
  ⟨fun pins s σ H Q I h => wpAny_Call_Name_kw (ld_glob I hg hm (PySem.W.callWith_K (h₀ := X.base) I.ok.mod.kin hk (thn (ha.run pos pins s σ H _ I h) fun us s1 ⟨vs, H1, I1, r, q⟩ => ⟨I1.kIn, run_g gd F hr hb hd hx I1 r q⟩) he hpl) hdb)⟩
theorem pe_g0 (gd : X.A.guards = some []) (F : FnG X.prog X.w X.K X.mg X.base CX k f fd ps sp) (hr : Room k X.A) (hg : Gl X x) (hm : X.mg x = some (.ref f)) (hk : PySem.W.keepIn X.K (.ref f) = true) (hb : Binds X.K fd ps ds) (hd : Vals dvs ds) (hx : Passes CX X E)
    (hdb : (x == ("__debug__" : Str)) = false := by decide) : PE X (.Call (.Name x p) [] [] pos) (tCall sp dvs E tNil) :=
  ⟨fun pins s σ H Q I h => wpAny_Call_Name_kw (ld_glob I hg hm (PySem.W.callWith_K0 I.kIn hk (run_g (us := []) gd F hr hb hd hx I .nil h)) hdb)⟩
end

section
variable {P : Program} {w : World} {K : PySem.W.Frag} {mg : Str → Option Value} {base : Heap} {CX : CXT}
/-- a def, by its body -/
theorem fn_g {k : Nat} {f : Addr} {name qual : Str} {params : Arguments} {body : List Stmt} {scope : Scope} {dV kV doc pm cdv ct oc : Value} {an od : Option Addr}
    {osl : Array (Option Value)} {N ps : List Str} {sp : Sp} (lk : K.lookup f = some ⟨oc, od, .func (PySem.W.fnOf name qual params body scope dV kV doc pm an cdv ct), osl⟩) (hcd : PySem.W.codeIn K cdv qual = true) (S : FnScope N ps scope)
    (len : ∀ vs H Q E, sp vs H Q E → vs.length = ps.length)
    (hb : ∀ (A : Around) (outer : List Env) (s : Shared) (H : Hp) (vs : List V) (Q : VK) (E : XK), A.guards = some [] → Room k (A.deeper (envOfC qual scope s.heap.objs.size f cdv)) → sp vs H Q E →
      ∃ t, PSs (cxOf CX P w K mg base N qual scope f cdv A outer s H E) body t ∧ t { nx := fun _ H' => Q .non H', rt := Q } (L2.start N vs) H) :
    FnG P w K mg base CX (k + 1) f (PySem.W.fnOf name qual params body scope dV kV doc pm an cdv ct) ps sp := by
  refine ⟨len, fun A outer s H args us vs Q E gd hr e0 hbd r hsp => ?_⟩
  have kept : ∀ b o, base.get? b = some o → s.heap.get? b = some o := fun b o e => (e0.bs b o e).1
  have KX := e0.mod.kin.keeps kept
  have kinds : ∀ y ∈ ps.zip us, scope.names.lookup y.1 = some .local ∨ (scope.names.lookup y.1 = some .cell ∧ ((cellsFrom (s.heap.objs.size + 1) scope.names []).lookup y.1).isSome = true) := by
    rintro ⟨n, v⟩ hy
    exact (S.par n (List.of_mem_zip hy).1).imp id fun q => ⟨q, PySem.W.cellsFrom_some _ _ _ (.inl q)⟩
  refine codeAny_call_function hr.depth (KX _ _ lk) rfl S.co S.gen rfl (PySem.W.codeRec_of KX hcd) (hbd _ _ _ _ (wpAny_newFunctionEnv_cells S.kind kinds fun env he s1 x => ?_))
  subst he
  obtain ⟨t, ht, hq⟩ := hb A outer s H vs Q E gd (hr.deeper _) hsp
  have I := inv_start (CX := CX) (P := P) (mg := mg) (N := N) (cd := cdv) (E := E) S hr.hd e0 (len _ _ _ _ hsp) r x
  refine ⟨(e0.mod.nolimit.keeps kept).keeps x.toInCall.keep, codeAny_func (wpAny_mono (ht.run [] s1 _ H _ I hq) (fun fl s' hs => ?_) fun e s' hs => hs)⟩
  match fl, hs with
  | .ret u, ⟨v, σ', H', J, rv, q⟩ => exact ⟨v, H', J.os, J.bare, J.base, J.hok, rv, q⟩
  | .next, ⟨σ', H', J, q⟩ => exact ⟨V.non, H', J.os, J.bare, J.base, J.hok, rfl, q⟩
  | .brk, ⟨_, _, _, q⟩ => exact False.elim q
  | .cont, ⟨_, _, _, q⟩ => exact False.elim q
theorem okG {x qual : Str} {st : Stmt} {f : Addr} {fd : FuncData} {N ps : List Str} {k : Nat} {sp : Sp} (F : Fun K x qual st f fd) (S : FnScope N ps (defScope st)) (len : ∀ vs H Q E, sp vs H Q E → vs.length = ps.length)
    (hb : ∀ (cdv : Value) (A : Around) (outer : List Env) (s : Shared) (H : Hp) (vs : List V) (Q : VK) (E : XK), A.guards = some [] → Room k (A.deeper (envOfC qual (defScope st) s.heap.objs.size f cdv)) → sp vs H Q E →
      ∃ t, PSs (cxOf CX P w K mg base N qual (defScope st) f cdv A outer s H E) (defBody st) t ∧ t { nx := fun _ H' => Q .non H', rt := Q } (L2.start N vs) H) : FnG P w K mg base CX (k + 1) f fd ps sp := by
  obtain ⟨oc, od, kV, doc, pm, an, cdv, ct, osl, rfl, lk, hcd⟩ := F.ex
  exact fn_g lk hcd S len fun A outer s H vs Q E gd hr h => hb cdv A outer s H vs Q E gd hr h
end

/-! ### the law's own call -/
def scH (K : PySem.W.Frag) (a : Addr) (o : Obj) (xs : List V) : Hp := fun b => if b = a ∧ K.lookup a = none then some (.frz o (.lst xs)) else none
theorem scH_some {K : PySem.W.Frag} {a b : Addr} {o : Obj} {xs : List V} {u : HO} (h : scH K a o xs b = some u) : b = a ∧ K.lookup a = none ∧ u = .frz o (.lst xs) := by
  unfold scH at h
  by_cases c : b = a ∧ K.lookup a = none
  · rw [if_pos c] at h
    exact ⟨c.1, c.2, (Option.some.inj h).symm⟩
  · rw [if_neg c] at h
    cases h
theorem law_g {P : Program} {w : World} {K : PySem.W.Frag} {mg mb : Str → Option Value} {CX : CXT} {k : Nat} {fa a : Addr} {fd : FuncData} {x : Str} {sp : Sp} {s₁ : Shared} {vs : List Value} {ns : List Int}
    (KX : K.In s₁.heap) (hns : s₁.heap.Ns mainGlobals mg) (hb : s₁.heap.Ns builtinsNs mb) (hbb : ∀ x : Str, x ≠ "__name__" → mb x = bootBuiltins x) (hlim : s₁.heap.NoLimit) (hg : s₁.gens = #[])
    (ha : s₁.heap.get? a = some { cls := .type "list", data := .seq vs.toArray }) (hi : IntsAre vs ns) (hl : ns.length ≤ sizeLine) (hr : Room k callerA)
    (F : ∀ base : Heap, K.In base → base.Ns mainGlobals mg → FnG P w K mg base CX k fa fd [x] sp) (hbind : ∀ (s : Shared) (u : Value), BindsTo s fd ⟨[u], []⟩ [(x, u)])
    (hsp : ∀ H : Hp, Only H → SqL K H a (ns.map V.int) → sp [.ref a] H (fun v _ => v = .bl true) fun _ _ _ => False)
    (hCX : ∀ H e s', CX [] H s₁ (fun _ _ _ => False) e s' → False) :
    codeAny (model P w) callerA (.call (.ref fa) ⟨[.ref a], []⟩) (fun r s' => r = .ok (.ret (.bool true)) ∧ OldK s₁.heap s'.heap ∧ s'.os = s₁.os ∧ AllBare s'.gens) s₁ := by
  have rv := vals_ints hi
  obtain ⟨H, hH⟩ : ∃ H, H = scH K a { cls := .type "list", data := .seq vs.toArray } (ns.map V.int) := ⟨_, rfl⟩
  have some_ : ∀ {b : Addr} {u : HO}, H b = some u → b = a ∧ K.lookup a = none ∧ u = .frz { cls := .type "list", data := .seq vs.toArray } (.lst (ns.map V.int)) := fun e => scH_some (hH ▸ e)
  have only : Only H := fun b => by
    cases q : H b with
    | none => exact .inl rfl
    | some u =>
      obtain ⟨_, _, rfl⟩ := some_ q
      exact .inr ⟨_, _, rfl⟩
  have hok : HOk P w H s₁.heap := fun b u e => by
    obtain ⟨rfl, _, rfl⟩ := some_ e
    exact ⟨ha, by rw [List.length_map]; exact hl, vs, _, rv, ha⟩
  have hS : SqL K H a (ns.map V.int) := by
    cases hk : K.lookup a with
    | some o =>
      have e := KX a o hk
      rw [ha] at e
      cases e
      exact .inr ⟨_, vs.toArray, _, hk, rfl, rfl, rfl, by rw [List.size_toArray, hi.length]; exact hl, by simpa using rv⟩
    | none =>
      refine .inl (.inr ⟨{ cls := .type "list", data := .seq vs.toArray }, ?_⟩)
      rw [hH]
      exact if_pos ⟨rfl, hk⟩
  have dictFree : ∀ {b : Addr} {o : Obj} {es : Array DictEntry} {ep : Nat}, s₁.heap.get? b = some o → o.data = .dict es ep → H b = none := fun {b o es ep} e d => by
    cases q : H b with
    | none => rfl
    | some u =>
      obtain ⟨rfl, _, _⟩ := some_ q
      rw [ha] at e
      cases e
      exact nomatch (show Data.seq vs.toArray _ = Data.dict es ep from d)
  have nsB : ∀ {b : Addr} {m : Str → Option Value}, s₁.heap.Ns b m → (hidT s₁.heap H).Ns b m := fun ⟨o, es, ep, e, d, r⟩ => ⟨o, es, ep, hidT_get e (dictFree e d), d, r⟩
  have inB : K.In (hidT s₁.heap H) := fun b o e => hidT_get (KX b o e) (by
    cases q : H b with
    | none => rfl
    | some u =>
      obtain ⟨rfl, n, _⟩ := some_ q
      rw [n] at e
      cases e)
  have mod : Mod K mg (hidT s₁.heap H) := ⟨inB, nsB hns, ⟨mb, nsB hb, hbb⟩, let ⟨mc, h1, h2⟩ := hlim; ⟨mc, nsB h1, h2⟩⟩
  have none_ : ∀ {b : Addr} {P : Prop}, b ∈ ([] : List Addr) → P := fun h => absurd h (by simp)
  have e0 : Env0 P w K mg (hidT s₁.heap H) callerA [] s₁ H := ⟨rfl, mod, fun b o e => of_hidT e, Nat.le_of_eq (hidT_size _ _), trivial, fun b h => none_ h, hok, .of_eq hg⟩
  refine codeAny_mono ((F _ inB (nsB hns)).run callerA [] s₁ H ⟨[.ref a], []⟩ [.ref a] [.ref a] _ _ rfl hr e0 (hbind s₁ (.ref a)) (.cons rfl .nil) (hsp H only hS)) fun r s' h => ?_
  match r, h with
  | .error e, h => exact (hCX H e s' h).elim
  | .ok (.ret u), ⟨v, H', os, bare, un, hok', r', q⟩ =>
    have q' : v = .bl true := q
    subst q'
    obtain rfl : u = Value.bool true := r'
    refine ⟨rfl, OldK.of_keep fun b o e => ?_, os, bare⟩
    cases q : H b with
    | none => exact un.keep b o e q (fun z => none_ z) (fun z => none_ z)
    | some u =>
      obtain ⟨rfl, _, rfl⟩ := some_ q
      have e1 := (hok b _ q).1
      have e2 := (hok' b _ (un.frzs b _ _ q)).1
      rw [e] at e1
      cases e1
      exact e2
/-- the goal behind k_head, from the promise of the law's def -/
theorem walk_g {l : PySem.W.OpenLaw} {n k : Nat} {q : Program} {loose : List Str} {XP : (Str → Option Value) → Heap → Prop} {YP : World → Heap → Prop} {d : DefRec} {K : Params → PySem.W.Frag} {CX : World → CXT} {sp : World → Sp} {x : Str}
    (hn : l.most = some n) (hn2 : n ≤ sizeLine) (hdf : d.params.defaults = []) (hr : Room k callerA)
    (hY : ∀ (w : World) (h : Heap), YP w h → (K w.params).In h)
    (F : ∀ (w : World) (mg : Str → Option Value) (fa : Addr) (h : Heap), (K w.params).In h → h.Ns mainGlobals mg → mg d.name = some (.ref fa) →
      ∃ fd : FuncData, (∀ (s : Shared) (u : Value), BindsTo s fd ⟨[u], []⟩ [(x, u)]) ∧
        ∀ base : Heap, (K w.params).In base → base.Ns mainGlobals mg → FnG l.prog w (K w.params) mg base (CX w) k fa fd [x] (sp w))
    (hsp : ∀ (w : World) (H : Hp) (a : Addr) (ns : List Int), ns.length ≤ n → Only H → SqL (K w.params) H a (ns.map V.int) → sp w [.ref a] H (fun v _ => v = .bl true) fun _ _ _ => False)
    (hCX : ∀ (w : World) (H : Hp) (s : Shared) (e : Value) (s' : Shared), CX w [] H s (fun _ _ _ => False) e s' → False) :
    PySem.W.WalkO q loose XP YP l.row.toRowW d [] (fun f vs => PySem.call f vs) :=
  Att.attach_call hn hdf fun w s₀ s₁ mg mb fa o pm cd doc a vs ns G Y ho hd hcd hmg hobj hints hlen hg =>
    let ⟨fd, hb, hF⟩ := F w mg fa _ (hY w _ Y) G.T.g hmg
    law_g (hY w _ Y) G.T.g G.T.b G.T.builtins G.T.nolimit hg hobj hints (Nat.le_trans hlen hn2) hr hF hb (fun H hO hS => hsp w H a ns hlen hO hS) fun H e s' => hCX w H s₁ e s'
end DL
namespace DL
open PySem PySem.Spec PyProof.Rows L2
variable [TabT]

/-! ### data as the model's own plain data -/
mutual
def D.py : D → Option PyData
  | .non => some .none
  | .bl b => some (.bool b)
  | .int i => some (.int i)
  | .str x => some (.str x)
  | .tup ds => (D.pys ds).map .tuple
  | .lst ds => (D.pys ds).map .list
  | .val _ => none
  | .dic _ => none
  | .dct _ => none
  | .ins _ _ => none
  | .exc _ _ => none
  | .scr _ => none
def D.pys : List D → Option (List PyData)
  | [] => some []
  | d :: ds => match D.py d, D.pys ds with
    | some p, some ps => some (p :: ps)
    | _, _ => none
end
section
variable {K : PySem.W.Frag} {G H : Hp}
mutual
theorem Is.dp (le : Same G H) : ∀ {v : V} {d : D} {p : PyData}, Is K G v d → d.py = some p → Dp K H v p
  | _, _, _, .non, e => by
    cases e
    exact .non
  | _, _, _, .bl b, e => by
    cases e
    exact .bl b
  | _, _, _, .int i, e => by
    cases e
    exact .int i
  | _, _, _, .str x, e => by
    cases e
    exact .str x
  | _, _, _, .val v, e => by cases e
  | _, .tup ds, p, .tup h t, e => by
    cases q : D.pys ds with
    | none => simp [D.py, q] at e
    | some ps =>
      simp [D.py, q] at e
      subst e
      exact .tup (seqT_mono le h) (IsL.dp le t q)
  | _, .lst ds, p, .lst h t, e => by
    cases q : D.pys ds with
    | none => simp [D.py, q] at e
    | some ps =>
      simp [D.py, q] at e
      subst e
      exact .lst (.inl (.inl (le _ _ h))) (IsL.dp le t q)
  | _, _, _, .dic _ _, e => by cases e
  | _, _, _, .dct _ _, e => by cases e
  | _, _, _, .ins _ _, e => by cases e
  | _, _, _, .exc _ _ _, e => by cases e
  | _, _, _, .scr _, e => by cases e
theorem IsL.dp (le : Same G H) : ∀ {vs : List V} {ds : List D} {ps : List PyData}, IsL K G vs ds → D.pys ds = some ps → DpAll K H vs ps
  | _, _, _, .nil, e => by
    cases e
    exact .nil
  | _, d :: ds, ps, .cons h t, e => by
    cases q : D.py d with
    | none => simp [D.pys, q] at e
    | some p =>
      cases q' : D.pys ds with
      | none => simp [D.pys, q, q'] at e
      | some ps' =>
        simp [D.pys, q, q'] at e
        subst e
        exact .cons (Is.dp le h q) (IsL.dp le t q')
end
end

/-! ### repr -/
def rRepr (K : PySem.W.Frag) : List V → Hp → VK → Prop := fun xs H Q => ∃ x p, xs = [x] ∧ Dp K H x p ∧ p.showable = true ∧ p.hasDict = false ∧ p.shown.length ≤ sizeLine ∧ p.depth ≤ 60 ∧ Q (.str p.shown) H
theorem call_repr {X : Cx} (gd : X.A.guards = some []) (hu : X.A.units + 64 < cLine) : CallR X (.builtin "repr") (rRepr X.K) := by
  intro pins s σ H xs us Q I r h
  obtain ⟨x, p, rfl, hd, hs, hnd, hz, hdep, q⟩ := h
  have sz : p.shown.length ≤ sizeLine := hz
  cases r with
  | cons r rr =>
    cases rr
    rename_i u
    have key : wpAny (model X.prog X.w) X.A (PySem.call (.builtin "repr") [u]) (EP X pins σ Q) X.xe s := by
      cases hd with
      | non =>
        cases r
        exact PySem.P.repr_of_none ⟨.str _, H, I.tok _, ⟨_, rfl⟩, by simpa [PyData.shown] using q⟩
      | bl b =>
        cases r
        exact PySem.P.repr_of_bool ⟨.str _, H, I.tok _, ⟨_, rfl⟩, by simpa [PyData.shown] using q⟩
      | int i =>
        obtain ⟨t, rfl⟩ := r
        exact PySem.P.repr_of_int (by simpa [PyData.showable] using hs) ⟨.str _, H, I.tok _, ⟨_, rfl⟩, by simpa [PyData.shown] using q⟩
      | str x =>
        obtain ⟨t, rfl⟩ := r
        exact PySem.P.repr_of_str ⟨.str _, H, I.tok _, ⟨_, rfl⟩, by simpa [PyData.shown] using q⟩ (by simpa [PyData.shown] using sz)
      | lst h1 h2 =>
        cases r
        obtain ⟨as, hr⟩ := Dp.reads I _ _ _ (Dp.lst h1 h2) rfl
        exact repr_of_reads' hr hs (PyData.noDict_hsm hnd) gd (by omega) (fun _ _ e => e) (fun h' w tk hk => ⟨.str _, H, I.kept (t' := tk) hk, ⟨_, rfl⟩, q⟩) sz
      | tup h1 h2 =>
        cases r
        obtain ⟨as, hr⟩ := Dp.reads I _ _ _ (Dp.tup h1 h2) rfl
        exact repr_of_reads' hr hs (PyData.noDict_hsm hnd) gd (by omega) (fun _ _ e => e) (fun h' w tk hk => ⟨.str _, H, I.kept (t' := tk) hk, ⟨_, rfl⟩, q⟩) sz
    exact key

/-! ### operators by data -/
section
variable {K : PySem.W.Frag} {P : D → Prop}
abbrev none_ : Addr → Prop := fun _ => False
theorem rd_I0 {f : Int → Int → Int} {i j : Int} (h : P (.int (f i j))) : RD K (rI0 fun i j => .int (f i j)) (.int i) (.int j) P := fun G H v u Q le a b q => by
  cases a
  cases b
  exact ⟨i, j, rfl, rfl, q _ _ G H (Ext.refl le) h (.int _)⟩
theorem rd_I {c : Int → Int → Prop} {f : Int → Int → Int} {i j : Int} (hc : c i j) (h : P (.int (f i j))) : RD K (rI c fun i j => .int (f i j)) (.int i) (.int j) P := fun G H v u Q le a b q => by
  cases a
  cases b
  exact ⟨i, j, rfl, rfl, hc, q _ _ G H (Ext.refl le) h (.int _)⟩
theorem rd_B0 {f : Int → Int → Bool} {i j : Int} (h : P (.bl (f i j))) : RD K (rI0 fun i j => .bl (f i j)) (.int i) (.int j) P := fun G H v u Q le a b q => by
  cases a
  cases b
  exact ⟨i, j, rfl, rfl, q _ _ G H (Ext.refl le) h (.bl _)⟩
theorem rd_eq {x y : D} {p r : PyData} {K' : PySem.W.Frag} (e1 : x.py = some p) (e2 : y.py = some r) (s1 : SeqAt.shaped p = true) (s2 : SeqAt.shaped r = true) (h : P (.bl (PyData.eqv p r))) (hK : K' = K := by rfl) : RD K (rEqD K') x y P := fun G H v u Q le a b q => by
  subst hK
  exact ⟨p, r, a.dp le e1, b.dp le e2, s1, s2, q _ _ G H (Ext.refl le) h (.bl _)⟩
theorem rd_ne {x y : D} {p r : PyData} {K' : PySem.W.Frag} (e1 : x.py = some p) (e2 : y.py = some r) (s1 : SeqAt.shaped p = true) (s2 : SeqAt.shaped r = true) (h : P (.bl (!PyData.eqv p r))) (hK : K' = K := by rfl) : RD K (rNeD K') x y P := fun G H v u Q le a b q => by
  subst hK
  exact ⟨p, r, a.dp le e1, b.dp le e2, s1, s2, q _ _ G H (Ext.refl le) h (.bl _)⟩
theorem rd_ixL {ds : List D} {i : Int} {d : D} {K' : PySem.W.Frag} (h : ∃ k : Nat, i = (k : Int) ∧ ds[k]? = some d) (p : P d) (hK : K' = K := by rfl) : RD K (rIxL K') (.lst ds) (.int i) P := fun G H v u Q le a b q => by
  subst hK
  obtain ⟨k, rfl, hk⟩ := h
  cases b
  cases a with
  | lst h1 h2 =>
    obtain ⟨w, e1, e2⟩ := h2.get hk
    exact ⟨_, _, _, w, rfl, rfl, .inl (.inl (le _ _ h1)), atI_nat e1, q w d G H (Ext.refl le) p e2⟩
theorem rd_ixT {ds : List D} {i : Int} {d : D} {K' : PySem.W.Frag} (h : ∃ k : Nat, i = (k : Int) ∧ ds[k]? = some d) (p : P d) (hK : K' = K := by rfl) : RD K (rIxT K') (.tup ds) (.int i) P := fun G H v u Q le a b q => by
  subst hK
  obtain ⟨k, rfl, hk⟩ := h
  cases b
  cases a with
  | tup h1 h2 =>
    obtain ⟨w, e1, e2⟩ := h2.get hk
    exact ⟨_, _, _, w, rfl, rfl, seqT_mono le h1, atI_nat e1, q w d G H (Ext.refl le) p e2⟩
/-- a tuple and a tuple -/
theorem rd_catT {xs ys : List D} {K' : PySem.W.Frag} (hl : xs.length + ys.length ≤ 100000) (p : P (.tup (xs ++ ys))) (hK : K' = K := by rfl) : RD K (rCatA K') (.tup xs) (.tup ys) P := fun G H v u Q le a b q => by
  subst hK
  cases a with
  | tup a1 a2 =>
    cases b with
    | tup b1 b2 =>
      refine ⟨_, _, _, _, rfl, rfl, seqT_mono le a1, seqT_mono le b1, ?_, fun e => ?_, fun e1 e2 => ?_, fun e1 e2 c hc => ?_⟩
      · rw [a2.length, b2.length]
        exact Nat.le_trans hl (by decide)
      · subst e
        cases a2
        exact q _ _ G H (Ext.refl le) p (.tup b1 b2)
      · subst e2
        cases b2
        rw [List.append_nil] at p
        exact q _ _ G H (Ext.refl le) p (.tup a1 a2)
      · exact q _ _ _ _ (Ext.new le hc (.tup _)) p (.tup (.inl (.inl upd_same)) ((a2.mono (Ext.new (F := fun _ => False) le hc _).gg).append (b2.mono (Ext.new (F := fun _ => False) le hc _).gg)))
theorem rd_cat {xs ys : List D} (hl : xs.length + ys.length ≤ 100000) (p : P (.lst (xs ++ ys))) : RD K rCat (.lst xs) (.lst ys) P := fun G H v u Q le a b q => by
  cases a with
  | lst a1 a2 =>
    cases b with
    | lst b1 b2 =>
      refine ⟨_, _, _, _, rfl, rfl, le _ _ a1, le _ _ b1, ?_, fun c hc => ?_⟩
      · rw [a2.length, b2.length]
        exact Nat.le_trans hl (by decide)
      · exact q _ _ _ _ (Ext.new le hc (.lst _)) p (.lst upd_same ((a2.mono (Ext.new (F := fun _ => False) le hc _).gg).append (b2.mono (Ext.new (F := fun _ => False) le hc _).gg)))
end

/-! ### calls by data -/
section
variable {K : PySem.W.Frag} {P : D → Prop} {r : List V → Hp → VK → Prop}
theorem IsL.one {G : Hp} {vs : List V} {d : D} (h : IsL K G vs [d]) : ∃ v, vs = [v] ∧ Is K G v d := by
  cases h with
  | cons h t =>
    cases t
    exact ⟨_, rfl, h⟩
theorem IsL.two {G : Hp} {vs : List V} {d e : D} (h : IsL K G vs [d, e]) : ∃ v u, vs = [v, u] ∧ Is K G v d ∧ Is K G u e := by
  cases h with
  | cons h t =>
    obtain ⟨u, rfl, k⟩ := t.one
    exact ⟨_, u, rfl, h, k⟩
theorem Is.int_inv {G : Hp} {v : V} {i : Int} (h : Is K G v (.int i)) : v = .int i := by
  cases h
  rfl
theorem Is.bl_inv {G : Hp} {v : V} {b : Bool} (h : Is K G v (.bl b)) : v = .bl b := by
  cases h
  rfl
theorem rc_int {i : Int} (p : P (.int i)) : RC1 K (fun xs H Q => (∃ i, xs = [.int i] ∧ Q (.int i) H) ∨ ∃ k, xs = [.bl k] ∧ Q (.int (if k then 1 else 0)) H) [.int i] P := fun G H vs Q le a q => by
  obtain ⟨v, rfl, k⟩ := a.one
  cases k
  exact .inl ⟨i, rfl, q _ _ G H (Ext.refl le) p (.int _)⟩
theorem rc_intB {b : Bool} (p : P (.int (if b then 1 else 0))) : RC1 K (fun xs H Q => (∃ i, xs = [.int i] ∧ Q (.int i) H) ∨ ∃ k, xs = [.bl k] ∧ Q (.int (if k then 1 else 0)) H) [.bl b] P := fun G H vs Q le a q => by
  obtain ⟨v, rfl, k⟩ := a.one
  cases k
  exact .inr ⟨b, rfl, q _ _ G H (Ext.refl le) p (.int _)⟩
theorem rc_abs {i : Int} (p : P (.int (if i < 0 then -i else i))) : RC1 K (fun xs H Q => ∃ i, xs = [.int i] ∧ Q (.int (if i < 0 then -i else i)) H) [.int i] P := fun G H vs Q le a q => by
  obtain ⟨v, rfl, k⟩ := a.one
  cases k
  exact ⟨i, rfl, q _ _ G H (Ext.refl le) p (.int _)⟩
theorem rc_max2 {i j : Int} (p : P (.int (if j > i then j else i))) : RC1 K (fun xs H Q => ∃ i j, xs = [.int i, .int j] ∧ Q (.int (if j > i then j else i)) H) [.int i, .int j] P := fun G H vs Q le a q => by
  obtain ⟨v, u, rfl, k, l⟩ := a.two
  cases k
  cases l
  exact ⟨i, j, rfl, q _ _ G H (Ext.refl le) p (.int _)⟩
theorem rc_min2 {i j : Int} (p : P (.int (if j < i then j else i))) : RC1 K (fun xs H Q => ∃ i j, xs = [.int i, .int j] ∧ Q (.int (if j < i then j else i)) H) [.int i, .int j] P := fun G H vs Q le a q => by
  obtain ⟨v, u, rfl, k, l⟩ := a.two
  cases k
  cases l
  exact ⟨i, j, rfl, q _ _ G H (Ext.refl le) p (.int _)⟩
theorem rc_lenL {ds : List D} {K' : PySem.W.Frag} (p : P (.int ds.length)) (hK : K' = K := by rfl) : RC1 K (fun xs H Q => ∃ p ys, xs = [.ref p] ∧ (SqL K' H p ys ∨ SqT K' H p ys) ∧ Q (.int ys.length) H) [.lst ds] P := fun G H vs Q le a q => by
  subst hK
  obtain ⟨v, rfl, k⟩ := a.one
  cases k with
  | lst h1 h2 => exact ⟨_, _, rfl, .inl (.inl (.inl (le _ _ h1))), by rw [h2.length]; exact q _ _ G H (Ext.refl le) p (.int _)⟩
theorem rc_lenT {ds : List D} {K' : PySem.W.Frag} (p : P (.int ds.length)) (hK : K' = K := by rfl) : RC1 K (fun xs H Q => ∃ p ys, xs = [.ref p] ∧ (SqL K' H p ys ∨ SqT K' H p ys) ∧ Q (.int ys.length) H) [.tup ds] P := fun G H vs Q le a q => by
  subst hK
  obtain ⟨v, rfl, k⟩ := a.one
  cases k with
  | tup h1 h2 => exact ⟨_, _, rfl, .inr (seqT_mono le h1), by rw [h2.length]; exact q _ _ G H (Ext.refl le) p (.int _)⟩
theorem rc_gcd {i j : Int} (p : P (.int ((Nat.gcd i.natAbs j.natAbs : Nat) : Int))) : RC1 K rGcd [.int i, .int j] P := fun G H vs Q le a q => by
  obtain ⟨v, u, rfl, k, l⟩ := a.two
  cases k
  cases l
  exact ⟨i, j, rfl, q _ _ G H (Ext.refl le) p (.int _)⟩
theorem rc_repr {x : D} {p : PyData} {K' : PySem.W.Frag} (e : x.py = some p) (s : p.showable = true) (nd : p.hasDict = false) (hz : p.shown.length ≤ sizeLine) (hd : p.depth ≤ 60) (h : P (.str p.shown)) (hK : K' = K := by rfl) : RC1 K (rRepr K') [x] P := fun G H vs Q le a q => by
  subst hK
  obtain ⟨v, rfl, k⟩ := a.one
  exact ⟨v, p, rfl, k.dp le e, s, nd, hz, hd, q _ _ G H (Ext.refl le) h (.str _)⟩
/-- tuple(list), tuple(tuple) -/
theorem rc_tupL {ds : List D} {K' : PySem.W.Frag} (p : P (.tup ds)) (hK : K' = K := by rfl) : RC1 K (fun xs H Q => ∃ p ys, xs = [.ref p] ∧ ((SqL K' H p ys ∧ ∀ l, H l = none → Q (.ref l) (upd H l (.tup ys))) ∨ (SqT K' H p ys ∧ Q (.ref p) H))) [.lst ds] P := fun G H vs Q le a q => by
  subst hK
  obtain ⟨v, rfl, k⟩ := a.one
  cases k with
  | lst h1 h2 =>
    refine ⟨_, _, rfl, .inl ⟨.inl (.inl (le _ _ h1)), fun l hl => ?_⟩⟩
    exact q _ _ _ _ (Ext.new le hl (.tup _)) p (.tup (.inl (.inl upd_same)) (h2.mono (Ext.new (F := fun _ => False) le hl _).gg))
theorem rc_tupT {ds : List D} {K' : PySem.W.Frag} (p : P (.tup ds)) (hK : K' = K := by rfl) : RC1 K (fun xs H Q => ∃ p ys, xs = [.ref p] ∧ ((SqL K' H p ys ∧ ∀ l, H l = none → Q (.ref l) (upd H l (.tup ys))) ∨ (SqT K' H p ys ∧ Q (.ref p) H))) [.tup ds] P := fun G H vs Q le a q => by
  subst hK
  obtain ⟨v, rfl, k⟩ := a.one
  cases k with
  | tup h1 h2 => exact ⟨_, _, rfl, .inr ⟨seqT_mono le h1, q _ _ G H (Ext.refl le) p (.tup h1 h2)⟩⟩
theorem IsL.bls : ∀ {vs : List V} {bs : List Bool} {G : Hp}, IsL K G vs (bs.map .bl) → vs = bs.map V.bl
  | _, [], _, h => by
    cases h
    rfl
  | _, b :: bs, G, h => by
    cases h with
    | cons h t =>
      cases h
      rw [IsL.bls t]
      rfl
theorem rc_all {bs : List Bool} {K' : PySem.W.Frag} (p : P (.bl (bs.all id))) (hK : K' = K := by rfl) : RC1 K (rAll K') [.lst (bs.map .bl)] P := fun G H vs Q le a q => by
  subst hK
  obtain ⟨v, rfl, k⟩ := a.one
  cases k with
  | lst h1 h2 =>
    have e := h2.bls
    subst e
    exact ⟨_, bs, rfl, .inl (.inl (le _ _ h1)), q _ _ G H (Ext.refl le) p (.bl _)⟩
theorem rc_any {bs : List Bool} {K' : PySem.W.Frag} (p : P (.bl (bs.any id))) (hK : K' = K := by rfl) : RC1 K (rAny K') [.lst (bs.map .bl)] P := fun G H vs Q le a q => by
  subst hK
  obtain ⟨v, rfl, k⟩ := a.one
  cases k with
  | lst h1 h2 =>
    have e := h2.bls
    subst e
    exact ⟨_, bs, rfl, .inl (.inl (le _ _ h1)), q _ _ G H (Ext.refl le) p (.bl _)⟩
end
section
variable {C : Fx} {ρ : List Slot} {ta : TA}
/-- list(..) makes a new list -/
theorem en_list {K' : PySem.W.Frag} {P : List D → List Slot → Prop} (h : EvA C ta ρ fun ds ρ1 => ∃ xs, (ds = [.lst xs] ∨ ds = [.tup xs]) ∧ P xs ρ1) (hK : K' = C.K := by rfl) : EvN C (tCB (fun xs H Q => ∃ p ys, xs = [.ref p] ∧ (SqL K' H p ys ∨ SqT K' H p ys) ∧ ∀ l, H l = none → Q (.ref l) (upd H l (.lst ys))) ta) ρ P := fun σ G H Q S q => by
  subst hK
  refine h σ G H _ S fun vs ds G1 H1 ρ1 s1 p1 k1 => ?_
  obtain ⟨xs, e, p1⟩ := p1
  have go : ∀ {ys : List V}, IsL C.K G1 ys xs → ∀ l, H1 l = none → Q (.ref l) (upd H1 l (.lst ys)) := fun {ys} k l hl => by
    have n0 : H l = none := by
      cases z : H l with
      | none => rfl
      | some o =>
        obtain ⟨u, e⟩ := s1.ext.th l o z
        rw [hl] at e
        cases e
    exact q l ys xs G1 _ ρ1 (s1.trans (s1.st.keep (Ext.newM s1.st.le hl (.lst ys)))) p1 n0 (s1.st.le.free hl) upd_same k
  rcases e with rfl | rfl
  · obtain ⟨v, rfl, k⟩ := k1.one
    cases k with
    | lst h1 h2 => exact ⟨_, _, rfl, .inl (.inl (.inl (s1.st.le _ _ h1))), go h2⟩
  · obtain ⟨v, rfl, k⟩ := k1.one
    cases k with
    | tup h1 h2 => exact ⟨_, _, rfl, .inr (seqT_mono s1.st.le h1), go h2⟩
/-! ### slices -/
theorem eo_none {P : Option Int → List Slot → Prop} (h : P none ρ) : EvO C tNoPart ρ P := fun σ G H Q S q => q none G H ρ (Stp.refl S) h
theorem eo_some {te : TE} {P : Option Int → List Slot → Prop} (h : Ev C te ρ fun d ρ1 => ∃ i, d = .int i ∧ P (some i) ρ1) : EvO C (tPart te) ρ P := fun σ G H Q S q => by
  refine h σ G H _ S fun v d G1 H1 ρ1 s1 p1 k1 => ?_
  obtain ⟨i, rfl, p1⟩ := p1
  cases k1
  exact ⟨i, rfl, q _ G1 H1 ρ1 s1 p1⟩
end
end DL
namespace DL
open PySem PySem.Spec PyProof.Rows L2
variable [TabT]

/-! ### one rule a sign -/
section
variable {X : Cx}
abbrev rStrAdd : R2 := fun x y H Q => ∃ i j, x = .str i ∧ y = .str j ∧ i.length + j.length ≤ sizeLine ∧ Q (.str (i ++ j)) H
abbrev rPlus (K : PySem.W.Frag) : R2 := fun x y H Q => (rI0 fun i j => .int (i + j)) x y H Q ∨ (rCat x y H Q ∨ (rCatA K x y H Q ∨ rStrAdd x y H Q))
theorem op_plus : OpR X (binaryOp .Add) (rPlus X.K) := OpR.or op_add (OpR.or op_cat (OpR.or op_catA op_add_str))
abbrev CDivG (i j : Int) : Prop := j ≠ 0 ∧ j.natAbs.log2 < 9000
theorem op_fdivG : OpR X (binaryOp .FloorDiv) (rI CDivG fun i j => .int (i.fdiv j)) := opI fun i j _ _ _ _ _ hc q => floordiv_int hc.1 q (.inl (PyProof.noPylong_of_log2 hc.2))
abbrev rTimes (K : PySem.W.Frag) : R2 := fun x y H Q => (rI CMulW fun i j => .int (i * j)) x y H Q ∨ (rRep x y H Q ∨ rRepT K x y H Q)
theorem op_times : OpR X (binaryOp .Mult) (rTimes X.K) := OpR.or op_mulW (OpR.or op_rep op_repT)
abbrev CPowG (i j : Int) : Prop := 0 ≤ j ∧ (Builtin.Int.intBits i : Int) * j ≤ 2 ^ 27
theorem op_powG : OpR X (binaryOp .Pow) (rI CPowG fun i j => .int (i ^ j.toNat)) := opI fun i j _ _ _ _ _ hc q => pow_int hc.1 hc.2 q
abbrev rCut (K : PySem.W.Frag) : V → Option Int → Option Int → Hp → VK → Prop := fun x lo hi H Q => rSlL K x lo hi H Q ∨ (rSlA K x lo hi H Q ∨ rSlS x lo hi H Q)
theorem sl_cut : SlR X (rCut X.K) := SlR.or sl_list (SlR.or sl_tupA sl_str)
end

section
variable {K : PySem.W.Frag} {P : D → Prop}
theorem rd_or1 {r r' : R2} {x y : D} (h : RD K r x y P) : RD K (fun x y H Q => r x y H Q ∨ r' x y H Q) x y P := fun G H v u Q le a b q => .inl (h G H v u Q le a b q)
theorem rd_or2 {r r' : R2} {x y : D} (h : RD K r' x y P) : RD K (fun x y H Q => r x y H Q ∨ r' x y H Q) x y P := fun G H v u Q le a b q => .inr (h G H v u Q le a b q)
theorem rd_strAdd {x y : Str} (hl : x.length + y.length ≤ 100000) (p : P (.str (x ++ y))) : RD K rStrAdd (.str x) (.str y) P := fun G H v u Q le a b q => by
  cases a
  cases b
  exact ⟨x, y, rfl, rfl, Nat.le_trans hl (by decide), q _ _ G H (Ext.refl le) p (.str _)⟩
theorem plus_int {i j : Int} (p : P (.int (i + j))) : RD K (rPlus K) (.int i) (.int j) P := rd_or1 (rd_I0 (f := fun i j => i + j) p)
theorem plus_lst {xs ys : List D} (hl : xs.length + ys.length ≤ 100000) (p : P (.lst (xs ++ ys))) : RD K (rPlus K) (.lst xs) (.lst ys) P := rd_or2 (rd_or1 (rd_cat hl p))
theorem plus_tup {xs ys : List D} (hl : xs.length + ys.length ≤ 100000) (p : P (.tup (xs ++ ys))) : RD K (rPlus K) (.tup xs) (.tup ys) P := rd_or2 (rd_or2 (rd_or1 (rd_catT hl p)))
theorem plus_str {x y : Str} (hl : x.length + y.length ≤ 100000) (p : P (.str (x ++ y))) : RD K (rPlus K) (.str x) (.str y) P := rd_or2 (rd_or2 (rd_or2 (rd_strAdd hl p)))
theorem times_int {i j : Int} (hc : CMulW i j) (p : P (.int (i * j))) : RD K (rTimes K) (.int i) (.int j) P := rd_or1 (rd_I hc p)
/-- (x, ..) * n, n two or more -/
theorem rd_repT {xs : List D} {n : Int} (h0 : xs ≠ []) (h1 : 2 ≤ n) (h2 : n ≤ 1000) (h3 : xs.length ≤ 1000) (p : P (.tup (List.replicate n.toNat xs).flatten)) : RD K (rRepT K) (.tup xs) (.int n) P := fun G H v u Q le a b q => by
  cases b
  cases a with
  | @tup c0 ws _ a1 a2 =>
    refine ⟨_, n, ws, rfl, rfl, seqT_mono le a1, fun e => h0 ?_, h1, h2, by rw [a2.length]; exact h3, fun c hc => ?_⟩
    · subst e
      cases a2
      rfl
    · have ex := Ext.new (F := fun _ => False) le hc (.tup (List.replicate n.toNat ws).flatten)
      have k := a2.mono ex.gg
      refine q _ _ _ _ ex p (.tup (.inl (.inl upd_same)) ?_)
      generalize upd G c (.tup (List.replicate n.toNat ws).flatten) = G' at k
      induction n.toNat with
      | zero => exact .nil
      | succ m ih =>
        rw [List.replicate_succ, List.replicate_succ, List.flatten_cons, List.flatten_cons]
        exact k.append ih
theorem times_tup {xs : List D} {n : Int} (h0 : xs ≠ []) (h1 : 2 ≤ n) (h2 : n ≤ 1000) (h3 : xs.length ≤ 1000) (p : P (.tup (List.replicate n.toNat xs).flatten)) : RD K (rTimes K) (.tup xs) (.int n) P := rd_or2 (rd_or2 (rd_repT h0 h1 h2 h3 p))
theorem ix_lst {ds : List D} {i : Int} {d : D} (h : ∃ k : Nat, i = (k : Int) ∧ ds[k]? = some d) (p : P d) : RD K (rIx K) (.lst ds) (.int i) P := fun G H v u Q le a b q => .inl (rd_ixL h p rfl G H v u Q le a b q)
theorem ix_tupl {ds : List D} {i : Int} {d : D} (h : ∃ k : Nat, i = (k : Int) ∧ ds[k]? = some d) (p : P d) : RD K (rIx K) (.tup ds) (.int i) P := fun G H v u Q le a b q => .inr (.inl (rd_ixT h p rfl G H v u Q le a b q))
def cutD (ds : List D) (lo hi : Option Int) : List D := (ds.drop (HT.sIx ds.length 0 lo)).take (HT.sIx ds.length ds.length hi - HT.sIx ds.length 0 lo)
theorem IsL.cut {G : Hp} {vs : List V} {ds : List D} (h : IsL K G vs ds) (lo hi : Option Int) : IsL K G (cutV vs lo hi) (cutD ds lo hi) := by
  unfold cutV cutD
  rw [h.length]
  exact (h.drop _).take _
end
section
variable {C : Fx} {ρ : List Slot} {P : PD} {te : TE} {tl th : TO} {K' : PySem.W.Frag}
/-- x[lo:hi] -/
theorem ev_cut (h : Ev C te ρ fun x ρ1 => EvO C tl ρ1 fun l ρ2 => EvO C th ρ2 fun u ρ3 => (∃ ds, x = .lst ds ∧ P (.lst (cutD ds l u)) ρ3) ∨ (∃ ds, x = .tup ds ∧ P (.tup (cutD ds l u)) ρ3) ∨ ∃ z, x = .str z ∧ z.length ≤ 100000 ∧ P (.str (cutS z l u)) ρ3) (hK : K' = C.K := by rfl) : Ev C (tSl (rCut K') te tl th) ρ P := fun σ G H Q S q => by
  subst hK
  refine h σ G H _ S fun v x G1 H1 ρ1 s1 h1 i1 => h1 σ G1 H1 _ s1.st fun l G2 H2 ρ2 s2 h2 => h2 σ G2 H2 _ s2.st fun u G3 H3 ρ3 s3 h3 => ?_
  have i3 := (i1.mono s2.ext.gg).mono s3.ext.gg
  have s := (s1.trans s2).trans s3
  rcases h3 with ⟨ds, rfl, p⟩ | ⟨ds, rfl, p⟩ | ⟨z, rfl, hz, p⟩
  · cases i3 with
    | @lst _ ws _ k1 k2 =>
      refine .inl ⟨_, _, rfl, .inl (.inl (s3.st.le _ _ k1)), fun c hc => ?_⟩
      have ex := Ext.new (F := fun _ => False) s3.st.le hc (.lst (cutV ws l u))
      exact q _ _ _ _ ρ3 (s.trans (s3.st.keep ex)) p (.lst upd_same ((k2.mono ex.gg).cut l u))
  · cases i3 with
    | @tup _ ws _ k1 k2 =>
      refine .inr (.inl ⟨_, _, rfl, seqT_mono s3.st.le k1, fun e => ?_, fun e c hc => ?_⟩)
      · have e2 : cutD ds l u = ds := by
          unfold cutD
          rw [k2.length] at e
          rw [e.1, e.2]
          simp
        rw [e2] at p
        exact q _ _ G3 H3 ρ3 s p (.tup k1 k2)
      · have ex := Ext.new (F := fun _ => False) s3.st.le hc (.tup (cutV ws l u))
        exact q _ _ _ _ ρ3 (s.trans (s3.st.keep ex)) p (.tup (.inl (.inl upd_same)) ((k2.mono ex.gg).cut l u))
  · cases i3
    exact .inr (.inr ⟨z, rfl, Nat.le_trans hz (by decide), q _ _ G3 H3 ρ3 s p (.str _)⟩)
end

/-! ### isinstance -/
section
variable {K : PySem.W.Frag} {P : D → Prop}
def tyD : D → Option String
  | .non => some "NoneType"
  | .bl _ => some "bool"
  | .int _ => some "int"
  | .str _ => some "str"
  | .tup _ => some "tuple"
  | .lst _ => some "list"
  | .dic _ => some "dict"
  | _ => none
theorem SqT.ty {H : Hp} {a : Addr} {xs : List V} (h : SqT K H a xs) : TyX K H (.ref a) (.type "tuple") := by
  rcases h with (h | ⟨o, h⟩) | ⟨o, its, n, h1, h2, _⟩
  · exact .base (.tup h)
  · exact .fTuple h
  · exact .kTuple h1 h2
theorem Is.ty {G H : Hp} (le : Same G H) {v : V} {d : D} {n : String} (h : Is K G v d) (e : tyD d = some n) : TyX K H v (.type n) := by
  cases h with
  | non =>
    cases e
    exact .base .non
  | bl b =>
    cases e
    exact .base (.bl b)
  | int i =>
    cases e
    exact .base (.int i)
  | str x =>
    cases e
    exact .base (.str x)
  | val v => cases e
  | tup h1 h2 =>
    cases e
    exact SqT.ty (seqT_mono le h1)
  | lst h1 h2 =>
    cases e
    exact .base (.lst (le _ _ h1))
  | dic h1 h2 =>
    cases e
    exact .base (.dK (le _ _ h1))
  | dct _ _ => cases e
  | ins _ _ => cases e
  | exc _ _ _ => cases e
  | scr _ => cases e
/-- isinstance(x, a built-in class) -/
theorem rc_isi {x : D} {n m : String} {b : Bool} {K' : PySem.W.Frag} (e : tyD x = some n) (k : kitB n m = some b) (h : P (.bl b)) (hK : K' = K := by rfl) : RC1 K (rIsi K') [x, .val (.ty m)] P := fun G H vs Q le a q => by
  subst hK
  obtain ⟨v, u, rfl, k1, k2⟩ := a.two
  cases k2
  exact ⟨v, .ty m, _, _, b, rfl, .ty m, k1.ty le e, kit_ty k, q _ _ G H (Ext.refl le) h (.bl _)⟩
end

/-! ### calls by short words -/
/-- the module's name x is a def with this promise -/
def Cal (P : Program) (w : World) (K : PySem.W.Frag) (mg : Str → Option Value) (base : Heap) (CX : CXT) (k : Nat) (x : Str) (ps : List Str) (dvs : List V) (sp : Sp) : Prop :=
  ∃ f fd ds, FnG P w K mg base CX k f fd ps sp ∧ mg x = some (.ref f) ∧ PySem.W.keepIn K (.ref f) = true ∧ Binds K fd ps ds ∧ Vals dvs ds
section
variable {X : Cx} {CX : CXT} {k : Nat} {ps : List Str} {sp : Sp} {dvs : List V} {E : XK} {x : Str} {p pos : Pos} {e : Expr} {es : List Expr} {t : TA}
theorem pe_cal (h : Cal X.prog X.w X.K X.mg X.base CX k x ps dvs sp) (gd : X.A.guards = some []) (hr : Room k X.A) (hx : Passes CX X E) (ha : PA X (e :: es) t) (hg : Gl X x := by rfl) (hdb : (x == ("__debug__" : Str)) = false := by decide) (he : starEach (e :: es) X.env = (false, eval e X.env) :: starEach es X.env := by rfl) (hpl : (backTo pos (starEach es X.env)).any (·.1) = false := by rfl) :
    PE X (.Call (.Name x p) (e :: es) [] pos) (tCall sp dvs E t) := by
  obtain ⟨f, fd, ds, F, hm, hk, hb, hd⟩ := h
  exact pe_g gd F hr hg hm hk hb hd hx ha hdb he hpl
theorem pe_cal0 (h : Cal X.prog X.w X.K X.mg X.base CX k x ps dvs sp) (gd : X.A.guards = some []) (hr : Room k X.A) (hx : Passes CX X E) (hg : Gl X x := by rfl) (hdb : (x == ("__debug__" : Str)) = false := by decide) : PE X (.Call (.Name x p) [] [] pos) (tCall sp dvs E tNil) := by
  obtain ⟨f, fd, ds, F, hm, hk, hb, hd⟩ := h
  exact pe_g0 gd F hr hg hm hk hb hd hx hdb
end
end DL
namespace DL
open PySem PySem.Spec PyProof.Rows L2
variable [TabT]

/-- no name of a built-in is bound by the text -/
structure Bt (mg : Str → Option Value) : Prop where
  b_len : mg "len" = none
  b_abs : mg "abs" = none
  b_max : mg "max" = none
  b_min : mg "min" = none
  b_all : mg "all" = none
  b_any : mg "any" = none
  b_isinstance : mg "isinstance" = none
  b_repr : mg "repr" = none
  b_int : mg "int" = none
  b_bool : mg "bool" = none
  b_str : mg "str" = none
  b_tuple : mg "tuple" = none
  b_list : mg "list" = none
  b_dict : mg "dict" = none
  b_range : mg "range" = none
  b_zip : mg "zip" = none
  b_enumerate : mg "enumerate" = none
  b_set : mg "set" = none
  b_sorted : mg "sorted" = none
  b_sum : mg "sum" = none
theorem bt_len : bootBuiltins "len" = some (.builtin "len") := by decide +kernel
theorem bt_abs : bootBuiltins "abs" = some (.builtin "abs") := by decide +kernel
theorem bt_max : bootBuiltins "max" = some (.builtin "max") := by decide +kernel
theorem bt_min : bootBuiltins "min" = some (.builtin "min") := by decide +kernel
theorem bt_all : bootBuiltins "all" = some (.builtin "all") := by decide +kernel
theorem bt_any : bootBuiltins "any" = some (.builtin "any") := by decide +kernel
theorem bt_isinstance : bootBuiltins "isinstance" = some (.builtin "isinstance") := by decide +kernel
theorem bt_repr : bootBuiltins "repr" = some (.builtin "repr") := by decide +kernel
theorem bt_int : bootBuiltins "int" = some (.type "int") := by decide +kernel
theorem bt_bool : bootBuiltins "bool" = some (.type "bool") := by decide +kernel
theorem bt_str : bootBuiltins "str" = some (.type "str") := by decide +kernel
theorem bt_tuple : bootBuiltins "tuple" = some (.type "tuple") := by decide +kernel
theorem bt_list : bootBuiltins "list" = some (.type "list") := by decide +kernel
theorem bt_dict : bootBuiltins "dict" = some (.type "dict") := by decide +kernel

section
variable {K : PySem.W.Frag} {P : D → Prop}
theorem ru_neg {i : Int} (p : P (.int (-i))) : RU1 K (rU fun i => .int (-i)) (.int i) P := fun G H v Q le a q => by
  cases a
  exact ⟨i, rfl, q _ _ G H (Ext.refl le) p (.int _)⟩
theorem rd_isN {x : D} {b : Bool} (h : ∀ (G : Hp) (v : V), Is K G v x → decide (v = .non) = b) (p : P (.bl b)) : RD K (fun x y H Q => y = .non ∧ Q (.bl (decide (x = .non))) H) x .non P := fun G H v u Q le a c q => by
  cases c
  refine ⟨rfl, ?_⟩
  rw [h G v a]
  exact q _ _ G H (Ext.refl le) p (.bl _)
theorem rd_notN {x : D} {b : Bool} (h : ∀ (G : Hp) (v : V), Is K G v x → decide (v = .non) = b) (p : P (.bl (!b))) : RD K (fun x y H Q => y = .non ∧ Q (.bl (!decide (x = .non))) H) x .non P := fun G H v u Q le a c q => by
  cases c
  refine ⟨rfl, ?_⟩
  rw [h G v a]
  exact q _ _ G H (Ext.refl le) p (.bl _)
theorem isN_non {G : Hp} {v : V} (h : Is K G v .non) : decide (v = .non) = true := by
  cases h
  rfl
theorem isN_tup {G : Hp} {v : V} {ds : List D} (h : Is K G v (.tup ds)) : decide (v = .non) = false := by
  cases h
  rfl
theorem isN_lst {G : Hp} {v : V} {ds : List D} (h : Is K G v (.lst ds)) : decide (v = .non) = false := by
  cases h
  rfl
/-- len of a text, a list, a tuple -/
abbrev rLenA (K : PySem.W.Frag) : List V → Hp → VK → Prop := fun xs H Q => (∃ p ys, xs = [.ref p] ∧ (SqL K H p ys ∨ SqT K H p ys) ∧ Q (.int ys.length) H) ∨ (∃ z, xs = [.str z] ∧ z.length ≤ sizeLine ∧ Q (.int z.length) H)
theorem len_lst {ds : List D} (p : P (.int ds.length)) : RC1 K (rLenA K) [.lst ds] P := fun G H vs Q le a q => .inl (rc_lenL p rfl G H vs Q le a q)
theorem len_tup {ds : List D} (p : P (.int ds.length)) : RC1 K (rLenA K) [.tup ds] P := fun G H vs Q le a q => .inl (rc_lenT p rfl G H vs Q le a q)
theorem len_str {z : Str} (hz : z.length ≤ 100000) (p : P (.int z.length)) : RC1 K (rLenA K) [.str z] P := fun G H vs Q le a q => by
  obtain ⟨v, rfl, k⟩ := a.one
  cases k
  exact .inr ⟨z, rfl, Nat.le_trans hz (by decide), q _ _ G H (Ext.refl le) p (.int _)⟩
end
section
variable {C : Fx} {ρ : List Slot} {ta : TA} {te : TE}
/-- list(range(n)) -/
theorem en_listRg {P : List D → List Slot → Prop} (h : Ev C te ρ fun d ρ1 => ∃ n : Nat, d = .int (n : Int) ∧ n ≤ 100000 ∧ P (intsD 0 n) ρ1) : EvN C (tLstRg (tRg1 te)) ρ P := fun σ G H Q S q => by
  refine h σ G H _ S fun v d G1 H1 ρ1 s1 p1 k1 => ?_
  obtain ⟨n, rfl, hn, p1⟩ := p1
  cases k1
  refine ⟨n, rfl, ⟨by omega, by omega, by omega, by omega, by omega⟩, fun l hl => ?_⟩
  have n0 : H l = none := by
    cases z : H l with
    | none => rfl
    | some o =>
      obtain ⟨u, e⟩ := s1.ext.th l o z
      rw [hl] at e
      cases e
  refine q l (rgV 0 n) (intsD 0 n) G1 _ ρ1 (s1.trans (s1.st.keep (Ext.newM s1.st.le hl _))) p1 n0 (s1.st.le.free hl) upd_same ?_
  have key : ∀ (m : List Nat), IsL C.K G1 (m.map fun (i : Nat) => V.int (0 + (i : Int))) (m.map fun (k : Nat) => D.int (0 + (k : Int))) := fun m => by
    induction m with
    | nil => exact .nil
    | cons x m ih => exact .cons (.int _) ih
  have := key (List.range n)
  unfold rgV intsD
  rw [show ((n : Int) - 0).toNat = n by omega]
  exact this
end

/-- a def of the text, with its defaults -/
theorem okGD {P : Program} {w : World} {K : PySem.W.Frag} {mg : Str → Option Value} {base : Heap} {CX : CXT} {x qual : Str} {st : Stmt} {dvs : List V} {f : Addr} {fd : FuncData} {N ps : List Str} {k : Nat} {sp : Sp} (F : FunD K x qual (defArgs st) (defBody st) (defScope st) dvs [] f fd) (S : FnScope N ps (defScope st)) (len : ∀ vs H Q E, sp vs H Q E → vs.length = ps.length)
    (hb : ∀ (cdv : Value) (A : Around) (outer : List Env) (s : Shared) (H : Hp) (vs : List V) (Q : VK) (E : XK), A.guards = some [] → Room k (A.deeper (envOfC qual (defScope st) s.heap.objs.size f cdv)) → sp vs H Q E →
      ∃ t, PSs (cxOf CX P w K mg base N qual (defScope st) f cdv A outer s H E) (defBody st) t ∧ t { nx := fun _ H' => Q .non H', rt := Q } (L2.start N vs) H) : FnG P w K mg base CX (k + 1) f fd ps sp := by
  obtain ⟨oc, od, dV, kV, doc, pm, an, cdv, ct, osl, rfl, lk, hcd, _, _⟩ := F.ex
  exact fn_g lk hcd S len fun A outer s H vs Q E gd hr h => hb cdv A outer s H vs Q E gd hr h
/-- a promise over data has its arguments' number -/
theorem spD_len {K : PySem.W.Frag} {f : FS} {n : Nat} (h : ∀ ds R Z, f ds R Z → ds.length = n) : ∀ vs H Q E, spD K f vs H Q E → vs.length = n := fun vs H Q E ⟨G, ds, R, Z, _, k, hf, _⟩ => by
  rw [k.length]
  exact h ds R Z hf
theorem spP_len {K : PySem.W.Frag} {f : FP} {n : Nat} (h : ∀ k ds R Z, f k ds R Z → ds.length + 1 = n) : ∀ vs H Q E, spP K f vs H Q E → vs.length = n := fun vs H Q E ⟨a, ws, G, ds, k, R, Z, e, _, _, _, kk, hf, _⟩ => by
  rw [e, List.length_cons, kk.length]
  exact h k ds R Z hf
end DL
namespace DL
open PySem PySem.Spec PyProof.Rows L2
variable [TabT]
theorem tup_times1 (l : Addr) (items : Array Value) (n : Nat) (dd : Option Addr) (sl : Array (Option Value)) (u : Tok) :
    Meets (Builtin.«tuple.__mul__» ⟨[.ref l, .int 1 u], []⟩) (fun _ R s => s.heap.get? l = some { cls := .type "tuple", dict := dd, data := .seq items n, slots := sl } ∧ R (.ok (.ret (.ref l))) s) :=
  .of_wp fun prog w A R s h => by
    obtain ⟨hp, g, d, tk, os⟩ := s
    obtain ⟨hl, h⟩ := h
    have f1 := AutoSeq1.idx_int
    wp_walk using wpAny_loadPart' hl
    exact ⟨_, rfl, h⟩
theorem tup_times0 (l : Addr) (items : Array Value) (n : Nat) (dd : Option Addr) (sl : Array (Option Value)) (u : Tok) (ne : items.isEmpty = false) :
    Meets (Builtin.«tuple.__mul__» ⟨[.ref l, .int 0 u], []⟩) (fun _ R s => s.heap.get? l = some { cls := .type "tuple", dict := dd, data := .seq items n, slots := sl } ∧
      R (.ok (.ret (Value.ref s.heap.objs.size))) { s with heap := s.heap.push { cls := Value.type "tuple", data := Data.seq #[] }, toks := s.toks }) :=
  .of_wp fun prog w A R s h => by
    obtain ⟨hp, g, d, tk, os⟩ := s
    obtain ⟨hl, h⟩ := h
    have f1 := AutoSeq1.idx_int
    have c1 : (items.isEmpty || (0 : Int) == 1) = false := by rw [ne]; rfl
    wp_walk using wpAny_loadPart' hl
    repeat (first
      | (refine wpAny_ite_false (decide_eq_false (by rw [c1]; exact Bool.false_ne_true)) ?_; wp_walk using wpAny_loadPart' hl))
    exact ⟨_, rfl, h⟩
def rRep01 (K : PySem.W.Frag) : R2 := fun x y H Q => ∃ l k xs, x = .ref l ∧ y = .int k ∧ SqT K H l xs ∧ xs ≠ [] ∧ ((k = 1 ∧ Q (.ref l) H) ∨ (k = 0 ∧ ∀ p, H p = none → Q (.ref p) (upd H p (.tup []))))
theorem op_rep01 {X : Cx} : OpR X (binaryOp .Mult) (rRep01 X.K) := by
  intro pins s σ H x y v u Q I rx ry h
  obtain ⟨l, k, xs, rfl, rfl, hT, hne, h⟩ := h
  cases rx
  obtain ⟨t, rfl⟩ := ry
  obtain ⟨its, r, ⟨⟨cls, dd, data, sl⟩, ho, hc, n, hd⟩, hs⟩ := I.tuple hT
  simp only at hc hd
  subst hc hd
  have ie : its.toArray.isEmpty = false := by
    cases its with
    | nil =>
      cases r
      exact absurd rfl hne
    | cons a b => rfl
  rcases h with ⟨rfl, q⟩ | ⟨rfl, q⟩
  · exact wpAny_binaryOp_repeat_ref (T := "tuple") (U := "int") (by decide) ⟨_, ho, rfl⟩ (fun s' => typeIs_int s' 1 t) noFill_tuple_mul F.fills_int_mul F.slot_int_rmul repeat_tuple F.slot_int_index.lookup
      (call_meets F.slot_int_rmul (typeIs_int s 1 t) F.entry_int_rmul (F.args_int_rmul_2 _ _) (int_rmul_tuple 1 t l its.toArray n dd sl)
        ⟨ho, rfl, ⟨_, ho, rfl⟩, call_meets F.slot_tuple_mul ⟨_, ho, rfl⟩ F.entry_tuple_mul (F.args_tuple_mul_2 _ _) (tup_times1 l its.toArray n dd sl t) ⟨ho, .ref l, H, I, rfl, q⟩⟩)
  · exact wpAny_binaryOp_repeat_ref (T := "tuple") (U := "int") (by decide) ⟨_, ho, rfl⟩ (fun s' => typeIs_int s' 0 t) noFill_tuple_mul F.fills_int_mul F.slot_int_rmul repeat_tuple F.slot_int_index.lookup
      (call_meets F.slot_int_rmul (typeIs_int s 0 t) F.entry_int_rmul (F.args_int_rmul_2 _ _) (int_rmul_tuple 0 t l its.toArray n dd sl)
        ⟨ho, rfl, ⟨_, ho, rfl⟩, call_meets F.slot_tuple_mul ⟨_, ho, rfl⟩ F.entry_tuple_mul (F.args_tuple_mul_2 _ _) (tup_times0 l its.toArray n dd sl t ie)
          ⟨ho, .ref s.heap.objs.size, _, I.laid (t' := s.toks) (o := .tup []) (fun b ob q => Heap.get?_push_of_some _ q) (Nat.le_refl _) ⟨Nat.zero_le _, [], .nil, IsTup.new _ _⟩, rfl, q _ (I.hok.fresh (Nat.le_refl _))⟩⟩)
abbrev rTimesA (K : PySem.W.Frag) : R2 := fun x y H Q => rTimes K x y H Q ∨ rRep01 K x y H Q
theorem op_timesA {X : Cx} : OpR X (binaryOp .Mult) (rTimesA X.K) := OpR.or op_times op_rep01
section
variable {K : PySem.W.Frag} {P : D → Prop}
theorem mul_int {i j : Int} (hc : CMulW i j) (p : P (.int (i * j))) : RD K (rTimesA K) (.int i) (.int j) P := rd_or1 (times_int hc p)
/-- (x, ..) * n -/
theorem mul_tup {xs : List D} {n : Nat} (h0 : xs ≠ []) (h2 : n ≤ 1000) (h3 : xs.length ≤ 1000) (p : P (.tup (List.replicate n xs).flatten)) : RD K (rTimesA K) (.tup xs) (.int (n : Int)) P := by
  by_cases h1 : 2 ≤ n
  · exact rd_or1 (times_tup h0 (by omega) (by omega) h3 (by simpa using p))
  · refine rd_or2 fun G H v u Q le a b q => ?_
    cases b
    cases a with
    | @tup c ws _ a1 a2 =>
      refine ⟨c, n, ws, rfl, rfl, seqT_mono le a1, fun e => h0 ?_, ?_⟩
      · subst e
        cases a2
        rfl
      · by_cases hn : n = 1
        · subst hn
          exact .inl ⟨rfl, q _ _ G H (Ext.refl le) p (by simpa using Is.tup a1 a2)⟩
        · have hn : n = 0 := by omega
          subst hn
          exact .inr ⟨rfl, fun d hd => q _ _ _ _ (Ext.new le hd (.tup [])) p (.tup (.inl (.inl upd_same)) .nil)⟩
end
end DL
namespace DL
open PySem PySem.Spec PyProof.Rows L2
variable [TabT]

/-! ### the script -/
section
variable {K : PySem.W.Frag} {P : D → Prop}
theorem len_scr {ns : List Int} (p : P (.int ns.length)) : RC1 K (rLenA K) [.scr ns] P := fun G H vs Q le a q => by
  obtain ⟨v, rfl, k⟩ := a.one
  cases k with
  | scr h => exact .inl ⟨_, _, rfl, .inl (seqL_mono le h), by rw [List.length_map]; exact q _ _ G H (Ext.refl le) p (.int _)⟩
theorem ix_scr {ns : List Int} {i n : Int} (h : ∃ k : Nat, i = (k : Int) ∧ ns[k]? = some n) (p : P (.int n)) : RD K (rIx K) (.scr ns) (.int i) P := fun G H v u Q le a b q => by
  obtain ⟨k, rfl, hk⟩ := h
  cases b
  cases a with
  | scr h => exact .inl ⟨_, _, _, .int n, rfl, rfl, seqL_mono le h, atI_nat (by rw [List.getElem?_map, hk]; rfl), q _ _ G H (Ext.refl le) p (.int _)⟩
end

/-! ### what one draws from -/
/-- a def that makes a new list to draw from -/
def spN (K : PySem.W.Frag) (f : List D → Prop) : Sp := fun vs H Q _ => ∃ G ds, Same G H ∧ IsL K G vs ds ∧ f ds ∧ ∀ p G' H', Ext G H G' H' (fun _ => False) → H p = none → G' p = none → PotAt H' p 0 → Q (.ref p) H'
/-- te makes such a list -/
def EvQ (C : Fx) (te : TE) (ρ : List Slot) (P : List Slot → Prop) : Prop := ∀ (σ : L2.St) (G H : Hp) (Q : VK), Sg C G H σ ρ → (∀ p G' H' ρ', Stp C G H σ ρ G' H' ρ' → P ρ' → H p = none → G' p = none → PotAt H' p 0 → Q (.ref p) H') → te σ H Q
section
variable {C : Fx} {ρ : List Slot} {ta : TA} {te : TE} {E : XK} {Z : Addr → D → Prop} {po : Po} {i : Nat}
theorem eq_call {K' : PySem.W.Frag} {f : List D → Prop} {P : List Slot → Prop} (h : EvA C ta ρ fun ds ρ1 => f ds ∧ P ρ1) (hK : K' = C.K := by rfl) : EvQ C (tCall (spN K' f) [] E ta) ρ P := fun σ G H Q S q => by
  subst hK
  refine h σ G H _ S fun vs ds G1 H1 ρ1 s1 p1 k1 => ?_
  refine ⟨G1, ds, s1.st.le, by rw [List.append_nil]; exact k1, p1.1, fun p G' H' e n g pt => ?_⟩
  have n0 : H p = none := by
    cases z : H p with
    | none => rfl
    | some o =>
      obtain ⟨u, e⟩ := s1.ext.th p o z
      rw [n] at e
      cases e
  exact q p G' H' ρ1 (s1.trans (s1.st.keep e)) p1.2 n0 g pt
/-- slot i holds it now -/
theorem Sg.setQ {G H : Hp} {σ : L2.St} {p : Addr} {k : Nat} (S : Sg C G H σ ρ) (g : G p = none) (h : PotAt H p k) (h0 : C.H0 p = none) (nf : ∀ j, j ≠ i → ¬ Mt σ ρ j p) : Sg C G H (σ.set i (some (.ref p))) (ρ.set i (.pot p k)) := by
  refine ⟨S.ext, by rw [List.length_set, List.length_set, S.len], fun j s hs => ?_, fun j l a h1 h2 => ?_⟩
  · by_cases hj : j = i
    · subst hj
      have hl : j < ρ.length := by
        have := (List.getElem?_eq_some_iff.mp hs).1
        rwa [List.length_set] at this
      rw [List.getElem?_set_self hl] at hs
      cases hs
      exact ⟨_, List.getElem?_set_self (by rw [S.len]; exact hl), rfl, g, h, .inr h0⟩
    · rw [List.getElem?_set_ne (Ne.symm hj)] at hs ⊢
      exact S.sl j s hs
  · have key : ∀ {j : Nat} {a : Addr}, Mt (σ.set i (some (.ref p))) (ρ.set i (.pot p k)) j a → j = i → a = p := fun {j a} h e => by
      subst e
      have h1 := h.1
      have hl : j < σ.length := by
        have := h.lt
        rwa [List.length_set] at this
      rw [List.getElem?_set_self hl] at h1
      cases h1
      rfl
    by_cases hj : j = i
    · by_cases hk : l = i
      · rw [hj, hk]
      · have e := key h1 hj
        subst e
        exact absurd (h2.ne hk) (nf l hk)
    · by_cases hk : l = i
      · have e := key h2 hk
        subst e
        exact absurd (h1.ne hj) (nf j hj)
      · exact S.dis j l a (h1.ne hj) (h2.ne hk)
/-- x = pot(..) -/
theorem xs_pot (h : EvQ C te ρ fun ρ1 => ∀ p, po.nx (ρ1.set i (.pot p 0))) : Xs C (tAsg te (gName i)) ρ po := fun σ G H Dn S hn hr hb hc =>
  h σ G H _ S fun p G1 H1 ρ1 s1 p1 n g pt => hn _ G1 H1 _ (s1.st.setQ g pt (h0_none S n) fun j _ m => nomt S s1 n m) s1.ext.gg (p1 p)
/-- f(pot(..), ..) -/
theorem ev_callPN {K' : PySem.W.Frag} {f : FP} {P : PD} {dvs : List V} {es : List D} (hE : Flies C.K C.G0 C.H0 C.F0 Z E) (hd : ∀ G, IsL C.K G dvs es) (h : EvQ C te ρ fun ρ1 => EvA C ta ρ1 fun ds ρ2 => f 0 (ds ++ es) (fun d _ => P d ρ2) Z) (hK : K' = C.K := by rfl) :
    Ev C (tCall (spP K' f) dvs E (tCons te ta)) ρ P := fun σ G H Q S q => by
  subst hK
  refine h σ G H _ S fun p G1 H1 ρ1 s1 p1 n g pt => ?_
  refine p1 σ G1 H1 _ s1.st fun vs ds G2 H2 ρ2 s2 p2 k2 => ?_
  have nf : ¬ Fp σ ρ1 p := fun ⟨j, m⟩ => nomt S s1 n m
  obtain ⟨x, y, z, pz, pr⟩ := pt
  have g2 : G2 p = none := s2.ext.nf _ _ pz g nf
  have pt2 : PotAt H2 p 0 := ⟨x, y, z, s2.ext.fr _ _ pz (fun _ z => nomatch z) nf, pr⟩
  have s12 := s1.trans s2
  refine ⟨p, vs ++ dvs, G2, ds ++ es, 0, _, Z, rfl, s2.st.le, g2, pt2, k2.append (hd G2), p2, fun v d k' G' H' e gp ptp kd r => ?_, fun X dx v d G' H' e gx kk z => ?_⟩
  · -- the list that was drawn from is nobody's
    have nf2 : ∀ b, Fp σ ρ2 b → b ≠ p := fun b hb z => by
      subst z
      obtain ⟨_, ⟨xs, e⟩, _⟩ := S.fp_some (s12.sub _ hb)
      rw [n] at e
      cases e
    have ex : Ext G H G' H' (Fp σ ρ) := by
      refine ⟨s12.ext.gg.trans e.gg, e.gh, fun b o hb nt f => e.fr b o (s12.ext.fr b o hb nt f) nt (ne_of_none hb n), fun b o hb gb f => (by
        obtain ⟨u, hu⟩ := s12.ext.th b o hb
        exact e.nf b u hu (s12.ext.nf b o hb gb f) (ne_of_none hb n)), fun b o hb => ?_, fun t => e.tt (s12.ext.tt t), fun g => e.nt (s12.ext.nt g)⟩
      obtain ⟨u, hu⟩ := s12.ext.th b o hb
      exact e.th b u hu
    have nh0 : C.H0 p = none := h0_none S n
    refine q v d G' H' ρ2 ⟨ex, ⟨s12.st.ext.trans e fun b o hb z => ?_, s12.st.len, fun j s hs => ?_, s12.st.dis⟩, s12.sub⟩ r kd
    · subst z
      rw [nh0] at hb
      cases hb
    · obtain ⟨o, ho, qo⟩ := s12.st.sl j s hs
      refine ⟨o, ho, qo.move e.gg fun hm b u eb h nt g => ?_⟩
      subst eb
      have nb : b ≠ p := nf2 b ⟨j, ho, _, hs, hm⟩
      exact ⟨e.fr _ _ h nt nb, e.nf _ _ h g nb⟩
  · refine hE X dx v d G' H' (s12.st.ext.trans e fun b o hb z => ?_) gx kk z
    subst z
    rw [h0_none S n] at hb
    cases hb
end

/-! ### numbers -/
theorem mulW {i j : Int} {a b : Nat} (ha : i.natAbs < 2 ^ a) (hb : j.natAbs < 2 ^ b) (h : a + b ≤ 900000) : CMulW i j :=
  wide_mul (a := a + 1) (b := b + 1) (Nat.lt_of_lt_of_le ha (Nat.pow_le_pow_right (by decide) (Nat.le_succ _))) (Nat.lt_of_lt_of_le hb (Nat.pow_le_pow_right (by decide) (Nat.le_succ _))) (Nat.succ_pos _) (Nat.succ_pos _) (by omega)
theorem log2W {i : Int} {a n : Nat} (ha : i.natAbs < 2 ^ a) (h : a < n) : i.natAbs.log2 < n :=
  Nat.lt_of_lt_of_le (PySem.Flt.log2_lt_of (Nat.succ_pos a) (Nat.lt_of_lt_of_le ha (Nat.pow_le_pow_right (by decide) (Nat.le_succ _)))) (by omega)
theorem fdivG {i j : Int} {a : Nat} (h : j ≠ 0) (ha : j.natAbs < 2 ^ a) (h9 : a < 9000) : CDivG i j := ⟨h, log2W ha h9⟩
theorem powG {i j : Int} {a : Nat} (h : 0 ≤ j) (ha : i.natAbs < 2 ^ a) (h2 : ((a : Int) + 2) * j ≤ 2 ^ 27) : CPowG i j := by
  refine ⟨h, Int.le_trans (Int.mul_le_mul_of_nonneg_right ?_ h) h2⟩
  have : i.natAbs.log2 < a + 1 := log2W ha (Nat.lt_succ_self _)
  unfold Builtin.Int.intBits
  split <;> omega
theorem natAbs_lt {i : Int} {a : Nat} (h0 : -(2 ^ a : Int) < i) (h1 : i < 2 ^ a) : i.natAbs < 2 ^ a := by
  have e : ((2 ^ a : Nat) : Int) = (2 ^ a : Int) := by simp
  have : ((i.natAbs : Nat) : Int) < ((2 ^ a : Nat) : Int) := by
    rw [e]
    omega
  exact Int.ofNat_lt.mp this
end DL
namespace DL
variable [TabT]
theorem nbM {i : Int} {a b : Nat} (h : i.natAbs < 2 ^ a) (e : a ≤ b) : i.natAbs < 2 ^ b := Nat.lt_of_lt_of_le h (Nat.pow_le_pow_right (by decide) e)
theorem nbA {i j : Int} {a : Nat} (hi : i.natAbs < 2 ^ a) (hj : j.natAbs < 2 ^ a) : (i + j).natAbs < 2 ^ (a + 1) := by
  have e : 2 ^ (a + 1) = 2 ^ a + 2 ^ a := by rw [Nat.pow_succ]; omega
  rw [e]
  omega
theorem nbS {i j : Int} {a : Nat} (hi : i.natAbs < 2 ^ a) (hj : j.natAbs < 2 ^ a) : (i - j).natAbs < 2 ^ (a + 1) := by
  have e : 2 ^ (a + 1) = 2 ^ a + 2 ^ a := by rw [Nat.pow_succ]; omega
  rw [e]
  omega
theorem nbX {i j : Int} {a b : Nat} (hi : i.natAbs < 2 ^ a) (hj : j.natAbs < 2 ^ b) : (i * j).natAbs < 2 ^ (a + b) := L2.wide_lt hi hj
theorem fmod_rng {i j : Int} (h : 0 < j) : 0 ≤ i.fmod j ∧ i.fmod j < j := by
  rw [Int.fmod_eq_emod_of_nonneg _ (by omega)]
  exact ⟨Int.emod_nonneg _ (by omega), Int.emod_lt_of_pos _ h⟩
end DL
namespace DL
open PySem PySem.Spec PyProof.Rows L2
variable [TabT]
theorem xs_then {C : Fx} {t u : TS} {ρ : List Slot} {N : List Slot → Prop} {Dn : Ends} {σ : L2.St} {G H : Hp} (h : Xs C t ρ { nx := N, rt := fun _ _ => False }) (S : Sg C G H σ ρ) (k : ∀ σ' G' H' ρ', Sg C G' H' σ' ρ' → N ρ' → u Dn σ' H') : tSeq t u Dn σ H :=
  h σ G H { Dn with nx := u Dn } S (fun σ' G' H' ρ' s _ p => k σ' G' H' ρ' s p) (fun _ _ _ _ _ _ _ _ z => z.elim) (fun _ _ _ _ _ _ z => z.elim) fun _ _ _ _ _ _ z => z.elim
end DL
namespace DL
open PySem PySem.Spec PyProof.Rows L2
variable [TabT]
theorem rd_k {r : PySem.W.Frag → R2} {K K' : PySem.W.Frag} {x y : D} {P : D → Prop} (hK : K' = K) (h : RD K (r K) x y P) : RD K (r K') x y P := hK ▸ h
theorem rc_k {r : PySem.W.Frag → List V → Hp → VK → Prop} {K K' : PySem.W.Frag} {xs : List D} {P : D → Prop} (hK : K' = K) (h : RC1 K (r K) xs P) : RC1 K (r K') xs P := hK ▸ h
end DL
namespace DL
variable [TabT]
theorem bit_nb (b : Bool) : (if b = true then (1 : Int) else 0).natAbs < 2 ^ 2 := by cases b <;> decide
theorem bit_mul {x : Int} (h : 0 ≤ x) (b : Bool) : 0 ≤ x * (if b = true then (1 : Int) else 0) ∧ x * (if b = true then (1 : Int) else 0) ≤ x := by
  cases b
  · simp [h]
  · simp [h]
end DL
namespace DL
open PySem PySem.Spec PyProof.Rows L2
variable [TabT]
section
variable {C : Fx} {ρ : List Slot} {ta tb : TE} {po : Po} {i j : Nat}
theorem xs_parDD (h : Ev C ta ρ fun x ρ1 => Ev C tb ρ1 fun y ρ2 => po.nx ((ρ2.set i (.dat x)).set j (.dat y))) : Xs C (tPar i j (tCons ta (tCons tb tNil))) ρ po := fun σ G H Dn S hn hr hb hc => by
  refine h σ G H _ S fun v x G1 H1 ρ1 s1 p1 k1 => p1 σ G1 H1 _ s1.st fun u y G2 H2 ρ2 s2 p2 k2 => ?_
  exact ⟨v, u, rfl, hn _ G2 H2 _ ((s2.st.setD (k1.mono s2.ext.gg)).setD k2) (s1.ext.gg.trans s2.ext.gg) p2⟩
theorem xs_parDN (h : Ev C ta ρ fun x ρ1 => EvN C tb ρ1 fun ys ρ2 => po.nx ((ρ2.set i (.dat x)).set j (.own ys))) : Xs C (tPar i j (tCons ta (tCons tb tNil))) ρ po := fun σ G H Dn S hn hr hb hc => by
  refine h σ G H _ S fun v x G1 H1 ρ1 s1 p1 k1 => p1 σ G1 H1 _ s1.st fun q us ys G2 H2 ρ2 s2 p2 n g hq k2 => ?_
  refine ⟨v, .ref q, rfl, hn _ G2 H2 _ ((s2.st.setD (k1.mono s2.ext.gg)).setO g hq k2 (h0_none s1.st n) fun l hl m => ?_) (s1.ext.gg.trans s2.ext.gg) p2⟩
  exact nomt s1.st s2 n (mt_setD s2.st.len m)
theorem xs_parNN (hij : i ≠ j) (h : EvN C ta ρ fun xs ρ1 => EvN C tb ρ1 fun ys ρ2 => po.nx ((ρ2.set i (.own xs)).set j (.own ys))) : Xs C (tPar i j (tCons ta (tCons tb tNil))) ρ po := fun σ G H Dn S hn hr hb hc => by
  refine h σ G H _ S fun p vs xs G1 H1 ρ1 s1 p1 n1 g1 hp1 k1 => p1 σ G1 H1 _ s1.st fun q us ys G2 H2 ρ2 s2 p2 n2 g2 hp2 k2 => ?_
  have nf : ¬ Fp σ ρ1 p := fun ⟨l, m⟩ => nomt S s1 n1 m
  have e1 : H2 p = some (.lst vs) := s2.ext.fr _ _ hp1 (fun _ z => nomatch z) nf
  have f1 : G2 p = none := s2.ext.nf _ _ hp1 g1 nf
  have pq : q ≠ p := fun e => by
    rw [e] at n2
    rw [n2] at hp1
    cases hp1
  have S1 := s2.st.setO (i := i) f1 e1 (k1.mono s2.ext.gg) (h0_none S n1) fun l _ m => nomt S (s1.trans s2) n1 m
  refine ⟨.ref p, .ref q, rfl, hn _ G2 H2 _ (S1.setO (i := j) g2 hp2 k2 (h0_none s1.st n2) fun l hl m => ?_) (s1.ext.gg.trans s2.ext.gg) p2⟩
  by_cases hl2 : l = i
  · subst hl2
    have e := m.1
    by_cases hs : l < σ.length
    · rw [List.getElem?_set_self hs] at e
      cases e
      exact pq rfl
    · rw [List.getElem?_eq_none (by rw [List.length_set]; omega)] at e
      cases e
  · exact nomt s1.st s2 n2 (m.ne hl2)
end
end DL
namespace DL
variable [TabT]
/-! ### sums of fractions -/
abbrev Pq := Rat × Rat
def val (p : Pq) : Rat := p.1 * p.2
def sumP (ps : List Pq) : Rat := (ps.map val).foldl (· + ·) 0
theorem foldl_add (l : List Rat) (a : Rat) : l.foldl (· + ·) a = a + l.foldl (· + ·) 0 := by
  induction l generalizing a with
  | nil => simp [Rat.add_zero]
  | cons x l ih =>
    rw [List.foldl_cons, List.foldl_cons, ih (a + x), ih (0 + x), Rat.zero_add, Rat.add_assoc]
theorem sumP_nil : sumP [] = 0 := rfl
theorem sumP_cons (p : Pq) (ps : List Pq) : sumP (p :: ps) = val p + sumP ps := by
  unfold sumP
  rw [List.map_cons, List.foldl_cons, foldl_add, Rat.zero_add]
theorem sumP_append (ps qs : List Pq) : sumP (ps ++ qs) = sumP ps + sumP qs := by
  induction ps with
  | nil => rw [List.nil_append, sumP_nil, Rat.zero_add]
  | cons p ps ih => rw [List.cons_append, sumP_cons, sumP_cons, ih, Rat.add_assoc]
theorem sumP_perm {ps qs : List Pq} (h : ps.Perm qs) : sumP ps = sumP qs := by
  induction h with
  | nil => rfl
  | cons x _ ih => rw [sumP_cons, sumP_cons, ih]
  | swap x y l => rw [sumP_cons, sumP_cons, sumP_cons, sumP_cons, ← Rat.add_assoc, ← Rat.add_assoc, Rat.add_comm (val y)]
  | trans _ _ ih1 ih2 => exact ih1.trans ih2
theorem sumP_take {ps : List Pq} {i : Nat} {p : Pq} (h : ps[i]? = some p) : sumP (ps.take (i + 1)) = sumP (ps.take i) + val p := by
  rw [List.take_add_one, h, sumP_append]
  show sumP (ps.take i) + sumP [p] = _
  rw [sumP_cons, sumP_nil, Rat.add_zero]
/-- uncut -/
def stepU (s : Int × Nat) (p : Pq) : Int × Nat := (s.1 * ((p.1.den * p.2.den : Nat) : Int) + p.1.num * p.2.num * (s.2 : Int), s.2 * (p.1.den * p.2.den))
def unc (ps : List Pq) : Int × Nat := ps.foldl stepU (0, 1)
theorem unc_take {ps : List Pq} {i : Nat} {p : Pq} (h : ps[i]? = some p) : unc (ps.take (i + 1)) = stepU (unc (ps.take i)) p := by
  unfold unc
  rw [List.take_add_one, h]
  simp [List.foldl_append]
theorem step_val {s : Int × Nat} {p : Pq} (h : s.2 ≠ 0) : mkRat (stepU s p).1 (stepU s p).2 = mkRat s.1 s.2 + val p := by
  have e : val p = mkRat (p.1.num * p.2.num) (p.1.den * p.2.den) := by
    unfold val
    rw [← Rat.mkRat_mul_mkRat, Rat.mkRat_self, Rat.mkRat_self]
  rw [e, Rat.mkRat_add_mkRat _ _ h (Nat.mul_ne_zero p.1.den_nz p.2.den_nz)]
  rfl
theorem unc_val (ps : List Pq) : (unc ps).2 ≠ 0 ∧ mkRat (unc ps).1 (unc ps).2 = sumP ps := by
  have key : ∀ (ps : List Pq) (s : Int × Nat), s.2 ≠ 0 → (ps.foldl stepU s).2 ≠ 0 ∧ mkRat (ps.foldl stepU s).1 (ps.foldl stepU s).2 = mkRat s.1 s.2 + sumP ps := by
    intro ps
    induction ps with
    | nil => exact fun s h => ⟨h, by rw [sumP_nil, Rat.add_zero]; rfl⟩
    | cons p ps ih =>
      intro s h
      have h2 : (stepU s p).2 ≠ 0 := Nat.mul_ne_zero h (Nat.mul_ne_zero p.1.den_nz p.2.den_nz)
      obtain ⟨a, b⟩ := ih _ h2
      exact ⟨a, by rw [List.foldl_cons, b, step_val h, sumP_cons, Rat.add_assoc]⟩
  obtain ⟨a, b⟩ := key ps (0, 1) (by decide)
  refine ⟨a, b.trans ?_⟩
  rw [show mkRat (0 : Int) 1 = 0 from by decide +kernel, Rat.zero_add]
/-- small -/
def Sm (c : Nat) (q : Rat) : Prop := q.num.natAbs < 2 ^ c ∧ q.den < 2 ^ c
def SmP (c : Nat) (p : Pq) : Prop := Sm c p.1 ∧ Sm c p.2
theorem Sm.mono {c d : Nat} {q : Rat} (h : Sm c q) (e : c ≤ d) : Sm d q := ⟨Nat.lt_of_lt_of_le h.1 (Nat.pow_le_pow_right (by decide) e), Nat.lt_of_lt_of_le h.2 (Nat.pow_le_pow_right (by decide) e)⟩
theorem mul_lt_pow {a b c d : Nat} (h : a < 2 ^ c) (k : b < 2 ^ d) : a * b < 2 ^ (c + d) := by
  rw [Nat.pow_add]
  exact Nat.mul_lt_mul'' h k
theorem unc_small {c : Nat} : ∀ (ps : List Pq), (∀ p ∈ ps, SmP c p) → (unc ps).1.natAbs < 2 ^ ((2 * c + 1) * (ps.length + 1)) ∧ (unc ps).2 < 2 ^ ((2 * c + 1) * ps.length + 1) := by
  have key : ∀ (ps : List Pq) (s : Int × Nat) (m : Nat), (∀ p ∈ ps, SmP c p) → s.1.natAbs < 2 ^ ((2 * c + 1) * (m + 1)) → s.2 < 2 ^ ((2 * c + 1) * m + 1) → (ps.foldl stepU s).1.natAbs < 2 ^ ((2 * c + 1) * (m + ps.length + 1)) ∧ (ps.foldl stepU s).2 < 2 ^ ((2 * c + 1) * (m + ps.length) + 1) := by
    intro ps
    induction ps with
    | nil => exact fun s m _ h k => ⟨h, k⟩
    | cons p ps ih =>
      intro s m hp h k
      obtain ⟨⟨a1, a2⟩, b1, b2⟩ := hp p (by simp)
      have hd : p.1.den * p.2.den < 2 ^ (c + c) := mul_lt_pow a2 b2
      have h2 : (stepU s p).2 < 2 ^ ((2 * c + 1) * (m + 1) + 1) := by
        have := mul_lt_pow k hd
        refine Nat.lt_of_lt_of_le this (Nat.pow_le_pow_right (by decide) ?_)
        rw [Nat.mul_add (2 * c + 1) m 1]
        omega
      have h1 : (stepU s p).1.natAbs < 2 ^ ((2 * c + 1) * (m + 1 + 1)) := by
        have x1 : (s.1 * ((p.1.den * p.2.den : Nat) : Int)).natAbs < 2 ^ ((2 * c + 1) * (m + 1) + (c + c)) := nbX h (by rw [Int.natAbs_natCast]; exact hd)
        have x2 : (p.1.num * p.2.num * (s.2 : Int)).natAbs < 2 ^ ((c + c) + ((2 * c + 1) * m + 1)) := nbX (nbX a1 b1) (by simpa using k)
        have e1 : (2 * c + 1) * (m + 1 + 1) = (2 * c + 1) * (m + 1) + (c + c) + 1 := by
          rw [Nat.mul_add (2 * c + 1) (m + 1) 1]
          omega
        rw [e1]
        refine nbA x1 (nbM x2 ?_)
        rw [Nat.mul_add (2 * c + 1) m 1]
        omega
      have := ih (stepU s p) (m + 1) (fun q hq => hp q (by simp [hq])) h1 h2
      rw [List.foldl_cons, List.length_cons]
      rw [show m + (ps.length + 1) = m + 1 + ps.length by omega]
      exact this
  intro ps hp
  have := key ps (0, 1) 0 hp (by simp; exact Nat.pow_pos (by decide)) (by simp)
  simpa [unc] using this
theorem mk_small {n : Int} {d a : Nat} (hd : d ≠ 0) (h : n.natAbs < 2 ^ a) : (mkRat n d).num.natAbs < 2 ^ a ∧ (mkRat n d).den ≤ d := by
  refine ⟨?_, ?_⟩
  · rw [Rat.num_mkRat, if_neg hd]
    have : (n / ((d.gcd n.natAbs : Nat) : Int)).natAbs ≤ n.natAbs := by
      have hg : 0 < d.gcd n.natAbs := Nat.gcd_pos_of_pos_left n.natAbs (Nat.pos_of_ne_zero hd)
      have hdv : ((d.gcd n.natAbs : Nat) : Int) ∣ n := Int.dvd_natAbs.mp (Int.ofNat_dvd.mpr (Nat.gcd_dvd_right _ _))
      obtain ⟨q, hq⟩ := hdv
      generalize ((d.gcd n.natAbs : Nat)) = g at hg hq
      subst hq
      rw [Int.mul_ediv_cancel_left q (by omega), Int.natAbs_mul]
      exact Nat.le_mul_of_pos_left _ (by omega)
    omega
  · rw [Rat.den_mkRat, if_neg hd]
    exact Nat.div_le_self _ _
theorem sum_small {c : Nat} {ps : List Pq} (h : ∀ p ∈ ps, SmP c p) : (sumP ps).num.natAbs < 2 ^ ((2 * c + 1) * (ps.length + 1)) ∧ (sumP ps).den < 2 ^ ((2 * c + 1) * ps.length + 1) := by
  obtain ⟨h0, h1⟩ := unc_val ps
  obtain ⟨a, b⟩ := unc_small ps h
  rw [← h1]
  have := mk_small h0 a
  exact ⟨this.1, Nat.lt_of_le_of_lt this.2 b⟩
theorem sum_Sm {c d : Nat} {ps : List Pq} (h : ∀ p ∈ ps, SmP c p) (e : (2 * c + 1) * (ps.length + 1) ≤ d) (e2 : 1 ≤ c) : Sm d (sumP ps) := by
  obtain ⟨a, b⟩ := sum_small h
  refine ⟨Nat.lt_of_lt_of_le a (Nat.pow_le_pow_right (by decide) e), Nat.lt_of_lt_of_le b (Nat.pow_le_pow_right (by decide) ?_)⟩
  rw [Nat.mul_add] at e
  omega
/-- the fraction of a number as data -/
def frq (q : Rat) : D := .tup [.int q.num, .int (q.den : Int)]
theorem frq_mk {t l : Int} (h : 0 < l) : frq (mkRat t l.toNat) = .tup [.int (t.fdiv ((Nat.gcd t.natAbs l.natAbs : Nat) : Int)), .int (l.fdiv ((Nat.gcd t.natAbs l.natAbs : Nat) : Int))] := by
  have hl : l.toNat ≠ 0 := by omega
  have el : l.toNat = l.natAbs := by omega
  unfold frq
  rw [Rat.num_mkRat, Rat.den_mkRat, if_neg hl, if_neg hl, el, Nat.gcd_comm l.natAbs]
  have e2 : (l.natAbs : Int) = l := by omega
  rw [Int.fdiv_eq_ediv_of_nonneg _ (by omega), Int.fdiv_eq_ediv_of_nonneg _ (by omega), Int.natCast_ediv, e2]
end DL
namespace DL
open PySem PySem.Spec PyProof.Rows L2
variable [TabT]
/-- a halt between two statements -/
theorem xs_mid {C : Fx} {t u : TS} {ρ : List Slot} {po : Po} (N : List Slot → Prop) (h1 : Xs C t ρ { po with nx := N }) (h2 : ∀ ρ', N ρ' → Xs C u ρ' po) : Xs C (tSeq t u) ρ po :=
  xs_seq (h1.imp (fun ρ' n => h2 ρ' n) (fun _ _ h => h) (fun _ h => h) fun _ h => h)
theorem step_mk (s q r : Rat) : s + q * r = mkRat (s.num * (q.den : Int) * (r.den : Int) + q.num * r.num * (s.den : Int)) (s.den * q.den * r.den) := by
  have e : q * r = mkRat (q.num * r.num) (q.den * r.den) := by rw [← Rat.mkRat_mul_mkRat, Rat.mkRat_self, Rat.mkRat_self]
  rw [e]
  conv => lhs; lhs; rw [← Rat.mkRat_self s]
  rw [Rat.mkRat_add_mkRat _ _ s.den_nz (Nat.mul_ne_zero q.den_nz r.den_nz)]
  congr 1
  · simp only [Int.natCast_mul, Int.mul_assoc]
  · rw [Nat.mul_assoc]
theorem sm_take {c d : Nat} {ps : List Pq} (h : ∀ p ∈ ps, SmP c p) (hc : (2 * c + 1) * (ps.length + 2) ≤ d) (h1 : 1 ≤ c) (i : Nat) : Sm d (sumP (ps.take i)) := by
  refine sum_Sm (fun p hp => h p (List.mem_of_mem_take hp)) (Nat.le_trans (Nat.mul_le_mul_left _ ?_) hc) h1
  rw [List.length_take]
  omega
end DL
namespace DL
open PySem PySem.Spec PyProof.Rows L2
variable [TabT]
/-- repr of a fraction -/
def frT (q : Rat) : Str := (PyData.tuple [.int q.num, .int (q.den : Int)]).shown
theorem frT_len {q : Rat} (h : Sm 1919 q) : (frT q).length ≤ 100000 := by
  have l1 : (PySem.Str.ofString (toString q.num)).length ≤ 1921 := int_text_len_1921 (log2W (a := 1919) h.1 (by decide))
  have l2 : (PySem.Str.ofString (toString (q.den : Int))).length ≤ 1921 := int_text_len_1921 (log2W (a := 1919) (by rw [Int.natAbs_natCast]; exact h.2) (by decide))
  have e : frT q = (("(" : Str) ++ ((PySem.Str.ofString (toString q.num)) ++ ", " ++ (PySem.Str.ofString (toString (q.den : Int))))) ++ (")" : Str) := by
    unfold frT
    rfl
  rw [e]
  rw [Str.length_append, Str.length_append, Str.length_append, Str.length_append]
  have a1 : ("(" : Str).length = 1 := rfl
  have a2 : (", " : Str).length = 2 := rfl
  have a3 : (")" : Str).length = 1 := rfl
  omega
theorem repr_frq {K K' : PySem.W.Frag} {P : D → Prop} {q : Rat} (hK : K' = K) (h : Sm 1919 q) (p : P (.str (frT q))) : RC1 K (rRepr K') [frq q] P := by
  refine rc_k (r := rRepr) hK (rc_repr (p := .tuple [.int q.num, .int (q.den : Int)]) rfl ?_ rfl (Nat.le_trans (frT_len h) (by decide)) (by simp [PyData.depth, PyData.depthAll]) p)
  simp only [PyData.showable, PyData.showableAll, Bool.and_true, Bool.and_eq_true, decide_eq_true_eq]
  exact ⟨log2W (a := 1919) h.1 (by decide), log2W (a := 1919) (by rw [Int.natAbs_natCast]; exact h.2) (by decide)⟩
theorem eqv_str (x : Str) : PyData.eqv (.str x) (.str x) = true := by simp [PyData.eqv]
theorem eqv_fr (q : Rat) : PyData.eqv (.tuple [.int q.num, .int (q.den : Int)]) (.tuple [.int q.num, .int (q.den : Int)]) = true := by simp [PyData.eqv, PyData.eqvAll]
/-- == and !=: by data, or of plain values -/
abbrev rEqA (K : PySem.W.Frag) : R2 := fun x y H Q => rEqD K x y H Q ∨ rEq x y H Q
abbrev rNeA (K : PySem.W.Frag) : R2 := fun x y H Q => rNeD K x y H Q ∨ rNe x y H Q
theorem op_eqA {X : Cx} (hu : X.A.units + 64 < cLine) : OpR X (compareOp .Eq) (rEqA X.K) := OpR.or (op_eqD hu) op_eq
theorem op_neA {X : Cx} (hu : X.A.units + 64 < cLine) : OpR X (compareOp .NotEq) (rNeA X.K) := OpR.or (op_neD hu) op_ne
/-- two fractions that are the same, != and == -/
theorem ne_fr {K K' : PySem.W.Frag} {P : D → Prop} {q r : Rat} (hK : K' = K) (e : q = r) (p : P (.bl false)) : RD K (rNeA K') (frq q) (frq r) P := by
  subst e
  refine rd_k (r := rNeA) hK (rd_or1 (rd_ne rfl rfl (by rfl) (by rfl) ?_))
  rw [eqv_fr]
  exact p
theorem eq_fr {K K' : PySem.W.Frag} {P : D → Prop} {q r : Rat} (hK : K' = K) (e : q = r) (p : P (.bl true)) : RD K (rEqA K') (frq q) (frq r) P := by
  subst e
  refine rd_k (r := rEqA) hK (rd_or1 (rd_eq rfl rfl (by rfl) (by rfl) ?_))
  rw [eqv_fr]
  exact p
theorem ne_str {K K' : PySem.W.Frag} {P : D → Prop} {x y : Str} (hK : K' = K) (p : P (.bl (!decide (x = y)))) : RD K (rNeA K') (.str x) (.str y) P := by
  refine rd_k (r := rNeA) hK (rd_or2 fun G H v u Q le a b q => ?_)
  cases a
  cases b
  refine ⟨rfl, ?_⟩
  have e : (!decide (V.str x = V.str y)) = !decide (x = y) := by
    congr 1
    exact decide_eq_decide.mpr ⟨fun h => V.str.inj h, fun h => by rw [h]⟩
  rw [e]
  exact q _ _ G H (Ext.refl le) p (.bl _)
theorem eq_str {K K' : PySem.W.Frag} {P : D → Prop} {x y : Str} (hK : K' = K) (p : P (.bl (decide (x = y)))) : RD K (rEqA K') (.str x) (.str y) P := by
  refine rd_k (r := rEqA) hK (rd_or2 fun G H v u Q le a b q => ?_)
  cases a
  cases b
  refine ⟨rfl, ?_⟩
  have e : decide (V.str x = V.str y) = decide (x = y) := decide_eq_decide.mpr ⟨fun h => V.str.inj h, fun h => by rw [h]⟩
  rw [e]
  exact q _ _ G H (Ext.refl le) p (.bl _)
end DL
namespace DL
open PySem PySem.Spec PyProof.Rows L2
variable [TabT]
theorem ne_strS {K K' : PySem.W.Frag} {P : D → Prop} {x y : Str} (hK : K' = K) (e : x = y) (p : P (.bl false)) : RD K (rNeA K') (.str x) (.str y) P := by
  subst e
  exact ne_str hK (by simpa using p)
theorem perm_map_inv {α β : Type} {f : α → β} {ys zs : List β} (h : ys.Perm zs) : ∀ l : List α, zs = l.map f → ∃ os : List α, os.Perm l ∧ ys = os.map f := by
  induction h with
  | nil =>
    intro l e
    cases l with
    | nil => exact ⟨[], List.Perm.refl _, rfl⟩
    | cons a l => cases e
  | cons x _ ih =>
    intro l e
    cases l with
    | nil => cases e
    | cons a l =>
      injection e with e1 e2
      obtain ⟨os, h1, h2⟩ := ih l e2
      exact ⟨a :: os, h1.cons a, by rw [List.map_cons, ← h2, e1]⟩
  | swap x y l' =>
    intro l e
    cases l with
    | nil => cases e
    | cons a l =>
      cases l with
      | nil => cases e
      | cons b l =>
        injection e with e1 e2
        injection e2 with e2 e3
        exact ⟨b :: a :: l, List.Perm.swap _ _ _, by rw [List.map_cons, List.map_cons, ← e1, ← e2, ← e3]⟩
  | trans _ _ ih1 ih2 =>
    intro l e
    obtain ⟨os, h1, h2⟩ := ih2 l e
    obtain ⟨os', h3, h4⟩ := ih1 os h2
    exact ⟨os', h3.trans h1, h4⟩
theorem sm_one : Sm 17 (1 : Rat) := ⟨by decide, by decide⟩
theorem frq_two (q : Rat) : frq (2 * q) = .tup [.int ((2 * q.num).fdiv ((Nat.gcd 2 q.den : Nat) : Int)), .int ((q.den : Int).fdiv ((Nat.gcd 2 q.den : Nat) : Int))] := by
  have e : 2 * q = mkRat (2 * q.num) ((q.den : Int).toNat) := by
    rw [Int.toNat_natCast]
    conv => lhs; rhs; rw [← Rat.mkRat_self q]
    rw [show (2 : Rat) = mkRat 2 1 from by decide +kernel, Rat.mkRat_mul_mkRat, Nat.one_mul]
  rw [e, frq_mk (by have := q.den_pos; omega)]
  have g : Nat.gcd (2 * q.num).natAbs (q.den : Int).natAbs = Nat.gcd 2 q.den := by
    rw [Int.natAbs_natCast, Int.natAbs_mul]
    exact Nat.Coprime.gcd_mul_right_cancel 2 q.reduced
  rw [g]
theorem sm_two {c : Nat} {q : Rat} (h : Sm c q) : Sm (c + 1) (2 * q) := by
  have e : 2 * q = mkRat (2 * q.num) q.den := by
    conv => lhs; rhs; rw [← Rat.mkRat_self q]
    rw [show (2 : Rat) = mkRat 2 1 from by decide +kernel, Rat.mkRat_mul_mkRat, Nat.one_mul]
  rw [e]
  have e2 : (2 * q.num).natAbs < 2 ^ (c + 1) := by
    rw [Int.natAbs_mul, Nat.pow_succ]
    have := h.1
    show 2 * _ < _
    omega
  have := mk_small q.den_nz e2
  exact ⟨this.1, Nat.lt_of_le_of_lt this.2 (Nat.lt_of_lt_of_le h.2 (Nat.pow_le_pow_right (by decide) (by omega)))⟩
theorem mul_mk (q r : Rat) : q * r = mkRat (q.num * r.num) (((q.den : Int) * (r.den : Int)).toNat) := by
  rw [← Int.natCast_mul, Int.toNat_natCast, ← Rat.mkRat_mul_mkRat, Rat.mkRat_self, Rat.mkRat_self]
theorem sm_mul {c d : Nat} {q r : Rat} (h : Sm c q) (k : Sm d r) : Sm (c + d) (q * r) := by
  have e : q * r = mkRat (q.num * r.num) (q.den * r.den) := by rw [← Rat.mkRat_mul_mkRat, Rat.mkRat_self, Rat.mkRat_self]
  rw [e]
  have := mk_small (Nat.mul_ne_zero q.den_nz r.den_nz) (nbX h.1 k.1)
  exact ⟨this.1, Nat.lt_of_le_of_lt this.2 (mul_lt_pow h.2 k.2)⟩
theorem sm_neg {c : Nat} {q : Rat} (h : Sm c q) : Sm c (-q) := by
  refine ⟨?_, ?_⟩
  · rw [Rat.neg_num, Int.natAbs_neg]
    exact h.1
  · rw [Rat.neg_den]
    exact h.2
theorem frq_neg (q : Rat) : frq (-q) = .tup [.int (-q.num), .int (q.den : Int)] := by
  unfold frq
  rw [Rat.neg_num, Rat.neg_den]
theorem sumP_mul (ps : List Pq) (f : Pq → Pq) (k : Rat) (h : ∀ p ∈ ps, val (f p) = k * val p) : sumP (ps.map f) = k * sumP ps := by
  induction ps with
  | nil => simp [sumP_nil]
  | cons p ps ih =>
    rw [List.map_cons, sumP_cons, sumP_cons, ih fun q hq => h q (by simp [hq]), h p (by simp), Rat.mul_add]
theorem sumP_congr (ps : List Pq) (f : Pq → Pq) (h : ∀ p ∈ ps, val (f p) = val p) : sumP (ps.map f) = sumP ps := by
  induction ps with
  | nil => rfl
  | cons p ps ih => rw [List.map_cons, sumP_cons, sumP_cons, ih fun q hq => h q (by simp [hq]), h p (by simp)]
theorem val_one (q : Rat) : val (q, 1) = q := Rat.mul_one q
end DL
namespace DL
open PySem PySem.Spec PyProof.Rows L2
variable [TabT]

/-! ### the rules for a frame whose names are bound in a walk -/
section
variable {X : Cx} {K : PySem.W.Frag}
theorem kIx (h : X.K = K) : IxR X (rIx K) := h ▸ ix_seq
theorem kCut (h : X.K = K) : SlR X (rCut K) := h ▸ sl_cut
theorem kPlus (h : X.K = K) : OpR X (binaryOp .Add) (rPlus K) := h ▸ op_plus
theorem kTimes (h : X.K = K) : OpR X (binaryOp .Mult) (rTimesA K) := h ▸ op_timesA
theorem kEq (h : X.K = K) (hu : X.A.units + 64 < cLine) : OpR X (compareOp .Eq) (rEqA K) := h ▸ op_eqA hu
theorem kNe (h : X.K = K) (hu : X.A.units + 64 < cLine) : OpR X (compareOp .NotEq) (rNeA K) := h ▸ op_neA hu
theorem kLenA (h : X.K = K) : CallR X (.builtin "len") (rLenA K) := h ▸ (CallR.or call_len_seq call_len_str)
theorem kIsi (h : X.K = K) : CallR X (.builtin "isinstance") (rIsi K) := h ▸ call_isi
end
end DL
namespace DL
open PySem PySem.Spec PyProof.Rows L2
variable [TabT]

/-! ### errors as values -/
/-- isinstance of an error that is held as a value -/
def rIsX (K : PySem.W.Frag) : List V → Hp → VK → Prop := fun xs H Q => ∃ (a C dx : Addr) (c : V) (cv : Value) (b : Bool) (fs : List (Str × V)), xs = [.ref a, c] ∧ H a = some (ExV a C dx) ∧ H dx = some (.xd fs) ∧ ExcC K C ∧ ClsV c cv ∧ PySem.W.kitOne K (.ref C) cv = some b ∧ Q (.bl b) H
theorem exv_inst {P : Program} {w : World} {H : Hp} {h : Heap} {a C dx : Addr} {fs : List (Str × V)} (hok : HOk P w H h) (ea : H a = some (ExV a C dx)) (ed : H dx = some (.xd fs)) :
    ∃ (oe od : Obj) (mA : Str → Option Value), PySem.W.InstAt h a oe C (some od) ∧ (∀ n, PySem.W.lookIn n od = some (mA n)) ∧ ∀ n, RelO (fs.lookup n) (mA n) := by
  obtain ⟨⟨oe, vs, ho, hz, hd⟩, _, _⟩ := hok a _ ea
  obtain ⟨mA, hns, hr⟩ := (show ObjOk P w H h dx (.xd fs) from hok dx _ ed)
  obtain ⟨od, hod, hl⟩ := lookIn_ns hns
  refine ⟨oe, od, mA, ⟨ho, hz.1, ?_, ?_⟩, hl, hr⟩
  · unfold PySem.W.notCls
    rw [hd] <;> rfl
  · rw [hz.2]
    exact hod
theorem call_isX {X : Cx} : CallR X (.builtin "isinstance") (rIsX X.K) := by
  intro pins s σ H xs us Q I r h
  obtain ⟨a, C, dx, c, cv, b, fs, rfl, ea, ed, T, kc, ek, q⟩ := h
  obtain ⟨u1, u2, rfl, r1, r2⟩ := vals2 r
  obtain rfl : u2 = cv := kc.eq r2
  cases (show u1 = Value.ref a from r1)
  obtain ⟨oe, od, mA, J, _, _⟩ := exv_inst I.hok ea ed
  have hcl : (PySem.W.clsIn X.K C).isSome = true := by
    obtain ⟨cd, hc, _⟩ := PySem.W.any_some T.hd
    rw [hc]
    rfl
  exact PySem.W.kia_one (PySem.W.kitx_exc (x := a) (ox := oe) (od := some od) hcl T.hg T.hk T.hs T.ha T.hn T.ht T.hm) I.kIn J ek (fun z => nomatch z) fun tk => ⟨.bl b, H, I.tok tk, rfl, q⟩
/-- error.f -/
def tXv (K : PySem.W.Frag) (f : Str) (te : TE) : TE := fun σ H Q => te σ H fun x H1 => ∃ (a C dx : Addr) (fs : List (Str × V)) (v : V), x = .ref a ∧ H1 a = some (ExV a C dx) ∧ H1 dx = some (.xd fs) ∧ XfC K C ∧ PySem.W.findIn K (.ref C) f = some none ∧ fs.lookup f = some v ∧ Q v H1
theorem pe_xv {X : Cx} {e : Expr} {te : TE} {pos : Pos} {f : Str} (he : PE X e te) (hb : attributeBase e f X.env (eval e X.env) = eval e X.env := by rfl) : PE X (.Attribute e f pos) (tXv X.K f te) := by
  constructor
  intro pins s σ H Q I h
  refine attr_of hb (thn (he.run pins s σ H _ I h) fun u s1 hh => ?_)
  obtain ⟨x, H1, I1, rx, a, C, dx, fs, v, rfl, ea, ed, T, hno, l, q⟩ := hh
  cases (show u = Value.ref a from rx)
  obtain ⟨oe, od, mA, J, hl, hr⟩ := exv_inst I1.hok ea ed
  obtain ⟨u, hu, ru⟩ := RelO.some_of (v := v) (o := mA f) (by rw [← l]; exact hr f)
  have hf : PySem.W.findObj X.K C (some od) f = some (.value u) := PySem.W.findObj_own T.hdC hno rfl (by rw [hl, hu])
  exact HandSPX.exc_get I1.kIn J T.ga T.gg T.exC hf (handed_of ru) ⟨v, H1, I1.tok _, ru, q⟩
/-- C(e, ..) as a value, C's own __init__ keeping sp -/
def tMkV (C : Addr) (sp : Sp) (ta : TA) : TE := fun σ H Q => ta σ H fun vs H1 => vs.length ≤ 1000 ∧ ∀ a, H1 a = none → sp (.ref a :: vs) (upd H1 a (exo a C none))
  (fun v H2 => v = .non ∧ ∃ (d : Addr) (fs : List (Str × V)), H2 a = some (exo a C (some d)) ∧ H2 d = some (exd d fs) ∧ Q (.ref a) (upd (upd H2 a (ExV a C d)) d (.xd fs))) (fun _ _ _ => False)
/-- what is being made stands as an error -/
theorem inv_exv {X : Cx} {pins : List (Addr × Obj)} {σ : L2.St} {H : Hp} {s : Shared} {a C d : Addr} {fs : List (Str × V)} (I : Inv X pins σ H s) (ea : H a = some (exo a C (some d))) (ed : H d = some (exd d fs)) : Inv X pins σ (upd (upd H a (ExV a C d)) d (.xd fs)) s := by
  obtain ⟨t1, ho⟩ := exo_at I.hok ea
  obtain ⟨mA, hns, rel⟩ := exd_at I.hok ed
  have hda : d ≠ a := fun z => by
    obtain ⟨o, es, ep, e1, e2, _⟩ := hns
    rw [z, ho] at e1
    cases Option.some.inj e1
    cases e2
  have J : Inv X pins σ (upd H a (ExV a C d)) s := I.write (t' := s.toks) (h' := s.heap) (x := a) (e := a) (o := ExV a C d) (by rw [ea]; exact True.intro) (.inl rfl) (fun _ _ _ z => z) ⟨_, ho⟩
    ⟨⟨_, _, ho, ⟨rfl, rfl⟩, rfl⟩, ⟨_, ho⟩, fun h1 h2 z k => by
      obtain ⟨oe, vs, q1, q2⟩ := z
      exact ⟨oe, vs, k _ q1, q2⟩⟩
  obtain ⟨o, es, ep, e1, e2⟩ := hns
  exact J.write (t' := s.toks) (h' := s.heap) (x := d) (e := d) (o := .xd fs) (by rw [upd_ne hda, ed]; exact True.intro) (.inl rfl) (fun _ _ _ z => z) ⟨_, e1⟩ ⟨mA, ⟨o, es, ep, e1, e2⟩, rel⟩
theorem pe_mkV {X : Cx} {CX : CXT} {x : Str} {C fI : Addr} {k : Nat} {fd : FuncData} {ps : List Str} {sp : Sp} {e : Expr} {es : List Expr} {ta : TA} {p pos : Pos} (gd : X.A.guards = some []) (T : OexC X.K C) (iC : PySem.W.findIn X.K (.ref C) "__init__" = some (some (.ref fI)))
    (tI : PySem.W.typeIn X.K (.ref fI) = some (.type "function")) (F1 : FnG X.prog X.w X.K X.mg X.base CX k fI fd ps sp) (hr : Room (k + 1) X.A) (hb : Binds X.K fd ps []) (hx : Passes CX X (fun _ _ _ => False)) (hg : Gl X x) (hm : X.mg x = some (.ref C)) (ha : PA X (e :: es) ta)
    (hdb : (x == ("__debug__" : Str)) = false := by decide) (he : starEach (e :: es) X.env = (false, eval e X.env) :: starEach es X.env := by rfl) (hpl : (backTo pos (starEach es X.env)).any (·.1) = false := by rfl) : PE X (.Call (.Name x p) (e :: es) [] pos) (tMkV C sp ta) := by
  constructor
  intro pins s σ H Q I h
  obtain ⟨nm, qn, N, bs, bm, sn, sub, ab, col, dd, k0, k1, k2, k3, k5, hC, hbm⟩ := T.cls
  refine wpAny_Call_Name_kw (ld_glob I hg hm (PySem.W.callWith_K (h₀ := X.base) I.ok.mod.kin T.kC (thn (ha.run pos pins s σ H _ I h) fun us s1 hh => ?_) he hpl) hdb)
  obtain ⟨vs, H1, I1, r1, hz, q1⟩ := hh
  refine ⟨I1.kIn, ?_⟩
  show wpAny _ _ (call (.ref C) us) _ _ _
  obtain ⟨hp, g, dr, tk, os⟩ := s1
  obtain ⟨a, rfl⟩ : ∃ a, a = hp.objs.size + 1 := ⟨_, rfl⟩
  have hn : H1 (hp.objs.size + 1) = none := I1.hok.fresh (Nat.le_succ _)
  have hq := q1 _ hn
  obtain ⟨h2, eh2⟩ : ∃ h2, h2 = (hp.push (PySem.W.kdv_tup us)).push (PySem.HandSPX.excO C hp.objs.size) := ⟨_, rfl⟩
  have hget : h2.get? (hp.objs.size + 1) = some (PySem.HandSPX.excO C hp.objs.size) := by
    rw [eh2]
    heap_get
  have I2 : Inv X pins σ (upd H1 (hp.objs.size + 1) (exo (hp.objs.size + 1) C none)) ⟨h2, g, dr, tk, os⟩ := I1.laid (t' := tk) (h' := h2) (fun b o z => by
    rw [eh2]
    exact Heap.get?_push_of_some _ (Heap.get?_push_of_some _ z)) (Nat.le_succ _) (exo_ok hget)
  have r2 : Vals (V.ref (hp.objs.size + 1) :: vs) (Value.ref (hp.objs.size + 1) :: us) := .cons rfl r1
  have hl : (Value.ref (hp.objs.size + 1) :: us ++ []).length = ps.length := by
    rw [← F1.len _ _ _ _ hq, List.append_nil]
    exact r2.length.symm
  have hus : us.length ≤ sizeLine := by
    have := r1.length
    rw [sizeLine_eq]
    omega
  have bd := hb ⟨h2, g, dr, tk, os⟩ (Value.ref (hp.objs.size + 1) :: us) I2.kIn hl
  rw [List.append_nil] at bd
  have key := F1.run (X.A.under (.builtin "type.__call__" ⟨.ref C :: us, []⟩)) X.stack ⟨h2, g, dr, tk, os⟩ _ ⟨Value.ref (hp.objs.size + 1) :: us, []⟩ _ _ _ (fun _ _ _ => False) gd (hr.make C us []) (I2.env0.make C us []) bd r2 hq
  rw [eh2] at key I2
  refine wpAny_call (PySem.HandSPX.call_own F.excBase_ValueError (fun Y => PySem.HandSPX.refsVE_contains Y bm hbm) (I1.kIn _ _ hC) (PySem.W.looks_findIn I1.kIn iC) (fun self => PySem.W.bind_fn I1.kIn self tI) hus (codeAny_mono key fun r s' hq' => ?_))
  match r, hq' with
  | .error er, hq' => exact hx pins σ _ _ er s' I2 hq'
  | .ok (.ret u), hq' =>
    obtain ⟨v, H2, I3, rv, ev, d, fs, ea, ed, q2⟩ := I2.after hq'
    subst ev
    exact ⟨rv, .ref (hp.objs.size + 1), _, inv_exv I3 ea ed, rfl, q2⟩
end DL
namespace DL
open PySem PySem.Spec PyProof.Rows L2
variable [TabT]

/-! ### errors as data -/
/-- __init__(self, value): value is kept -/
def spInit (K : PySem.W.Frag) : Sp := fun vs H Q _ => ∃ (a C : Addr) (v : V), vs = [.ref a, v] ∧ OexC K C ∧ PySem.W.findIn K (.ref C) "value" = some none ∧ H a = some (exo a C none) ∧
  ∀ dx, H dx = none → dx ≠ a → Q .non (upd (upd H dx (exd dx [("value", v)])) a (exo a C (some dx)))
theorem spInit_len {K : PySem.W.Frag} (vs : List V) (H : Hp) (Q : VK) (E : XK) (h : spInit K vs H Q E) : vs.length = 2 := by
  obtain ⟨a, C, v, rfl, _⟩ := h
  rfl
theorem upd_comm {H : Hp} {a b : Addr} {o u : HO} (h : a ≠ b) : upd (upd H a o) b u = upd (upd H b u) a o := by
  funext c
  by_cases ha : c = a
  · subst ha
    rw [upd_ne h, upd_same, upd_same]
  · by_cases hb : c = b
    · subst hb
      rw [upd_same, upd_ne ha, upd_same]
    · rw [upd_ne hb, upd_ne ha, upd_ne ha, upd_ne hb]
theorem upd_upd {H : Hp} {a : Addr} {o u : HO} : upd (upd H a o) a u = upd H a u := by
  funext c
  by_cases ha : c = a
  · subst ha
    rw [upd_same, upd_same]
  · rw [upd_ne ha, upd_ne ha, upd_ne ha]
section
variable {C : Fx} {ρ : List Slot} {ta : TA} {te : TE} {K' : PySem.W.Frag} {Cl : Addr}
theorem ev_mkV {P : PD} (T : OexC C.K Cl) (hv : PySem.W.findIn C.K (.ref Cl) "value" = some none) (h : EvA C ta ρ fun ds ρ1 => ∃ d, ds = [d] ∧ P (.exc Cl d) ρ1) (hK : K' = C.K := by rfl) : Ev C (tMkV Cl (spInit K') ta) ρ P := fun σ G H Q S q => by
  subst hK
  refine h σ G H _ S fun vs ds G1 H1 ρ1 s1 p1 k1 => ?_
  obtain ⟨d, rfl, p1⟩ := p1
  obtain ⟨v, rfl, k2⟩ := k1.one
  refine ⟨Nat.le_of_ble_eq_true rfl, fun a ha => ⟨a, Cl, v, rfl, T, hv, upd_same, fun dx hdx hne => ⟨rfl, dx, [("value", v)], upd_same, by rw [upd_ne hne]; exact upd_same, ?_⟩⟩⟩
  have hd1 : H1 dx = none := by
    rw [upd_ne hne] at hdx
    exact hdx
  have e : upd (upd (upd (upd (upd H1 a (exo a Cl none)) dx (exd dx [("value", v)])) a (exo a Cl (some dx))) a (ExV a Cl dx)) dx (.xd [("value", v)]) = upd (upd H1 a (ExV a Cl dx)) dx (.xd [("value", v)]) := by
    rw [upd_upd, upd_comm (H := upd H1 a (exo a Cl none)) hne, upd_upd, upd_upd]
  rw [e]
  have x1 : Ext G1 H1 (upd G1 a (ExV a Cl dx)) (upd H1 a (ExV a Cl dx)) (fun _ => False) := Ext.new s1.st.le ha _
  have x2 : Ext (upd G1 a (ExV a Cl dx)) (upd H1 a (ExV a Cl dx)) (upd (upd G1 a (ExV a Cl dx)) dx (.xd [("value", v)])) (upd (upd H1 a (ExV a Cl dx)) dx (.xd [("value", v)])) (fun _ => False) := Ext.new x1.gh (by rw [upd_ne hne]; exact hd1) _
  refine q (.ref a) (.exc Cl d) _ _ ρ1 (s1.trans (s1.st.keep (x1.trans x2 fun _ _ _ h => h.elim))) p1 ?_
  exact .exc (by rw [upd_ne hne.symm]; exact upd_same) upd_same (k2.mono (x1.gg.trans x2.gg))
/-- error.value -/
theorem ev_xv {P : PD} (h : Ev C te ρ fun x ρ1 => ∃ Cl d, x = .exc Cl d ∧ XfC C.K Cl ∧ PySem.W.findIn C.K (.ref Cl) "value" = some none ∧ P d ρ1) (hK : K' = C.K := by rfl) : Ev C (tXv K' "value" te) ρ P := fun σ G H Q S q => by
  subst hK
  refine h σ G H _ S fun v x G1 H1 ρ1 s1 p1 k1 => ?_
  obtain ⟨Cl, d, rfl, T, hv, p1⟩ := p1
  cases k1 with
  | exc k1 k2 k3 => exact ⟨_, Cl, _, _, _, rfl, s1.st.le _ _ k1, s1.st.le _ _ k2, T, hv, rfl, q _ d G1 H1 ρ1 s1 p1 k3⟩
/-- isinstance, of data or of an error -/
abbrev rIsA (K : PySem.W.Frag) : List V → Hp → VK → Prop := fun xs H Q => rIsi K xs H Q ∨ rIsX K xs H Q
theorem call_isA {X : Cx} : CallR X (.builtin "isinstance") (rIsA X.K) := CallR.or call_isi call_isX
theorem kIsA {X : Cx} {K : PySem.W.Frag} (h : X.K = K) : CallR X (.builtin "isinstance") (rIsA K) := h ▸ call_isA
theorem rc_isX {K K' : PySem.W.Frag} {P : D → Prop} {d : D} {c : V} {cv : Value} {b : Bool} (hK : K' = K) (T : ExcC K Cl) (kc : ClsV c cv) (e : PySem.W.kitOne K (.ref Cl) cv = some b) (h : P (.bl b)) : RC1 K (rIsA K') [.exc Cl d, .val c] P := fun G H vs Q le a q => by
  subst hK
  obtain ⟨v, u, rfl, k1, k2⟩ := a.two
  cases k2
  cases k1 with
  | exc k1 k2 k3 => exact .inr ⟨_, Cl, _, c, cv, b, _, rfl, le _ _ k1, le _ _ k2, T, kc, e, q _ _ G H (Ext.refl le) h (.bl _)⟩
theorem rc_isD {K K' : PySem.W.Frag} {P : D → Prop} {x : D} {n m : String} {b : Bool} (hK : K' = K) (e : tyD x = some n) (k : kitB n m = some b) (h : P (.bl b)) : RC1 K (rIsA K') [x, .val (.ty m)] P := fun G H vs Q le a q => .inl (rc_isi e k h hK G H vs Q le a q)
/-- raise C(e) -/
theorem xs_raise {E : XK} {Z : Addr → D → Prop} {po : Po} (T : OexC C.K Cl) (hv : PySem.W.findIn C.K (.ref Cl) "value" = some none) (hE : Flies C.K C.G0 C.H0 C.F0 Z E) (h : EvA C ta ρ fun ds ρ1 => ∃ d, ds = [d] ∧ Z Cl d) (hK : K' = C.K := by rfl) :
    Xs C (fun _ σ H => tMkO Cl (spInit K') [] ta σ H fun cls d H' => E cls d H') ρ po := fun σ G H Dn S hn hr hb hc => by
  subst hK
  refine h σ G H _ S fun vs ds G1 H1 ρ1 s1 p1 k1 => ?_
  obtain ⟨d, rfl, p1⟩ := p1
  obtain ⟨v, rfl, k2⟩ := k1.one
  refine ⟨Nat.le_of_ble_eq_true rfl, fun a ha => ⟨a, Cl, v, rfl, T, hv, upd_same, fun dx hdx hne => ⟨rfl, dx, [("value", v)], upd_same, by rw [upd_ne hne]; exact upd_same, ?_, ?_⟩⟩⟩
  · rw [upd_ne hne] at hdx
    exact hdx
  have hd1 : H1 dx = none := by
    rw [upd_ne hne] at hdx
    exact hdx
  have e : upd (del (upd (upd (upd H1 a (exo a Cl none)) dx (exd dx [("value", v)])) a (exo a Cl (some dx))) a) dx (.xd [("value", v)]) = upd H1 dx (.xd [("value", v)]) := by
    funext b
    by_cases hb : b = dx
    · subst hb
      rw [upd_same, upd_same]
    · rw [upd_ne hb, upd_ne hb]
      by_cases ha' : b = a
      · subst ha'
        rw [del_same, ha]
      · rw [del_ne ha', upd_ne ha', upd_ne hb, upd_ne ha']
  rw [e]
  have x1 : Ext G1 H1 (upd G1 dx (.xd [("value", v)])) (upd H1 dx (.xd [("value", v)])) (fun _ => False) := Ext.new s1.st.le hd1 _
  exact hE Cl dx v d _ _ (s1.st.ext.trans x1 fun _ _ _ h => h.elim) upd_same (k2.mono x1.gg) p1
end
/-- C(e) as what is raised -/
theorem pmk_g {X : Cx} {CX : CXT} {x : Str} {Cl fI : Addr} {k : Nat} {fd : FuncData} {ps : List Str} {sp : Sp} {e : Expr} {es : List Expr} {ta : TA} {p pos : Pos} (gd : X.A.guards = some []) (T : OexC X.K Cl) (iC : PySem.W.findIn X.K (.ref Cl) "__init__" = some (some (.ref fI)))
    (tI : PySem.W.typeIn X.K (.ref fI) = some (.type "function")) (F1 : FnG X.prog X.w X.K X.mg X.base CX k fI fd ps sp) (hr : Room (k + 1) X.A) (hb : Binds X.K fd ps []) (hx : Passes CX X (fun _ _ _ => False)) (hg : Gl X x) (hm : X.mg x = some (.ref Cl)) (ha : PA X (e :: es) ta)
    (hdb : (x == ("__debug__" : Str)) = false := by decide) (he : starEach (e :: es) X.env = (false, eval e X.env) :: starEach es X.env := by rfl) (hpl : (backTo pos (starEach es X.env)).any (·.1) = false := by rfl) : PMk X (.Call (.Name x p) (e :: es) [] pos) (tMkO Cl sp [] ta) := by
  intro pins s σ H Q I h
  obtain ⟨nm, qn, N, bs, bm, sn, sub, ab, col, dd, k0, k1, k2, k3, k5, hC, hbm⟩ := T.cls
  refine wpAny_Call_Name_kw (ld_glob I hg hm (PySem.W.callWith_K (h₀ := X.base) I.ok.mod.kin T.kC (thn (ha.run pos pins s σ H _ I h) fun us s1 hh => ?_) he hpl) hdb)
  obtain ⟨vs, H1, I1, r1, hz, q1⟩ := hh
  refine ⟨I1.kIn, ?_⟩
  show wpAny _ _ (call (.ref Cl) us) _ _ _
  obtain ⟨hp, g, dr, tk, os⟩ := s1
  have hn : H1 (hp.objs.size + 1) = none := I1.hok.fresh (Nat.le_succ _)
  have hq := q1 _ hn
  rw [List.append_nil] at hq
  obtain ⟨h2, eh2⟩ : ∃ h2, h2 = (hp.push (PySem.W.kdv_tup us)).push (PySem.HandSPX.excO Cl hp.objs.size) := ⟨_, rfl⟩
  have kk : ∀ b o, hp.get? b = some o → h2.get? b = some o := fun b o z => by
    rw [eh2]
    exact Heap.get?_push_of_some _ (Heap.get?_push_of_some _ z)
  have hget : h2.get? (hp.objs.size + 1) = some (PySem.HandSPX.excO Cl hp.objs.size) := by
    rw [eh2]
    heap_get
  have I2 : Inv X pins σ (upd H1 (hp.objs.size + 1) (exo (hp.objs.size + 1) Cl none)) ⟨h2, g, dr, tk, os⟩ := I1.laid (t' := tk) (h' := h2) kk (Nat.le_succ _) (exo_ok hget)
  have r2 : Vals (V.ref (hp.objs.size + 1) :: vs) (Value.ref (hp.objs.size + 1) :: us) := .cons rfl r1
  have hl : (Value.ref (hp.objs.size + 1) :: us ++ []).length = ps.length := by
    rw [← F1.len _ _ _ _ hq, List.append_nil]
    exact r2.length.symm
  have hus : us.length ≤ sizeLine := by
    have := r1.length
    rw [sizeLine_eq]
    omega
  have bd := hb ⟨h2, g, dr, tk, os⟩ (Value.ref (hp.objs.size + 1) :: us) I2.kIn hl
  rw [List.append_nil] at bd
  have key := F1.run (X.A.under (.builtin "type.__call__" ⟨.ref Cl :: us, []⟩)) X.stack ⟨h2, g, dr, tk, os⟩ _ ⟨Value.ref (hp.objs.size + 1) :: us, []⟩ _ _ _ (fun _ _ _ => False) gd (hr.make Cl us []) (I2.env0.make Cl us []) bd r2 hq
  rw [eh2] at key I2 kk
  refine wpAny_call (PySem.HandSPX.call_own F.excBase_ValueError (fun Y => PySem.HandSPX.refsVE_contains Y bm hbm) (I1.kIn _ _ hC) (PySem.W.looks_findIn I1.kIn iC) (fun self => PySem.W.bind_fn I1.kIn self tI) hus (codeAny_mono key fun r s' hq' => ?_))
  match r, hq' with
  | .error er, hq' => exact hx pins σ _ _ er s' I2 hq'
  | .ok (.ret u), ⟨v, H2, os2, bare2, un2, hok2, rv, ev, d, fs, ea, ed, hd1, q2⟩ =>
    subst ev
    obtain ⟨h3, g3, d3, t3, os3⟩ := s'
    exact ⟨rv, mk_end (raises_own T.exC T.tyC) I1 (Nat.le_succ _) kk un2 hok2 os2 bare2 ea ed hd1 q2⟩
end DL
namespace DL
open PySem PySem.Spec PyProof.Rows L2
variable [TabT]

/-! ### an error that is caught and kept -/
section
variable {X : Cx} {pins : List (Addr × Obj)} {σ : L2.St} {H : Hp} {s : Shared}
/-- an object of ours that nothing tracks is tracked from now on -/
theorem inv_track {a : Addr} {o : HO} {oe : Obj} {vs : Array Value} (I : Inv X pins σ H s) (ha : s.heap.get? a = some oe) (hd : oe.data = .fields vs) (na : H a = none) (nL : a ≠ X.env.locals)
    (n0 : ∀ u, X.s_0.heap.get? a = some u → X.H_0 a = none → a ∉ X.ex → False) (np : ∀ p ∈ X.pn ++ pins, p.1 ≠ a) (new : ObjOk X.prog X.w (upd H a o) s.heap a o) : Inv X pins σ (upd H a o) s where
  ok := I.ok
  os := I.os
  bare := I.bare
  base := {
    keep := I.base.keep
    slot := I.base.slot
    free := fun b u q n hx => by
      have hb : b ≠ a := fun z => by
        subst z
        exact n0 u q n hx
      rw [upd_ne hb]
      exact I.base.free b u q n hx
    there := I.base.there
    tups := fun b xs q => by
      have h1 := I.base.tups b xs q
      rw [upd_ne (ne_of_none h1 na)]
      exact h1
    frzs := fun b u xs q => by
      have h1 := I.base.frzs b u xs q
      rw [upd_ne (ne_of_none h1 na)]
      exact h1
    tbls := fun b ps q => by
      obtain ⟨more, h1⟩ := I.base.tbls b ps q
      exact ⟨more, by rw [upd_ne (ne_of_none h1 na)]; exact h1⟩ }
  loc := I.loc
  cell := I.cell
  free := by
    rw [upd_ne nL.symm]
    exact I.free
  freeC := fun y c e => by
    obtain ⟨v, oc, hc, hv⟩ := I.cell y c e
    rw [upd_ne fun z => by
      rw [z, ha] at hc
      cases hc
      rw [hd] at hv
      cases hv]
    exact I.freeC y c e
  pin := fun p hp => by
    obtain ⟨h1, h2, h3⟩ := I.pin p hp
    exact ⟨h1, by rw [upd_ne (np p hp)]; exact h2, h3⟩
  hok := fun b u e => by
    by_cases hb : b = a
    · subst hb
      rw [upd_same] at e
      cases e
      exact new
    · rw [upd_ne hb] at e
      refine (I.hok b u e).stay (fun _ _ _ z => z) (fun c z => ?_) fun c xs z => ?_
      · rw [upd_ne (ne_of_none z na)]
        exact z
      · rw [upd_ne (ne_of_none z na)]
        exact z
  len := I.len
/-- within a suite, nothing pinned -/
theorem inv_suite {a : Addr} (I : Inv X pins σ H s) : Inv (X.suite a (X.pn ++ pins)) [] σ H s :=
  ⟨I.ok.suite _ _, I.os, I.bare, I.base, I.loc, I.cell, I.free, I.freeC, fun p hp => I.pin p (by simpa using hp), I.hok, I.len⟩
theorem inv_unsuite {a : Addr} (I : Inv (X.suite a (X.pn ++ pins)) [] σ H s) (ok : X.Ok) : Inv X pins σ H s :=
  ⟨ok, I.os, I.bare, I.base, I.loc, I.cell, I.free, I.freeC, fun p hp => I.pin p (by simpa using hp), I.hok, I.len⟩
end
/-- what 'except x as n' wishes, the error kept: slot i is n's -/
def wKeep (K : PySem.W.Frag) (c : Value) (i : Nat) (ts : TS) (Dn : Ends) : WX := fun cls d σ H =>
  ∃ C dx, cls = .ref C ∧ d = some dx ∧ PySem.W.exmOne K cls c = some true ∧ ∀ a, H a = none →
    ts { nx := fun σ' H' => Dn.nx (σ'.set i none) H', rt := Dn.rt, bk := fun σ' H' => Dn.bk (σ'.set i none) H', ct := fun σ' H' => Dn.ct (σ'.set i none) H' } (σ.set i (some (.ref a))) (upd H a (ExV a C dx))
section
variable {X : Cx} {x n : Str} {c : Value} {i : Nat} {body suite : List Stmt} {b₀ : Stmt} {np pos pos' : Pos} {tb : WX → TS} {ts : TS}
set_option maxHeartbeats 4000000 in
theorem ps_try_keep (hs : X.stack = X.env :: X.outer) (hf : X.env.frame = some X.env.locals) (hN : X.N.Nodup) (hi : X.N[i]? = some n) (hln : X.env.kindOf n = some .local) (hc : Names X x c)
    (hb : ∀ (W : WX) (pn : List (Addr × Obj)) (xe : Value → Shared → Prop), Takes (X.tr pn xe) W → PassesOwn (model X.prog X.w) X.A X.env xe → PSs (X.tr pn xe) body (tb W))
    (hsu : ∀ (a : Addr) (pn : List (Addr × Obj)), PSs (X.suite a pn) (b₀ :: suite) ts) :
    PS X (.Try body [.ExceptHandler (some (.Name x np)) (some n) (b₀ :: suite) pos'] [] [] pos) (fun Dn σ H => tb (wKeep X.K c i ts Dn) Dn σ H) := by
  constructor
  intro pins s σ H Dn I h
  have ok := I.ok
  have frm : X.A.frames = some (X.env :: X.outer) := hs ▸ ok.frames
  refine wpAny_Try_except (wpAny_mono ((hb (wKeep X.K c i ts Dn) (X.pn ++ pins) (fun e s₁ => wpAny (model X.prog X.w) X.A (noteFrame e X.env) (fun _ s₂ => wpAny (model X.prog X.w) X.A (setFlight e none) (fun _ s₃ =>
      wpAny (model X.prog X.w) X.A (handleBy e X.env [.ExceptHandler (some (.Name x np)) (some n) (b₀ :: suite) pos']) (SP X pins Dn) X.xe s₃) X.xe s₂) X.xe s₁) (fun u t hx => ?_) PassesOwn.looking).run [] s σ H Dn (I.toTry _) h) (fun f s1 hsp => ?_) (fun _ _ z => z))
  · obtain ⟨a, B, sI, pins', σ', H', cls, d, rfl, J0, nb, up, sky, na, os, ag, C, dx, rfl, rfl, hm, hyes⟩ := hx
    have J : Inv X pins σ' H' sI := J0.ofTry ok
    have sk : Sky B (X.env :: X.outer) a (Zc (.ref C) (some dx)) X.env.locals t.heap := hs ▸ sky
    refine Sky.land Zc.steady frm hf sk fun h3 f3 up3 => ?_
    have L3 : Inv X pins σ' H' { t with heap := h3 } := J.landed nb f3.1 (up.trans up3) os ag
    obtain ⟨oe3, vs3, e3, z3, d3⟩ := f3.there
    have off : a ∉ frs (X.env :: X.outer) := fun hmem => by
      obtain ⟨_, o', e', hnf⟩ := f3.2.2.1.mem hmem
      rw [e3] at e'
      cases e'
      exact hnf _ d3
    have nL : a ≠ X.env.locals := fun z => off (List.mem_filterMap.mpr ⟨X.env, List.mem_cons_self, by rw [hf, z]⟩)
    have nF : a ∉ X.fs := fun hmem => by
      obtain ⟨e, he, q⟩ := List.mem_filterMap.mp hmem
      exact off (List.mem_filterMap.mpr ⟨e, List.mem_cons_of_mem _ he, q⟩)
    have gone : ∀ u, sI.heap.get? a = some u → False := fun u q => by
      have z := nb a u q (by rw [hs]; exact off)
      rw [f3.2.1] at z
      cases z
    refine wpAny_handleBy_cons (codeAny_handlers_test ?_) (fun q => by cases q)
    have T3 := L3.suite e3 d3 na nL nF
    have LM := PySem.W.exm_one (M := model X.prog X.w) L3.kIn (fun A Q E s k q => wpAny_typeOf_ref (k _ _ e3) (by rw [z3.1]; exact q)) hm
    have look : ∀ {Q : Value → Shared → Prop} {E : Value → Shared → Prop}, Q c { t with heap := h3 } → wpAny (model X.prog X.w) (X.A.mark (some (.ref a))) (eval (.Name x np) X.env) Q E { t with heap := h3 } := by
      intro Q E q
      obtain ⟨hg, hdbg, hk⟩ := hc
      rcases hk with hk | ⟨hk, hv, hnn⟩
      · exact ld_glob (X := X.suite a ((a, oe3) :: (X.pn ++ pins))) T3 hg hk q hdbg
      · exact ld_blt (X := X.suite a ((a, oe3) :: (X.pn ++ pins))) T3 hg hk hv q hnn hdbg
    refine look (LM.here (codeAny_handlers_suite_as (HandSPX.lands_againZ f3 fun h4 f4 up4 => ?_)))
    have L4 : Inv X pins σ' H' { t with heap := h4 } := J.landed nb f4.1 ((up.trans up3).trans up4) os ag
    obtain ⟨oe4, vs4, e4, z4, d4⟩ := f4.there
    have L5 : Inv X pins σ' (upd H' a (ExV a C dx)) { t with heap := h4 } := inv_track L4 e4 d4 na nL (fun u q n hx => gone u (J.base.keep a u q n nF hx)) (fun p hp z => gone p.2 (z ▸ (J.pin p hp).1))
      ⟨⟨oe4, vs4, e4, z4, d4⟩, ⟨_, e4⟩, fun h1 h2 q k => by
        obtain ⟨o, v, q1, q2⟩ := q
        exact ⟨o, v, k _ q1, q2⟩⟩
    refine store_ok (X := X.suite a (X.pn ++ pins)) (v := .ref a) (inv_suite L5) hN hi (.inl hln) rfl (fun s5 S5 => ?_) (.inr hln)
    refine wpAny_mono ((hsu a (X.pn ++ pins)).run [] s5 _ _ _ S5 (hyes a na)) (fun f s6 hsp => ?_) (fun _ _ z => z.elim)
    have fin : ∀ {σ6 : L2.St} {H6 : Hp} {Q : Shared → Prop}, Inv (X.suite a (X.pn ++ pins)) [] σ6 H6 s6 → (∀ s7, Inv X pins (σ6.set i none) H6 s7 → Q s7) →
        wpAny (model X.prog X.w) X.A (do bindName X.env n .none; unbindBehindTheSuite X.env n pos') (fun _ s7 => Q s7) X.xe s6 := fun S6 hq => gone_ok (inv_unsuite S6 ok) hN hi hln hq
    match f, hsp with
    | .next, ⟨σ6, H6, S6, q6⟩ => exact fin S6 fun s7 J7 => ⟨_, _, J7, q6⟩
    | .brk, ⟨σ6, H6, S6, q6⟩ => exact fin S6 fun s7 J7 => ⟨_, _, J7, q6⟩
    | .cont, ⟨σ6, H6, S6, q6⟩ => exact fin S6 fun s7 J7 => ⟨_, _, J7, q6⟩
    | .ret u, ⟨v6, σ6, H6, S6, r6, q6⟩ => exact fin S6 fun s7 J7 => ⟨_, _, _, J7, r6, q6⟩
  · match f, hsp with
    | .next, ⟨σ', H', J, q⟩ => exact wpAny_execs_nil ⟨σ', H', J.ofTry ok, q⟩
    | .brk, ⟨σ', H', J, q⟩ => exact ⟨σ', H', J.ofTry ok, q⟩
    | .cont, ⟨σ', H', J, q⟩ => exact ⟨σ', H', J.ofTry ok, q⟩
    | .ret u, ⟨v, σ', H', J, r, q⟩ => exact ⟨v, σ', H', J.ofTry ok, r, q⟩
end
end DL
namespace DL
open PySem PySem.Spec PyProof.Rows L2 LamX
variable [TabT]

/-! ### a lambda handed to a def, guards and tables told -/
section
variable {X : Cx} {pins : List (Addr × Obj)} {σ : L2.St} {H HZ : Hp} {s s1 : Shared}
/-- as ExtN, and nothing that is tracked goes -/
structure ExtT (H H1 : Hp) : Prop where
  n : ExtN H H1
  th : ∀ b o, H b = some o → ∃ u, H1 b = some u
theorem lam_new {T : List (Addr × Str)} {c P : Addr} {params : Arguments} {body : Expr} {scope : Scope} {pos : Pos} {E : Value → Shared → Prop} {Q : Value → Shared → Prop} (I : Inv X pins σ H s) (B : TabB X.base X.mg c P) (hcode : X.env.code = .ref c)
    (hm : (P, X.env.qual ++ "<lambda>") ∈ T) (hu : ∀ p ∈ T, p.1 = P → p.2 = X.env.qual ++ "<lambda>") (tabs : Tabs T H) (hdef : defaultsOf params X.env = ([], [])) (hfree : ∀ y ∈ scope.names, y.2 = .free → ∃ c, X.env.cells.lookup y.1 = some c)
    (h : ∀ (f c' : Addr) (pm ctv : Value) (H1 : Hp) (s' : Shared), Inv X pins σ H1 s' → ExtT H H1 → Tabs T H1 →
      s'.heap.get? f = some (PySem.W.kla_obj "<lambda>" (X.env.qual ++ "<lambda>") params body scope (cloFrom X.env.cells scope.names []) pm c' ctv) → H1 f = none → f ∉ frs X.stack → H1 c' = some (CodeO c' (X.env.qual ++ "<lambda>")) → Q (.ref f) s') :
    wpAny (model X.prog X.w) X.A (eval (.Lambda params body scope pos) X.env) Q E s := by
  obtain ⟨ps, hP, ht, told⟩ := tabs _ hm
  have hB : s.heap.BuiltinsAt X.mg P := B.bm.keeps I.bk
  have oP : s.heap.get? P = some { cls := .none, data := .fields ps } := I.hok P _ hP
  have off : ∀ f, s.heap.objs.size ≤ f → f ∉ frs X.stack := fun f hf z => by
    rcases List.mem_cons.mp (I.stkSub _ z) with e | e
    · exact absurd (Nat.lt_of_lt_of_le (e ▸ I.lt) hf) (Nat.lt_irrefl _)
    · exact I.nofs hf e
  refine PySem.W.kla_eval hdef ?_
  cases hc : codeAmong pos ps.toList with
  | some cv =>
    obtain ⟨c', rfl, hco⟩ := told pos cv hc
    refine PySem.W.kla_makeFunctionHit (mg := X.mg) (c := c) (P := P) (ps := ps) (closure_ok hfree) I.ok.glob (I.mod.glob.keeps I.bk) hcode (B.code.keeps I.bk) oP ht hc hB fun ctv h2 tk hx hz => ?_
    exact h h2.objs.size c' _ ctv H _ (I.kept (t' := tk) fun b o e => Heap.get?_push_of_some _ (hx b o e)) ⟨ExtN.refl H, fun b o e => ⟨o, e⟩⟩ tabs (Heap.get?_push_size _ rfl) (I.hok.fresh hz) (off _ hz) hco
  | none =>
    refine PySem.W.kla_makeFunction (mg := X.mg) (c := c) (P := P) (ps := ps) (closure_ok hfree) I.ok.glob (I.mod.glob.keeps I.bk) hcode (B.code.keeps I.bk) oP ht hc B.gP hB fun c' ctv h2 tk hx hge hlt hrec htb => ?_
    obtain ⟨c2, oc, vs, t, ec, hoc, hd, hv⟩ := hrec
    cases ec
    have big : s.heap.objs.size ≤ h2.objs.size := Nat.le_trans hge (Nat.le_of_lt hlt)
    have nC : H c' = none := I.hok.fresh hge
    have J := inv_table (t' := tk) (more := #[rawInt pos.line, rawInt pos.col, .ref c']) (h' := h2.push (PySem.W.kla_obj "<lambda>" (X.env.qual ++ "<lambda>") params body scope (cloFrom X.env.cells scope.names []) ((X.mg "__name__").getD .none) c' ctv)) I hP
      (fun b o hb e => Heap.get?_push_of_some _ (hx b o hb e)) (Heap.get?_push_of_some _ htb) hge ⟨oc, vs, t, Heap.get?_push_of_some _ hoc, hd, hv⟩
    obtain ⟨H1, eH1⟩ : ∃ H1, H1 = upd (upd H P (.tbl (ps ++ #[rawInt pos.line, rawInt pos.col, .ref c']))) c' (CodeO c' (X.env.qual ++ "<lambda>")) := ⟨_, rfl⟩
    rw [← eH1] at J
    have hE : ExtN H H1 := fun b o e n => by
      have nb : b ≠ P := fun z => by
        rw [z, hP] at e
        exact n ps (Option.some.inj e).symm
      rw [eH1, upd_ne (ne_of_none e nC), upd_ne nb]
      exact e
    have atP : H1 P = some (.tbl (ps ++ #[rawInt pos.line, rawInt pos.col, .ref c'])) := by
      rw [eH1, upd_ne (ne_of_none hP nC)]
      exact upd_same
    have hT : ExtT H H1 := ⟨hE, fun b o e => by
      by_cases hb : b = P
      · exact ⟨_, hb ▸ atP⟩
      · exact ⟨o, by rw [eH1, upd_ne (ne_of_none e nC), upd_ne hb]; exact e⟩⟩
    refine h h2.objs.size c' _ ctv H1 _ J hT (fun p hp => ?_) (Heap.get?_push_size _ rfl) ?_ (off _ big) (by rw [eH1]; exact upd_same)
    · by_cases hb : p.1 = P
      · rw [hu p hp hb, hb]
        have eL : (ps ++ #[rawInt pos.line, rawInt pos.col, .ref c']).toList = ps.toList ++ [rawInt pos.line, rawInt pos.col, .ref c'] := by simp
        refine ⟨_, atP, by rw [eL]; exact PySem.TriplesOk_snoc _ _ _ _ ht, fun p' cv q => ?_⟩
        rw [eL] at q
        rcases among_app _ ht q with z | z
        · obtain ⟨c0, e1, e2⟩ := told p' cv z
          exact ⟨c0, e1, hE _ _ e2 codeO_ne⟩
        · exact ⟨c', z, by rw [eH1]; exact upd_same⟩
      · obtain ⟨qs, a1, a2, a3⟩ := tabs p hp
        refine ⟨qs, by rw [eH1, upd_ne (ne_of_none a1 nC), upd_ne hb]; exact a1, a2, fun p' cv q => ?_⟩
        obtain ⟨c0, e1, e2⟩ := a3 p' cv q
        exact ⟨c0, e1, hE _ _ e2 codeO_ne⟩
    · rw [eH1, upd_ne (Nat.ne_of_gt hlt), upd_ne (Nat.ne_of_gt (Nat.lt_of_lt_of_le (Heap.lt_size oP) big))]
      exact I.hok.fresh big
/-- x(), in the def that got the lambda -/
theorem act_g {CXg : CXT} {Eg : XK} {Ng : List Str} {qg : Str} {sg : Scope} {g f c' : Addr} {cdg pm ctv : Value} {params : Arguments} {body : Expr} {scope : Scope} {k i : Nat} {a : Str} {pn : List (Addr × Obj)} {xe : Value → Shared → Prop} {W : WX} {tb : XK → TE} {p1 p2 : Pos}
    (I : Inv X pins σ H s) (gd : X.A.guards = some []) (L : LamS X.env.scope scope) (hf : s.heap.get? f = some (PySem.W.kla_obj "<lambda>" (X.env.qual ++ "<lambda>") params body scope (cloFrom X.env.cells scope.names []) pm c' ctv)) (hfn : H f = none) (hfr : f ∉ frs X.stack)
    (hbind : bindArgs (PySem.W.kla_fn "<lambda>" (X.env.qual ++ "<lambda>") params body scope (cloFrom X.env.cells scope.names []) pm (.ref c') ctv) ⟨[], []⟩ = pure [])
    (tk : Takes ((cxOf CXg X.prog X.w X.K X.mg X.base Ng qg sg g cdg X.A X.stack s H Eg).tr pn xe) W) (hr : Room (k + 1) (X.A.deeper (envOfC qg sg s.heap.objs.size g cdg)))
    (hbody : ∀ (A : Around) (outer : List Env) (s : Shared) (H : Hp) (E : XK), A.guards = some [] → Room k (A.deeper (lamEnv X scope s.heap.objs.size f c')) → PE (lamCx X A outer s H E scope f c') body (tb E))
    (hN : Ng[i]? = some a) (hv : Vis sg a) (hd : (a == ("__debug__" : Str)) = false := by decide) (hcd : (a == ("__classdict__" : Str)) = false := by decide) :
    PE ((cxOf CXg X.prog X.w X.K X.mg X.base Ng qg sg g cdg X.A X.stack s H Eg).tr pn xe) (.Call (.Name a p1) [] [] p2)
      (fun σZ HZ Q => σZ[i]? = some (some (.ref f)) ∧ HZ c' = some (CodeO c' (X.env.qual ++ "<lambda>")) ∧ ∃ E : XK, (∀ cls d H', E cls d H' → W cls d σZ H') ∧ tb E σ HZ Q) := by
  constructor
  intro pZ sZ σZ HZ Q IZ ⟨hs, hc, E, hW, ht⟩
  have hvar := (pe_var (X := (cxOf CXg X.prog X.w X.K X.mg X.base Ng qg sg g cdg X.A X.stack s H Eg).tr pn xe) (pos := p1) (i := i) hN hv hd hcd).run pZ sZ σZ HZ (fun v H1 => v = .ref f ∧ H1 = HZ) IZ ⟨.ref f, hs, rfl, rfl⟩
  refine wpAny_Call_Name_kw (thn hvar fun u s1 hh => ?_)
  obtain ⟨v, H1, J, r1, rfl, rfl⟩ := hh
  cases (show u = Value.ref f from r1)
  have of1 : s1.heap.get? f = some (PySem.W.kla_obj "<lambda>" (X.env.qual ++ "<lambda>") params body scope (cloFrom X.env.cells scope.names []) pm c' ctv) := J.base.keep f _ hf hfn hfr (fun z => nomatch (show f ∈ ([] : List Addr) from z))
  refine PySem.W.callWith_F0 ⟨_, _, _, _, of1⟩ ?_
  have un : Un (frs X.stack) [] H H1 s.heap s1.heap := J.base
  obtain ⟨⟨oc, vs, t, hoc, hdc, hvc⟩, _, _⟩ := J.hok c' _ hc
  have key : codeAny (model X.prog X.w) (X.A.deeper (envOfC qg sg s.heap.objs.size g cdg)) (.call (.ref f) ⟨[], []⟩) (CR (L2.CX X.prog X.w) (envOfC qg sg s.heap.objs.size g cdg :: X.stack) X.prog X.w H1 s1 Q E) s1 := by
    refine PySem.W.kla_callFunE hr.depth of1 rfl L.co L.gen rfl ⟨c', oc, vs, t, rfl, hoc, hdc, hvc⟩ ?_
    rw [hbind]
    refine wpAny_pure (wpAny_newFunctionEnv (fun y hy => (L.own y hy).2) (fun y hy => absurd hy (by simp)) (fun h₁ hns hsb => ?_) L.kind)
    refine ⟨J.nolimit.fresh _ hsb, ?_⟩
    show codeAny _ _ (.expr body (lamEnv X scope s1.heap.objs.size f c')) _ _
    have stay : ∀ b o, s1.heap.get? b = some o → h₁.get? b = some o := fun b o e => hsb.extBut b o (Nat.ne_of_lt (Heap.lt_size e)) (Heap.get?_push_of_some _ e)
    have JL : Inv (lamCx X (X.A.deeper (envOfC qg sg s.heap.objs.size g cdg)) (envOfC qg sg s.heap.objs.size g cdg :: X.stack) s1 H1 E scope f c') [] σ H1 { s1 with heap := h₁, toks := s1.toks + ([] : List (Str × Value)).length } :=
      lam_start2 I L J.env0 hr.hd un hns stay
    refine PySem.W.kla_codeExpr (wpAny_mono ((hbody (X.A.deeper (envOfC qg sg s.heap.objs.size g cdg)) _ s1 H1 E gd (hr.deeper _)).run [] _ _ H1 Q JL ht) (fun v s' hq => ?_) fun _ _ hq => hq)
    obtain ⟨w', H', J', rv, q⟩ := hq
    exact ⟨w', H', J'.os, J'.bare, J'.base, J'.hok, rv, q⟩
  refine wpAny_call (codeAny_mono key fun r s' hq => ?_)
  match r, hq with
  | .error e, hq => exact tk e s' (XE.of_call J hW hq)
  | .ok (.ret u), hq => exact J.after hq
end
/-- the def that calls what it got: a calls it; TT: what it makes of the lambda's reading -/
def GivesG (X : Cx) (Ng : List Str) (x : Str) (sg : Scope) (g : Addr) (cdg : Value) (bg : List Stmt) (a : Str) (q : Str) (TT : (XK → Hp → VK → Prop) → Hp → VK → Prop) : Prop :=
  ∀ (f c' : Addr) (s : Shared) (H : Hp) (Q : VK) (tl : XK → Hp → VK → Prop),
    (∀ (W : WX) (pn : List (Addr × Obj)) (xe : Value → Shared → Prop) (p1 p2 : Pos), Takes ((cxOf C8.CX0 X.prog X.w X.K X.mg X.base Ng x sg g cdg X.A X.stack s H C8.E0).tr pn xe) W →
      PE ((cxOf C8.CX0 X.prog X.w X.K X.mg X.base Ng x sg g cdg X.A X.stack s H C8.E0).tr pn xe) (.Call (.Name a p1) [] [] p2) (fun σZ HZ Q => σZ[0]? = some (some (.ref f)) ∧ HZ c' = some (CodeO c' q) ∧ ∃ E : XK, (∀ cls d H', E cls d H' → W cls d σZ H') ∧ tl E HZ Q)) →
    H c' = some (CodeO c' q) → TT tl H Q →
    ∃ t, PSs (cxOf C8.CX0 X.prog X.w X.K X.mg X.base Ng x sg g cdg X.A X.stack s H C8.E0).nox bg t ∧ t { nx := fun _ H' => Q .non H', rt := Q } (L2.start Ng [.ref f]) H
/-- x(lambda: body) -/
def tLamG (T : List (Addr × Str)) (TT : (XK → Hp → VK → Prop) → Hp → VK → Prop) (t : XK → TE) : TE := fun σ H Q => Tabs T H ∧ ∀ H1, ExtT H H1 → Tabs T H1 → TT (fun E H' Q' => t E σ H' Q') H1 Q
section
variable {X : Cx}
theorem pe_lamG {T : List (Addr × Str)} {TT : (XK → Hp → VK → Prop) → Hp → VK → Prop} {x a : Str} {g c P : Addr} {k : Nat} {pg : Arguments} {bg : List Stmt} {sg : Scope} {dV kV doc pm cdv ct oc : Value} {an od : Option Addr} {osl : Array (Option Value)} {Ng : List Str}
    {params : Arguments} {body : Expr} {scope : Scope} {t : XK → TE} {p lpos pos : Pos} (gd : X.A.guards = some []) (hg : Gl X x) (hm : X.mg x = some (.ref g)) (hk : PySem.W.keepIn X.K (.ref g) = true)
    (lk : X.K.lookup g = some ⟨oc, od, .func (PySem.W.fnOf x x pg bg sg dV kV doc pm an cdv ct), osl⟩) (hcg : PySem.W.codeIn X.K cdv x = true) (hb : L2.Binds X.K (PySem.W.fnOf x x pg bg sg dV kV doc pm an cdv ct) [a] []) (Sg : FnScope Ng [a] sg) (hNg : Ng[0]? = some a) (hva : Vis sg a)
    (hG : GivesG X Ng x sg g cdv bg a (X.env.qual ++ "<lambda>") TT)
    (B : TabB X.base X.mg c P) (hcode : X.env.code = .ref c) (hmT : (P, X.env.qual ++ "<lambda>") ∈ T) (hu : ∀ p ∈ T, p.1 = P → p.2 = X.env.qual ++ "<lambda>") (hr : Room (k + 2) X.A) (L : LamS X.env.scope scope) (hdef : defaultsOf params X.env = ([], []))
    (hbind : ∀ (q : Str) (cl : List (Str × Addr)) (pm cv ctv : Value), bindArgs (PySem.W.kla_fn "<lambda>" q params body scope cl pm cv ctv) ⟨[], []⟩ = pure [])
    (hbody : ∀ (A : Around) (outer : List Env) (s : Shared) (H : Hp) (E : XK) (f c' : Addr), A.guards = some [] → Room k (A.deeper (lamEnv X scope s.heap.objs.size f c')) → PE (lamCx X A outer s H E scope f c') body (t E))
    (hdb : (x == ("__debug__" : Str)) = false := by decide) (hd : (a == ("__debug__" : Str)) = false := by decide) (hcd : (a == ("__classdict__" : Str)) = false := by decide) :
    PE X (.Call (.Name x p) [.Lambda params body scope lpos] [] pos) (tLamG T TT t) := by
  constructor
  intro pins s σ H Q I ⟨hT, h⟩
  refine wpAny_Call_Name_kw (ld_glob I hg hm (PySem.W.callWith_K (h₀ := X.base) I.ok.mod.kin hk ?_ (by rfl) (by rfl)) hdb)
  show wpAny _ _ (spliced ((false, eval (.Lambda params body scope lpos) X.env) :: backTo pos (starEach [] X.env))) _ _ s
  refine Calls.spliced_cons (lam_new I B hcode hmT hu hT hdef (L.has I.ok) fun f c' pm' ctv H1 s' J eN T1 hf hfn hfr hco => ?_)
  refine Calls.spliced_nil ⟨J.kIn, ?_⟩
  have key : codeAny (model X.prog X.w) X.A (.call (.ref g) ⟨[.ref f], []⟩) (CR C8.CX0 X.stack X.prog X.w H1 s' Q C8.E0) s' :=
    run_ofS (N := Ng) (ps := [a]) (us := [.ref f]) (vs := [.ref f]) lk hcg Sg hr J.env0 (hb s' [.ref f] J.kIn rfl) (.cons rfl .nil) rfl fun hr' => by
      obtain ⟨t', d', q'⟩ := hG f c' s' H1 Q (fun E H' Q' => t E σ H' Q') (fun W pn xe p1 p2 tk => act_g (i := 0) J gd L hf hfn hfr (hbind _ _ _ _ _) tk hr' (fun A outer s H E gA hr2 => hbody A outer s H E f c' gA hr2) hNg hva hd hcd) hco (h H1 eN T1)
      exact ⟨t', d'.nox, q'⟩
  refine wpAny_call (codeAny_mono key fun r s2 hq => ?_)
  match r, hq with
  | .error e, hq => exact (show False from hq).elim
  | .ok (.ret u), hq => exact J.after hq
end
end DL
namespace DL
open PySem PySem.Spec PyProof.Rows L2 LamX
variable [TabT]

/-- a reading, its end weakened -/
def tWeak (t : TE) : TE := fun σ H Q => ∃ Q' : VK, (∀ v H', Q' v H' → Q v H') ∧ t σ H Q'
theorem pe_weak {X : Cx} {e : Expr} {t : TE} (h : PE X e t) : PE X e (tWeak t) := by
  constructor
  intro pins s σ H Q I ⟨Q', hw, ht⟩
  refine wpAny_mono (h.run pins s σ H Q' I ht) (fun u s' hq => ?_) fun _ _ z => z
  obtain ⟨v, H', J, r, q⟩ := hq
  exact ⟨v, H', J, r, hw v H' q⟩
/-- caught, back = (None, None); try: back = call() except C as error: caught = error; return (caught, back) -/
def TTh (K : PySem.W.Frag) (CT : Addr) : (XK → Hp → VK → Prop) → Hp → VK → Prop := fun tl H Q => ∀ l0, H l0 = none →
  tl (fun cls d H' => ∃ C dx, cls = .ref C ∧ d = some dx ∧ PySem.W.exmOne K cls (.ref CT) = some true ∧ ∀ a, H' a = none → ∀ l, upd H' a (ExV a C dx) l = none → Q (.ref l) (upd (upd H' a (ExV a C dx)) l (.tup [.ref a, .non])))
    (upd H l0 (.tup [.non, .non])) (fun v H1 => ∀ l, H1 l = none → Q (.ref l) (upd H1 l (.tup [.non, v])))
/-! ### the same over data -/
/-- what the lambda's body makes, where it may raise: looked at from slots that are data -/
def EvL (K : PySem.W.Frag) (t : XK → TE) (ρ : List Slot) (P : D → Prop) (Z : Addr → D → Prop) : Prop := ∀ (G H : Hp) (E : XK), Flies K G H (fun _ => False) Z E → Ev ⟨K, G, H, fun _ => False⟩ (t E) ρ fun d _ => P d
/-- the slots that are data -/
def dats : List Slot → List Slot := List.map fun s => match s with
  | .dat d => .dat d
  | _ => .un
theorem dats_get {ρ : List Slot} {i : Nat} {s : Slot} (h : (dats ρ)[i]? = some s) : s = .un ∨ ∃ d, s = .dat d ∧ ρ[i]? = some (.dat d) := by
  unfold dats at h
  rw [List.getElem?_map] at h
  obtain ⟨r, hr, rfl⟩ := Option.map_eq_some_iff.mp h
  cases r with
  | dat d => exact .inr ⟨d, rfl, hr⟩
  | un => exact .inl rfl
  | own ds => exact .inl rfl
  | pot a k => exact .inl rfl
  | obj x => exact .inl rfl
theorem sg_dats {C : Fx} {G H : Hp} {σ : L2.St} {ρ : List Slot} (S : Sg C G H σ ρ) {G1 H1 : Hp} (e : Ext G H G1 H1 fun _ => False) : Sg ⟨C.K, G1, H1, fun _ => False⟩ G1 H1 σ (dats ρ) := by
  refine ⟨Ext.refl e.gh, by unfold dats; rw [List.length_map]; exact S.len, fun i s hs => ?_, fun i j a m _ => ?_⟩
  · rcases dats_get hs with rfl | ⟨d, rfl, hd⟩
    · have hl : i < σ.length := by
        rw [S.len]
        have := (List.getElem?_eq_some_iff.mp hs).1
        unfold dats at this
        rwa [List.length_map] at this
      exact ⟨σ[i], List.getElem?_eq_getElem hl, trivial⟩
    · obtain ⟨o, ho, v, e1, k⟩ := S.sl i _ hd
      exact ⟨o, ho, v, e1, k.mono e.gg⟩
  · exfalso
    obtain ⟨_, h⟩ := m
    obtain ⟨s, h, hm⟩ := h
    rcases dats_get h with z | ⟨d, z, _⟩ <;> subst z <;> cases hm
theorem ev_heard {C : Fx} {CT : Addr} {t : XK → TE} {ρ : List Slot} {P : PD} {R : D → Prop} {Z : Addr → D → Prop} {K' : PySem.W.Frag} (hT : Tabs TabT.T C.H0) (hN : NoT C.G0) (hb : EvL C.K t (dats ρ) R Z)
    (hR : ∀ d, R d → P (.tup [.non, d]) ρ) (hZ : ∀ Cl d, Z Cl d → PySem.W.exmOne C.K (.ref Cl) (.ref CT) = some true ∧ P (.tup [.exc Cl d, .non]) ρ) (hK : K' = C.K := by rfl) : Ev C (tLamG TabT.T (TTh K' CT) t) ρ P := fun σ G H Q S q => by
  subst hK
  refine ⟨S.ext.tt hT, fun H1 eT T1 l0 hl0 => ?_⟩
  have x1 : Ext G H G H1 (fun _ => False) := ⟨Same.refl G, fun b o e => eT.n b o (S.le b o e) fun ps z => S.ext.nt hN b ps (z ▸ e), fun b o e n _ => eT.n b o e n, fun _ _ _ g _ => g, eT.th, fun _ => T1, fun g => g⟩
  have x2 : Ext G H1 (upd G l0 (.tup [.non, .non])) (upd H1 l0 (.tup [.non, .non])) (fun _ => False) := Ext.new x1.gh hl0 _
  have x := x1.trans x2 fun _ _ _ z => z.elim
  have S2 := sg_dats S x
  refine hb _ _ _ (fun Cl dx v d G' H' e hg k hz => ?_) σ _ _ _ S2 fun v d G' H' ρ' s r k l hl => ?_
  · obtain ⟨em, p⟩ := hZ Cl d hz
    refine ⟨Cl, dx, rfl, rfl, em, fun a ha l hl => ?_⟩
    have y1 : Ext G' H' (upd G' a (ExV a Cl dx)) (upd H' a (ExV a Cl dx)) (fun _ => False) := Ext.new e.gh ha _
    have y2 : Ext (upd G' a (ExV a Cl dx)) (upd H' a (ExV a Cl dx)) (upd (upd G' a (ExV a Cl dx)) l (.tup [.ref a, .non])) (upd (upd H' a (ExV a Cl dx)) l (.tup [.ref a, .non])) (fun _ => False) := Ext.new y1.gh hl _
    have y := (x.trans e fun _ _ _ z => z.elim).trans (y1.trans y2 fun _ _ _ z => z.elim) fun _ _ _ z => z.elim
    refine q (.ref l) (.tup [.exc Cl d, .non]) _ _ ρ (S.keep y) p (.tup (.inl (.inl upd_same)) (.cons ?_ (.cons .non .nil)))
    exact Is.mono y2.gg (.exc upd_same (y1.gg _ _ hg) (k.mono y1.gg))
  · have e := s.st.ext
    have y1 : Ext G' H' (upd G' l (.tup [.non, v])) (upd H' l (.tup [.non, v])) (fun _ => False) := Ext.new e.gh hl _
    have y := (x.trans e fun _ _ _ z => z.elim).trans y1 fun _ _ _ z => z.elim
    exact q (.ref l) (.tup [.non, d]) _ _ ρ (S.keep y) (hR d r) (.tup (.inl (.inl upd_same)) (.cons .non (.cons (k.mono y1.gg) .nil)))
end DL
namespace DL
open PySem PySem.Spec PyProof.Rows L2 LamX
variable [TabT]
/-! ### the law's own call, with tables of code objects -/
/-- the heap at the law's call: the script, unless it is written, and the tables -/
def tbH (K : PySem.W.Frag) (ts : List Addr) (a : Addr) (o : Obj) (xs : List V) : Hp := fun b => if b ∈ ts then some (.tbl #[]) else scH K a o xs b
theorem tbH_some {K : PySem.W.Frag} {ts : List Addr} {a b : Addr} {o : Obj} {xs : List V} {u : HO} (h : tbH K ts a o xs b = some u) : (b ∈ ts ∧ u = .tbl #[]) ∨ (b ∉ ts ∧ b = a ∧ K.lookup a = none ∧ u = .frz o (.lst xs)) := by
  unfold tbH at h
  by_cases c : b ∈ ts
  · rw [if_pos c] at h
    exact .inl ⟨c, (Option.some.inj h).symm⟩
  · rw [if_neg c] at h
    exact .inr ⟨c, scH_some h⟩
theorem law_gT {P : Program} {w : World} {K : PySem.W.Frag} {mg mb : Str → Option Value} {CX : CXT} {k : Nat} {fa a : Addr} {cs : List (Addr × Addr)} {fd : FuncData} {x : Str} {sp : Sp} {s₁ : Shared} {vs : List Value} {ns : List Int}
    (KX : K.In s₁.heap) (hns : s₁.heap.Ns mainGlobals mg) (hb : s₁.heap.Ns builtinsNs mb) (hbb : ∀ x : Str, x ≠ "__name__" → mb x = bootBuiltins x) (hlim : s₁.heap.NoLimit) (hg : s₁.gens = #[])
    (tabs : ∀ p ∈ cs, s₁.heap.get? p.2 = some { cls := .none, data := .fields #[] }) (notK : ∀ p ∈ cs, K.lookup p.2 = none) (code : ∀ p ∈ cs, PySem.W.CodeHd s₁.heap p.1 p.2)
    (hbm : ∃ (bm : Addr) (ob : Obj), mg "__builtins__" = some (.ref bm) ∧ bm ≠ builtinsNs ∧ s₁.heap.get? bm = some ob ∧ ob.cls = .type "module" ∧ ob.dict = some builtinsNs ∧ ob.data = .plain)
    (ha : s₁.heap.get? a = some { cls := .type "list", data := .seq vs.toArray }) (hi : IntsAre vs ns) (hl : ns.length ≤ sizeLine) (hr : Room k callerA)
    (F : ∀ base : Heap, K.In base → base.Ns mainGlobals mg → (∀ p ∈ cs, TabB base mg p.1 p.2) → FnG P w K mg base CX k fa fd [x] sp) (hbind : ∀ (s : Shared) (u : Value), BindsTo s fd ⟨[u], []⟩ [(x, u)])
    (hsp : ∀ H : Hp, (∀ p ∈ cs, H p.2 = some (.tbl #[])) → SqL K H a (ns.map V.int) → sp [.ref a] H (fun v _ => v = .bl true) fun _ _ _ => False)
    (hCX : ∀ H e s', CX [] H s₁ (fun _ _ _ => False) e s' → False) :
    codeAny (model P w) callerA (.call (.ref fa) ⟨[.ref a], []⟩) (fun r s' => r = .ok (.ret (.bool true)) ∧ OldK s₁.heap s'.heap ∧ s'.os = s₁.os ∧ AllBare s'.gens) s₁ := by
  have rv := vals_ints hi
  obtain ⟨ts, ets⟩ : ∃ ts, ts = cs.map (·.2) := ⟨_, rfl⟩
  have inT : ∀ p ∈ cs, p.2 ∈ ts := fun p hp => ets ▸ List.mem_map.mpr ⟨p, hp, rfl⟩
  have ofT : ∀ b ∈ ts, ∃ p ∈ cs, p.2 = b := fun b hb => List.mem_map.mp (ets ▸ hb)
  obtain ⟨H, hH⟩ : ∃ H, H = tbH K ts a { cls := .type "list", data := .seq vs.toArray } (ns.map V.int) := ⟨_, rfl⟩
  have some_ : ∀ {b : Addr} {u : HO}, H b = some u → (b ∈ ts ∧ u = .tbl #[]) ∨ (b ∉ ts ∧ b = a ∧ K.lookup a = none ∧ u = .frz { cls := .type "list", data := .seq vs.toArray } (.lst (ns.map V.int))) := fun e => tbH_some (hH ▸ e)
  have atT : ∀ b ∈ ts, H b = some (.tbl #[]) := fun b hb => by
    rw [hH]
    exact if_pos hb
  have getT : ∀ b ∈ ts, s₁.heap.get? b = some { cls := .none, data := .fields #[] } := fun b hb => by
    obtain ⟨p, hp, rfl⟩ := ofT b hb
    exact tabs p hp
  have aT : a ∉ ts := fun z => by
    have q := getT a z
    rw [ha] at q
    exact nomatch (show Data.seq vs.toArray _ = Data.fields #[] from congrArg Obj.data (Option.some.inj q))
  have hok : HOk P w H s₁.heap := fun b u e => by
    rcases some_ e with ⟨hb, rfl⟩ | ⟨_, rfl, _, rfl⟩
    · exact getT b hb
    · exact ⟨ha, by rw [List.length_map]; exact hl, vs, _, rv, ha⟩
  have hS : SqL K H a (ns.map V.int) := by
    cases hk : K.lookup a with
    | some o =>
      have e := KX a o hk
      rw [ha] at e
      cases e
      exact .inr ⟨_, vs.toArray, _, hk, rfl, rfl, rfl, by rw [List.size_toArray, hi.length]; exact hl, by simpa using rv⟩
    | none =>
      refine .inl (.inr ⟨{ cls := .type "list", data := .seq vs.toArray }, ?_⟩)
      rw [hH]
      unfold tbH
      rw [if_neg aT]
      exact if_pos ⟨rfl, hk⟩
  -- what is neither a sequence nor a table is not tracked
  have free : ∀ {b : Addr} {o : Obj}, s₁.heap.get? b = some o → (∀ us n, o.data ≠ .seq us n) → o.data ≠ .fields #[] → H b = none := fun {b o} e n1 n2 => by
    cases q : H b with
    | none => rfl
    | some u =>
      rcases some_ q with ⟨hb, _⟩ | ⟨_, rfl, _, _⟩
      · rw [getT b hb] at e
        cases e
        exact (n2 rfl).elim
      · rw [ha] at e
        cases e
        exact (n1 _ _ rfl).elim
  have dictFree : ∀ {b : Addr} {o : Obj} {es : Array DictEntry} {ep : Nat}, s₁.heap.get? b = some o → o.data = .dict es ep → H b = none := fun e d => free e (fun us n z => by rw [d] at z; cases z) (fun z => by rw [d] at z; cases z)
  have nsB : ∀ {b : Addr} {m : Str → Option Value}, s₁.heap.Ns b m → (hidT s₁.heap H).Ns b m := fun ⟨o, es, ep, e, d, r⟩ => ⟨o, es, ep, hidT_get e (dictFree e d), d, r⟩
  have inB : K.In (hidT s₁.heap H) := fun b o e => hidT_get (KX b o e) (by
    cases q : H b with
    | none => rfl
    | some u =>
      rcases some_ q with ⟨hb, _⟩ | ⟨_, rfl, n, _⟩
      · obtain ⟨p, hp, rfl⟩ := ofT b hb
        rw [notK p hp] at e
        cases e
      · rw [n] at e
        cases e)
  have mod : Mod K mg (hidT s₁.heap H) := ⟨inB, nsB hns, ⟨mb, nsB hb, hbb⟩, let ⟨mc, h1, h2⟩ := hlim; ⟨mc, nsB h1, h2⟩⟩
  have none_ : ∀ {b : Addr} {P : Prop}, b ∈ ([] : List Addr) → P := fun h => absurd h (by simp)
  have tb : ∀ p ∈ cs, TabB (hidT s₁.heap H) mg p.1 p.2 := fun p hp => by
    have hp2 := tabs p hp
    refine ⟨?_, ?_, fun z => ?_⟩
    · obtain ⟨o, us, file, tf, flags, tg, inF, text, tt, e1, c1, c2, c3, rest⟩ := code p hp
      refine ⟨o, us, file, tf, flags, tg, inF, text, tt, hidT_get e1 (free e1 (fun us' n z => ?_) fun z => ?_), c1, c2, c3, rest⟩
      · rw [c2] at z
        cases z
      · rw [c2] at z
        cases z
        simp at c3
    · obtain ⟨bm, ob, b1, b2, b3, b4, b5, b6⟩ := hbm
      refine ⟨bm, ob, b1, b2, fun z => ?_, fun z => ?_, hidT_get b3 (free b3 (fun us n z => ?_) fun z => ?_), b4, b5, b6⟩
      · obtain ⟨o, es, ep, e, d, _⟩ := hns
        rw [z, e] at b3
        cases b3
        rw [d] at b6
        cases b6
      · rw [z, hp2] at b3
        cases b3
        cases b6
      · rw [b6] at z
        cases z
      · rw [b6] at z
        cases z
    · obtain ⟨o, es, ep, e, d, _⟩ := hns
      rw [z, hp2] at e
      cases e
      cases d
  have e0 : Env0 P w K mg (hidT s₁.heap H) callerA [] s₁ H := ⟨rfl, mod, fun b o e => of_hidT e, Nat.le_of_eq (hidT_size _ _), trivial, fun b h => none_ h, hok, .of_eq hg⟩
  refine codeAny_mono ((F _ inB (nsB hns) tb).run callerA [] s₁ H ⟨[.ref a], []⟩ [.ref a] [.ref a] _ _ rfl hr e0 (hbind s₁ (.ref a)) (.cons rfl .nil) (hsp H (fun p hp => atT _ (inT p hp)) hS)) fun r s' h => ?_
  match r, h with
  | .error e, h => exact (hCX H e s' h).elim
  | .ok (.ret u), ⟨v, H', os, bare, un, hok', r', q⟩ =>
    have q' : v = .bl true := q
    subst q'
    obtain rfl : u = Value.bool true := r'
    have same : ∀ b o, b ∉ ts → s₁.heap.get? b = some o → s'.heap.get? b = some o := fun b o nb e => by
      cases q : H b with
      | none => exact un.keep b o e q (fun z => none_ z) (fun z => none_ z)
      | some u =>
        rcases some_ q with ⟨hb, _⟩ | ⟨_, rfl, _, rfl⟩
        · exact absurd hb nb
        · have e1 := (hok b _ q).1
          have e2 := (hok' b _ (un.frzs b _ _ q)).1
          rw [e] at e1
          cases e1
          exact e2
    have grown : ∀ p ∈ cs, ∃ more : Array Value, s'.heap.get? p.2 = some { cls := .none, data := .fields more } := fun p hp => by
      obtain ⟨more, z⟩ := un.tbls p.2 #[] (atT _ (inT p hp))
      exact ⟨_, hok' p.2 _ z⟩
    refine ⟨rfl, ⟨fun b o e => ?_, fun b o e => ?_⟩, os, bare⟩
    · by_cases hb : b ∈ ts
      · obtain ⟨p, hp, rfl⟩ := ofT b hb
        obtain ⟨more, hm⟩ := grown p hp
        rw [tabs p hp] at e
        cases e
        exact .inr (.inl ⟨((code p hp).tab (tabs p hp)).isCodeTable, rfl, #[], more, rfl, by rw [Array.empty_append]; exact hm⟩)
      · exact .inl (same b o hb e)
    · by_cases hb : b ∈ ts
      · obtain ⟨p, hp, rfl⟩ := ofT b hb
        obtain ⟨more, hm⟩ := grown p hp
        exact ⟨_, hm⟩
      · exact ⟨o, same b o hb e⟩
/-- the goal behind k_head, from the promise of the law's def, with tables -/
theorem walk_gT {l : PySem.W.OpenLaw} {n k : Nat} {q : Program} {loose : List Str} {XP : (Str → Option Value) → Heap → Prop} {YP : World → Heap → Prop} {d : DefRec} {K : Params → PySem.W.Frag} {CX : World → CXT} {x : Str}
    (hn : l.most = some n) (hn2 : n ≤ sizeLine) (hdf : d.params.defaults = []) (hr : Room k callerA)
    (hY : ∀ (w : World) (h : Heap), YP w h → (K w.params).In h)
    (F : ∀ (w : World) (mg : Str → Option Value) (fa : Addr) (h : Heap), YP w h → (K w.params).In h → h.Ns mainGlobals mg → mg d.name = some (.ref fa) →
      ∃ (fd : FuncData) (cs : List (Addr × Addr)) (sp : Sp), (∀ p ∈ cs, h.get? p.2 = some { cls := .none, data := .fields #[] }) ∧ (∀ p ∈ cs, (K w.params).lookup p.2 = none) ∧ (∀ p ∈ cs, PySem.W.CodeHd h p.1 p.2) ∧ (∀ (s : Shared) (u : Value), BindsTo s fd ⟨[u], []⟩ [(x, u)]) ∧
        (∀ (H : Hp) (a : Addr) (ns : List Int), ns.length ≤ n → (∀ p ∈ cs, H p.2 = some (.tbl #[])) → SqL (K w.params) H a (ns.map V.int) → sp [.ref a] H (fun v _ => v = .bl true) fun _ _ _ => False) ∧
        ∀ base : Heap, (K w.params).In base → base.Ns mainGlobals mg → (∀ p ∈ cs, TabB base mg p.1 p.2) → FnG l.prog w (K w.params) mg base (CX w) k fa fd [x] sp)
    (hCX : ∀ (w : World) (H : Hp) (s : Shared) (e : Value) (s' : Shared), CX w [] H s (fun _ _ _ => False) e s' → False) :
    PySem.W.WalkO q loose XP YP l.row.toRowW d [] (fun f vs => PySem.call f vs) :=
  Att.attach_callB hn hdf fun w s₀ s₁ mg mb fa o pm cd doc a vs ns G Y ho hd hcd hmg hobj hints hlen hbits hg =>
    let ⟨fd, cs, sp, h1, h2, h3, hb, hs, hF⟩ := F w mg fa _ Y (hY w _ Y) G.T.g hmg
    law_gT (hY w _ Y) G.T.g G.T.b G.T.builtins G.T.nolimit hg h1 h2 h3 G.T.bmain hobj hints (Nat.le_trans hlen hn2) hr hF hb (fun H hH hS => hs H a ns hlen hH hS) fun H e s' => hCX w H s₁ e s'
end DL
namespace DL
open PySem PySem.Spec PyProof.Rows L2 LamX
variable [TabT]

/-! ### dicts of plain values: made, shown -/
def scalV : V → Option PyData
  | .non => some .none
  | .bl b => some (.bool b)
  | .int i => some (.int i)
  | .str x => some (.str x)
  | _ => none
def keyP : Key → PyData
  | .inl i => .int i
  | .inr x => .str x
theorem scal_reads {h : Heap} {v : V} {u : Value} {p : PyData} (e : scalV v = some p) (r : RelV v u) : Reads h u p [] := by
  cases v with
  | non =>
    cases e
    cases (show u = Value.none from r)
    exact .none
  | bl b =>
    cases e
    cases (show u = Value.bool b from r)
    exact .bool b
  | int i =>
    cases e
    obtain ⟨t, rfl⟩ := (show ∃ t, u = Value.int i t from r)
    exact .int i t
  | str x =>
    cases e
    obtain ⟨t, rfl⟩ := (show ∃ t, u = Value.str x t from r)
    exact .str x t
  | _ => cases e
/-- the items of a dict, as they are shown -/
inductive KvP : List (Key × V) → List (PyData × PyData) → Prop
  | nil : KvP [] []
  | cons {k : Key} {v : V} {p : PyData} {kvs : List (Key × V)} {ps : List (PyData × PyData)} : scalV v = some p → KvP kvs ps → KvP ((k, v) :: kvs) ((keyP k, p) :: ps)
theorem kvp_reads {P : Program} {w : World} {h : Heap} : ∀ {kvs : List (Key × V)} {ps : List (PyData × PyData)} {vs : List (Key × Value)} {es : List DictEntry}, KvP kvs ps → KV kvs vs → Pairs (mixKind P w) es vs →
    ReadsAll h (es.map (·.key)) (ps.map (·.1)) [] ∧ ReadsAll h (es.map (·.val)) (ps.map (·.2)) []
  | _, _, _, _, .nil, .nil, .nil => ⟨.nil, .nil⟩
  | _, _, _, _, .cons (k := k) (p := p) e t, .cons r t', .cons (e := en) hk hv t'' => by
    obtain ⟨h1, h2⟩ := kvp_reads t t' t''
    obtain ⟨r1, r2⟩ := r
    refine ⟨.cons (as := []) ?_ h1, .cons (as := []) (show Reads h en.val p [] by rw [hv]; exact scal_reads e r2) h2⟩
    show Reads h en.key (keyP k) []
    rw [← r1] at hk
    rcases keyIs_shape hk with ⟨i, t, e1, e2⟩ | ⟨x, t, e1, e2⟩
    · rw [e2]
      cases e1
      exact .int i t
    · rw [e2]
      cases e1
      exact .str x t
/-- repr of such a dict -/
def rReprD (K : PySem.W.Frag) : List V → Hp → VK → Prop := fun xs H Q => ∃ a kvs ps, xs = [.ref a] ∧ H a = some (.dK kvs) ∧ KvP kvs ps ∧ (PyData.dict ps).showable = true ∧ (PyData.dict ps).shown.length ≤ 100000 ∧ (PyData.dict ps).depth ≤ 60 ∧ Q (.str (PyData.dict ps).shown) H
theorem call_reprD {X : Cx} (gd : X.A.guards = some []) (hu : X.A.units + 64 < cLine) : CallR X (.builtin "repr") (rReprD X.K) := by
  intro pins s σ H xs us Q I r h
  obtain ⟨a, kvs, ps, rfl, ha, kp, hs, hz, hd, q⟩ := h
  have sz : (PyData.dict ps).shown.length ≤ sizeLine := Nat.le_trans hz (by decide)
  obtain ⟨u, rfl, r1⟩ : ∃ u, us = [u] ∧ RelV (.ref a) u := by
    cases r with
    | cons r rr =>
      cases rr
      exact ⟨_, rfl, r⟩
  cases (show u = Value.ref a from r1)
  obtain ⟨_, hsys, vs, kv, o, es, ep, ho, hx, hd2, _, pr, _⟩ := (show ObjOk X.prog X.w H s.heap a (.dK kvs) from I.hok a _ ha)
  obtain ⟨r1, r2⟩ := kvp_reads (h := s.heap) kp kv pr
  have hr : Reads s.heap (.ref a) (.dict ps) (a :: [] ++ []) := .dict ho hx.1 hd2 r1 r2
  refine repr_of_reads' hr hs (fun _ hm => ?_) gd (by omega) (fun _ _ e => e) (fun h' w tk hk => ⟨.str _, H, I.kept (t' := tk) hk, ⟨_, rfl⟩, q⟩) sz
  have : sysModules = a := by simpa using hm
  rw [this] at hsys
  simp at hsys
abbrev rReprA (K : PySem.W.Frag) : List V → Hp → VK → Prop := fun xs H Q => rRepr K xs H Q ∨ rReprD K xs H Q
theorem call_reprA {X : Cx} (gd : X.A.guards = some []) (hu : X.A.units + 64 < cLine) : CallR X (.builtin "repr") (rReprA X.K) := CallR.or (call_repr gd hu) (call_reprD gd hu)
/-! ### over data -/
section
variable {C : Fx} {ρ : List Slot}
theorem ev_dnew {P : PD} (h : P (.dic []) ρ) : Ev C tDNewK ρ P := fun σ G H Q S q p hp =>
  q (.ref p) (.dic []) _ _ ρ (S.keep (Ext.new S.le hp _)) h (.dic upd_same .nil)
theorem ev_disp1 {P : PD} {k : Str} {i : Int} (h : P (.dic [(.inr k, .int i)]) ρ) : Ev C (tDisp [(tC (.str k), tC (.int i))]) ρ P := fun σ G H Q S q p hp => by
  refine ⟨upd_same, [(.inr k, .int i)], rfl, Nat.le_of_ble_eq_true rfl, ?_⟩
  rw [upd_upd]
  exact q (.ref p) (.dic [(.inr k, .int i)]) _ _ ρ (S.keep (Ext.new S.le hp _)) h (.dic upd_same (.cons (.int i) .nil))
end
/-- what repr shows of a value -/
inductive Shows : D → Str → Prop
  | py {d : D} {p : PyData} : d.py = some p → p.showable = true → p.hasDict = false → p.shown.length ≤ sizeLine → p.depth ≤ 60 → Shows d p.shown
  | d0 : Shows (.dic []) (PyData.dict []).shown
  | d1 {k : Str} {i : Int} : (PyData.dict [(.str k, .int i)]).showable = true → (PyData.dict [(.str k, .int i)]).shown.length ≤ 100000 → Shows (.dic [(.inr k, .int i)]) (PyData.dict [(.str k, .int i)]).shown
theorem rc_reprA {K K' : PySem.W.Frag} {P : D → Prop} {d : D} {x : Str} (hK : K' = K) (h : Shows d x) (p : P (.str x)) : RC1 K (rReprA K') [d] P := fun G H vs Q le a q => by
  subst hK
  cases h with
  | py h1 h2 h3 h4 h5 => exact .inl (rc_repr h1 h2 h3 h4 h5 p rfl G H vs Q le a q)
  | d0 =>
    obtain ⟨v, rfl, k⟩ := a.one
    cases k with
    | dic k1 k2 =>
      cases k2
      exact .inr ⟨_, [], [], rfl, le _ _ k1, .nil, rfl, by decide +kernel, by decide +kernel, q _ _ G H (Ext.refl le) p (.str _)⟩
  | d1 h1 h2 =>
    obtain ⟨v, rfl, k⟩ := a.one
    cases k with
    | dic k1 k2 =>
      cases k2 with
      | cons c1 c2 =>
        cases c1
        cases c2
        exact .inr ⟨_, _, _, rfl, le _ _ k1, .cons rfl .nil, h1, h2, by simp [PyData.depth, PyData.depthKv, keyP], q _ _ G H (Ext.refl le) p (.str _)⟩
end DL
namespace DL
open PySem PySem.Spec PyProof.Rows L2 LamX
variable [TabT]
section
variable {C : Fx} {ρ : List Slot} {ta tb tc : TE} {r r' : R2}
/-- a op b op c -/
theorem ev_chain {P : PD} (h : Ev C ta ρ fun x ρ1 => Ev C tb ρ1 fun y ρ2 => RD C.K r x y fun z => ∃ k, z = .bl k ∧ (k = true → Ev C tc ρ2 fun c ρ3 => RD C.K r' y c fun d => P d ρ3) ∧ (k = false → P (.bl false) ρ2)) : Ev C (tChain r r' ta tb tc) ρ P := fun σ G H Q S q => by
  refine h σ G H _ S fun v x G1 H1 ρ1 s1 p1 k1 => p1 σ G1 H1 _ s1.st fun u y G2 H2 ρ2 s2 p2 k2 => ?_
  refine p2 G2 H2 v u _ s2.st.le (k1.mono s2.ext.gg) k2 fun z d G3 H3 e3 pz kz => ?_
  obtain ⟨b, rfl, ht, hf⟩ := pz
  cases kz
  have s3 := s2.st.keep e3
  refine ⟨b, rfl, ?_⟩
  cases b with
  | true => exact ht rfl σ G3 H3 _ s3.st fun w c G4 H4 ρ3 s4 p4 k4 => p4 G4 H4 u w _ s4.st.le ((k2.mono e3.gg).mono s4.ext.gg) k4 fun z' d' G5 H5 e5 pd kd => q z' d' G5 H5 ρ3 ((((s1.trans s2).trans s3).trans s4).trans (s4.st.keep e5)) pd kd
  | false => exact q _ _ G3 H3 ρ2 ((s1.trans s2).trans s3) (hf rfl) (.bl _)
end
/-- a def that may raise, where it doesn't -/
theorem passN {X : Cx} : Passes (L2.CX X.prog X.w) X (fun _ _ _ => False) := fun _ _ _ _ _ _ _ h => by
  obtain ⟨_, _, _, _, _, _, _, _, _, _, _, _, z⟩ := h
  exact z.elim
/-! ### defs that make lambdas: the tables stand -/
def spPT (K : PySem.W.Frag) (f : FP) : Sp := fun vs H Q E => Tabs TabT.T H ∧ ∃ a ws G ds k R Z, vs = .ref a :: ws ∧ NoT G ∧ Same G H ∧ G a = none ∧ PotAt H a k ∧ IsL K G ws ds ∧ f k ds R Z ∧
  (∀ v d k' G' H', Ext G H G' H' (fun b => b = a) → G' a = none → PotAt H' a k' → Is K G' v d → R d k' → Q v H') ∧ Flies K G H (fun b => b = a) Z E
theorem spPT_len {K : PySem.W.Frag} {f : FP} {n : Nat} (h : ∀ k ds R Z, f k ds R Z → ds.length + 1 = n) : ∀ vs H Q E, spPT K f vs H Q E → vs.length = n := fun vs H Q E ⟨_, a, ws, G, ds, k, R, Z, e, _, _, _, _, kk, hf, _⟩ => by
  rw [e, List.length_cons, kk.length]
  exact h k ds R Z hf
theorem ev_callPT {C : Fx} {ρ : List Slot} {ta : TA} {P : PD} {E : XK} {Z : Addr → D → Prop} {K' : PySem.W.Frag} {f : FP} {i : Nat} {dvs : List V} {es : List D} (hT : Tabs TabT.T C.H0) (hN : NoT C.G0) (hE : Flies C.K C.G0 C.H0 C.F0 Z E) (hd : ∀ G, IsL C.K G dvs es) (hi : ∃ a k, ρ[i]? = some (.pot a k))
    (h : EvA C ta ρ fun ds ρ1 => ∃ a k, ρ1[i]? = some (.pot a k) ∧ f k (ds ++ es) (fun d k' => P d (ρ1.set i (.pot a k'))) Z) (hK : K' = C.K := by rfl) : Ev C (tCall (spPT K' f) dvs E (tCons (tVar i) ta)) ρ P := fun σ G H Q S q => by
  subst hK
  obtain ⟨a0, k0, hi⟩ := hi
  obtain ⟨o, ho, rfl, _⟩ := S.sl i _ hi
  refine ⟨_, ho, h σ G H _ S fun vs ds G1 H1 ρ1 s1 p1 k1 => ?_⟩
  obtain ⟨a, k, e1, p1⟩ := p1
  obtain ⟨o, ho2, rfl, g1, g2, g3⟩ := s1.st.sl i _ e1
  rw [ho] at ho2
  cases ho2
  refine ⟨s1.st.ext.tt hT, a0, vs ++ dvs, G1, ds ++ es, k, _, Z, rfl, s1.st.ext.nt hN, s1.st.le, g1, g2, k1.append (hd G1), p1, fun v d k' G' H' e g p kd r => q v d G' H' _ (s1.trans (s1.st.drew e1 e g p)) r kd, fun X dx v d G' H' e g kk z => ?_⟩
  refine hE X dx v d G' H' (s1.st.ext.trans e fun x u hx hf => ?_) g kk z
  subst hf
  rcases g3 with g3 | g3
  · exact g3
  · rw [g3] at hx
    cases hx
def spDT (K : PySem.W.Frag) (f : FS) : Sp := fun vs H Q E => Tabs TabT.T H ∧ ∃ G ds R Z, NoT G ∧ Same G H ∧ IsL K G vs ds ∧ f ds R Z ∧ (∀ v d G' H', Ext G H G' H' (fun _ => False) → Is K G' v d → R d → Q v H') ∧ Flies K G H (fun _ => False) Z E
theorem spDT_len {K : PySem.W.Frag} {f : FS} {n : Nat} (h : ∀ ds R Z, f ds R Z → ds.length = n) : ∀ vs H Q E, spDT K f vs H Q E → vs.length = n := fun vs H Q E ⟨_, G, ds, R, Z, _, _, k, hf, _⟩ => by
  rw [k.length]
  exact h ds R Z hf
/-! ### == and != of lists of other lengths -/
def rEqL (b : Bool) : R2 := fun x y H Q => ∃ a c xs ys, x = .ref a ∧ y = .ref c ∧ H a = some (.lst xs) ∧ H c = some (.lst ys) ∧ xs.length ≠ ys.length ∧ Q (.bl b) H
theorem lst_is {P : Program} {w : World} {H : Hp} {h : Heap} {a : Addr} {xs : List V} (hok : HOk P w H h) (e : H a = some (.lst xs)) : ∃ its : List Value, h.IsList a its.toArray ∧ its.length = xs.length := by
  obtain ⟨_, its, n, rv, ho⟩ := (show ObjOk P w H h a (.lst xs) from hok a _ e)
  exact ⟨its, ⟨_, ho, rfl, n, rfl⟩, rv.length.symm⟩
theorem op_eqL {X : Cx} (hu : X.A.units + 64 < cLine) : OpR X (compareOp .Eq) (rEqL false) := by
  intro pins s σ H x y v u Q I rx ry h
  obtain ⟨a, c, xs, ys, rfl, rfl, ha, hc, hl, q⟩ := h
  cases (show v = Value.ref a from rx)
  cases (show u = Value.ref c from ry)
  obtain ⟨its, l1, n1⟩ := lst_is I.hok ha
  obtain ⟨jts, l2, n2⟩ := lst_is I.hok hc
  refine PySem.SeqAt.eq_list_lengthsAt l1 l2 ?_ (by omega) ⟨.bl false, H, I, rfl, q⟩
  simp only [List.size_toArray, n1, n2, bne_iff_ne, ne_eq]
  exact hl
theorem op_neL {X : Cx} (hu : X.A.units + 64 < cLine) : OpR X (compareOp .NotEq) (rEqL true) := by
  intro pins s σ H x y v u Q I rx ry h
  obtain ⟨a, c, xs, ys, rfl, rfl, ha, hc, hl, q⟩ := h
  cases (show v = Value.ref a from rx)
  cases (show u = Value.ref c from ry)
  obtain ⟨its, l1, n1⟩ := lst_is I.hok ha
  obtain ⟨jts, l2, n2⟩ := lst_is I.hok hc
  have hs : ((its.toArray).size != (jts.toArray).size) = true := by
    simp only [List.size_toArray, n1, n2, bne_iff_ne, ne_eq]
    exact hl
  exact PySem.SeqAt.RcNeAt.lists_lengths l1 l2 hs (by omega) X.prog X.w _ _ ⟨.bl true, H, I, rfl, q⟩
abbrev rEqB (K : PySem.W.Frag) : R2 := fun x y H Q => rEqA K x y H Q ∨ rEqL false x y H Q
abbrev rNeB (K : PySem.W.Frag) : R2 := fun x y H Q => rNeA K x y H Q ∨ rEqL true x y H Q
theorem op_eqB {X : Cx} (hu : X.A.units + 64 < cLine) : OpR X (compareOp .Eq) (rEqB X.K) := OpR.or (op_eqA hu) (op_eqL hu)
theorem op_neB {X : Cx} (hu : X.A.units + 64 < cLine) : OpR X (compareOp .NotEq) (rNeB X.K) := OpR.or (op_neA hu) (op_neL hu)
theorem rd_lens {K : PySem.W.Frag} {P : D → Prop} {b : Bool} {xs ys : List D} (hl : xs.length ≠ ys.length) (p : P (.bl b)) : RD K (rEqL b) (.lst xs) (.lst ys) P := fun G H v u Q le k1 k2 q => by
  cases k1 with
  | lst a1 a2 =>
    cases k2 with
    | lst b1 b2 => exact ⟨_, _, _, _, rfl, rfl, le _ _ a1, le _ _ b1, by rw [a2.length, b2.length]; exact hl, q _ _ G H (Ext.refl le) p (.bl b)⟩
theorem isN_exc {K : PySem.W.Frag} {G : Hp} {v : V} {C : Addr} {d : D} (h : Is K G v (.exc C d)) : decide (v = .non) = false := by
  cases h
  rfl
end DL
namespace DL
open PySem PySem.Spec PyProof.Rows L2 LamX
variable [TabT]
/-- the heap without its tables -/
def noTbl (H : Hp) : Hp := fun b => match H b with
  | some (.tbl _) => none
  | u => u
theorem noTbl_some {H : Hp} {b : Addr} {o : HO} (e : noTbl H b = some o) : H b = some o ∧ ∀ ps, o ≠ .tbl ps := by
  unfold noTbl at e
  cases q : H b with
  | none =>
    rw [q] at e
    cases e
  | some u =>
    rw [q] at e
    cases u with
    | tbl ps => cases e
    | _ =>
      cases e
      exact ⟨rfl, fun ps z => nomatch z⟩
theorem noTbl_of {H : Hp} {b : Addr} {o : HO} (e : H b = some o) (n : ∀ ps, o ≠ .tbl ps) : noTbl H b = some o := by
  unfold noTbl
  rw [e]
  cases o with
  | tbl ps => exact absurd rfl (n ps)
  | _ => rfl
theorem spDT_start {K : PySem.W.Frag} {H : Hp} {a : Addr} {ns : List Int} {f : FS} (hT : Tabs TabT.T H) (hS : SqL K H a (ns.map V.int)) (hf : f [.scr ns] (fun d => d = .bl true) fun _ _ => False) : spDT K f [.ref a] H (fun v _ => v = .bl true) fun _ _ _ => False := by
  refine ⟨hT, noTbl H, [.scr ns], _, _, fun b ps e => (noTbl_some e).2 ps rfl, fun b o e => (noTbl_some e).1, .cons (.scr ?_) .nil, hf, fun v d G' H' e i r => ?_, Flies.none⟩
  · rcases hS with (h | ⟨o, h⟩) | h
    · exact .inl (.inl (noTbl_of h fun ps z => nomatch z))
    · exact .inl (.inr ⟨o, noTbl_of h fun ps z => nomatch z⟩)
    · exact .inr h
  · subst r
    cases i
    rfl
end DL
/-! t[::-1] of a tuple -/
namespace DL
open PySem PySem.Spec PyProof.Rows L2 LamX HT
section
variable {prog : Program} {w : World} {A : Around} {E : Value → Shared → Prop} {s : Shared}
theorem adjust_rev (n : Nat) : Builtin.Slice.sliceAdjust none none (-1) (n : Int) = ((n : Int) - 1, -1) := by
  unfold Builtin.Slice.sliceAdjust
  simp
theorem places_rev (n : Nat) : Builtin.Slice.slicePlaces ((n : Int) - 1) (-1) (-1) = n := by
  unfold Builtin.Slice.slicePlaces
  rw [if_neg (by decide)]
  by_cases h : (n : Int) - 1 > -1
  · rw [if_pos h, show (-(-1) : Int) = 1 by decide, Int.ediv_one]
    omega
  · rw [if_neg h]
    omega
theorem sliceApplied_rev {sl : Addr} {vl vu vs : Value} {n : Nat} {Q : Int × Int × Nat → Shared → Prop} (hs : s.heap.IsSliceOf sl vl vu vs) (pl : IsPart vl none) (pu : IsPart vu none) (ps : IsPart vs (some (-1)))
    (h : Q ((n : Int) - 1, -1, n) s) : wpAny (model prog w) A (Builtin.Slice.sliceApplied (.ref sl) (pure (n : Int))) Q E s := by
  obtain ⟨os, hos, hcs, hds⟩ := id hs
  unfold Builtin.Slice.sliceApplied Builtin.Slice.sliceFields
  refine wpAny_bind (wpAny_bind (wpAny_field hos hds (x := vl) rfl (wpAny_bind (wpAny_field hos hds (x := vu) rfl (wpAny_bind (wpAny_field hos hds (x := vs) rfl (wpAny_pure ?_)))))))
  refine wpAny_bind (slicePart_ ps ?_)
  show wpAny _ _ (if ((-1 : Int) == 0) = true then _ else _) _ _ s
  rw [if_neg (by decide)]
  refine wpAny_bind (slicePart_ pl (wpAny_bind (slicePart_ pu (wpAny_bind (wpAny_pure ?_)))))
  show wpAny _ _ (match Builtin.Slice.sliceAdjust none none (-1) (n : Int) with | (lo, hi) => pure (lo, (-1 : Int), Builtin.Slice.slicePlaces lo hi (-1))) _ _ s
  rw [adjust_rev n]
  show wpAny _ _ (pure ((n : Int) - 1, (-1 : Int), Builtin.Slice.slicePlaces ((n : Int) - 1) (-1) (-1))) _ _ s
  rw [places_rev]
  exact wpAny_pure h
theorem fm_congr {α β : Type} {f g : α → Option β} : ∀ {l : List α}, (∀ x ∈ l, f x = g x) → l.filterMap f = l.filterMap g
  | [], _ => rfl
  | x :: l, h => by
    rw [List.filterMap_cons, List.filterMap_cons, h x (by simp), fm_congr fun y hy => h y (by simp [hy])]
theorem pick_rev (xs : Array Value) : ((List.range xs.size).filterMap fun (k : Nat) => xs[(((xs.size : Int) - 1) + (k : Int) * (-1)).toNat]?).toArray = xs.toList.reverse.toArray := by
  have e : ((List.range xs.size).filterMap fun (k : Nat) => xs[(((xs.size : Int) - 1) + (k : Int) * (-1)).toNat]?) = ((List.range xs.size).map fun k => xs.size - 1 - k).filterMap (xs[·]?) := by
    rw [List.filterMap_map]
    refine fm_congr fun k hk => ?_
    have hk := List.mem_range.mp hk
    show xs[(((xs.size : Int) - 1) + (k : Int) * (-1)).toNat]? = xs[xs.size - 1 - k]?
    have : (((xs.size : Int) - 1) + (k : Int) * (-1)).toNat = xs.size - 1 - k := by omega
    rw [this]
  rw [e, PySem.W.krv_range, List.filterMap_reverse, PySem.W.krv_all]
theorem getItem_tuple_rev {t sl : Addr} {items : Array Value} {vl vu vs : Value} {Q : Value → Shared → Prop} (ht : IsTup s.heap t items) (hs : s.heap.IsSliceOf sl vl vu vs) (pl : IsPart vl none) (pu : IsPart vu none) (ps : IsPart vs (some (-1)))
    (h : Q (.ref s.heap.objs.size) { s with heap := s.heap.push { cls := .type "tuple", data := .seq items.toList.reverse.toArray } })
    (hsz : items.size ≤ sizeLine) : wpAny (model prog w) A (getItem (.ref t) (.ref sl)) Q E s := by
  have htake : sizeOk (.seq items.toList.reverse.toArray) := by
    show items.toList.reverse.toArray.size ≤ sizeLine
    rw [List.size_toArray, List.length_reverse, Array.length_toList]
    omega
  obtain ⟨os, hos, hcs, hds⟩ := id hs
  have hTs : s.TypeIs (.ref sl) "slice" := ⟨os, hos, hcs⟩
  unfold getItem
  try with_reducible refine wpAny_holding ?_
  first | refine wpAny_bind (wpAny_pure ?_) | skip
  refine wpAny_bind (wpAny_sequenceKey ht.typeIs (by decide) ?_)
  refine wpAny_bind (wpAny_callSpecial?_slot (name := Str.ofString "__getitem__") ht.typeIs PyProof.Rows.slot_tuple_getitem
    (wpAny_call_entry PyProof.Rows.slot_tuple_getitem ht.typeIs entry_tuple_getitem ?_ (args_tuple_getitem _ _)))
  show wpAny _ _ (Builtin.Tuple.tupleItemsOf (.ref t) >>= _) _ _ s
  refine wpAny_bind (tupleItemsOf_ ht ?_)
  refine wpAny_bind (wpAny_typeOf hTs ?_)
  rw [if_pos (by decide)]
  refine wpAny_bind (sliceApplied_rev hs pl pu ps ?_)
  have hno : ¬ ((((items.size : Int) - 1) == 0 && (-1 : Int) == 1 && items.size == items.size) = true) := by
    rw [show ((-1 : Int) == 1) = false from by decide]
    simp
  show wpAny _ _ (if (((items.size : Int) - 1) == 0 && (-1 : Int) == 1 && items.size == items.size) = true then _ else _) _ _ s
  rw [if_neg hno, pick_rev]
  first
    | exact wpAny_bind (m := Builtin.Tuple.tupleExact _) (wpAny_newObj_type (wpAny_pure ⟨_, rfl, wpAny_pure h⟩) htake)
    | exact wpAny_bind (m := Builtin.Tuple.tupleExact _) (wpAny_newObj_type (wpAny_bind (wpAny_pure (wpAny_pure ⟨_, rfl, wpAny_pure h⟩))) htake)
    | exact wpAny_bind (wpAny_bind (m := Builtin.Tuple.tupleExact _) (wpAny_newObj_type (wpAny_pure (wpAny_pure ⟨_, rfl, wpAny_pure h⟩)) htake))
    | exact wpAny_bind (wpAny_bind (m := Builtin.Tuple.tupleExact _) (wpAny_newObj_type (wpAny_pure ⟨_, rfl, wpAny_pure h⟩) htake))
end
def tRevT (K : PySem.W.Frag) (te : TE) : TE := fun σ H Q => te σ H fun x H1 => ∃ a xs, x = .ref a ∧ SqT K H1 a xs ∧ ∀ p, H1 p = none → Q (.ref p) (upd H1 p (.tup xs.reverse))
theorem pe_revT {X : Cx} {e : Expr} {te : TE} {k : Nat} {p1 p2 p3 pos : Pos} (he : PE X e te) : PE X (.Subscript e (.Slice none none (some (.UnaryOp .USub (.Constant (.int 1) k p1) p2)) p3) pos) (tRevT X.K te) := by
  refine ⟨fun pins s σ H Q I h => ?_⟩
  refine Subscript_ (thn (he.run pins s σ H _ I h) fun v s1 ⟨x, H1, I1, r1, q1⟩ => ?_)
  obtain ⟨a, xs, ex, hx, q⟩ := q1
  subst ex
  cases r1
  have hst : PO X (some (.UnaryOp .USub (.Constant (.int 1) k p1) p2)) (tPart (tUn (rU fun i => .int (-i)) (tC (.int 1)))) := po_some (pe_un un_neg pe_int)
  refine wpAny_Slice (thn (po_none.run pins s1 σ H1 (fun o H2 => o = none ∧ H2 = H1) I1 ⟨rfl, rfl⟩) fun vl s2 ⟨l, H2, I2, pl, el, e2⟩ => ?_)
  subst el e2
  refine thn (po_none.run pins s2 σ H2 (fun o H3 => o = none ∧ H3 = H2) I2 ⟨rfl, rfl⟩) fun vu s3 ⟨u, H3, I3, pu, eu, e3⟩ => ?_
  subst eu e3
  refine thn (hst.run pins s3 σ H3 (fun o H4 => o = some (-1) ∧ H4 = H3) I3 ⟨1, rfl, -1, rfl, rfl, rfl⟩) fun vs s4 ⟨o, H4, I4, ps, eo, e4⟩ => ?_
  subst eo e4
  have I5 : Inv X pins σ H4 { s4 with heap := s4.heap.push { cls := .type "slice", data := .fields #[vl, vu, vs] } } := I4.kept (t' := s4.toks) fun b ob q => Heap.get?_push_of_some _ q
  obtain ⟨its, r, ht, hz⟩ := I5.tuple hx
  have hlen := r.length
  show wpAny (model X.prog X.w) X.A (subscriptTail e (.Slice none none (some (.UnaryOp .USub (.Constant (.int 1) k p1) p2)) p3) (.ref a) (.ref s4.heap.objs.size)) (EP X pins σ Q) X.xe { s4 with heap := s4.heap.push { cls := .type "slice", data := .fields #[vl, vu, vs] } }
  refine tail_any (ops := [.ref a, .ref s4.heap.objs.size]) ht.typeIs PyProof.Rows.slot_tuple_getitem.lookup ?_ (by with_unfolding_all rfl)
  refine getItem_tuple_rev ht (Heap.IsSliceOf.new _ vl vu vs) pl pu ps ?_ (by rw [List.size_toArray]; omega)
  refine ⟨.ref _, _, I5.laid (t' := s4.toks) (o := .tup xs.reverse) (fun b ob q => Heap.get?_push_of_some _ q) (Nat.le_refl _) ?_, rfl, q _ (I5.hok.fresh (Nat.le_refl _))⟩
  exact ⟨by rw [List.length_reverse]; exact hz, _, r.reverse, IsTup.new _ _⟩
section
variable [TabT] {C : Fx} {ρ : List Slot} {P : PD} {te : TE}
theorem ev_revT {K' : PySem.W.Frag} (h : Ev C te ρ fun x ρ1 => ∃ ds, x = .tup ds ∧ P (.tup ds.reverse) ρ1) (hK : K' = C.K := by rfl) : Ev C (tRevT K' te) ρ P := fun σ G H Q S q => by
  subst hK
  refine h σ G H _ S fun v x G1 H1 ρ1 s1 p1 k1 => ?_
  obtain ⟨ds, rfl, p1⟩ := p1
  cases k1 with
  | @tup _ ws _ a1 a2 =>
    refine ⟨_, ws, rfl, seqT_mono s1.st.le a1, fun c hc => ?_⟩
    have ex := Ext.new (F := fun _ => False) s1.st.le hc (.tup ws.reverse)
    exact q _ _ _ _ ρ1 (s1.trans (s1.st.keep ex)) p1 (.tup (.inl (.inl upd_same)) (a2.mono ex.gg).rev)
end
end DL
/-! data of bounded depth, length and numbers -/
namespace DL
open PySem PySem.Spec PyProof.Rows L2
def leafD (c : Nat) (d : D) : Prop := d = .non ∨ (∃ b, d = .bl b) ∨ (∃ i : Int, d = .int i ∧ i.natAbs < 2 ^ c) ∨ ∃ x : Str, d = .str x ∧ x.cps.size ≤ c ∧ (PyData.str x).canLay0 = true
def Gd (c L : Nat) : Nat → D → Prop
  | 0, d => leafD c d
  | n + 1, d => leafD c d ∨ ∃ ds : List D, (d = .tup ds ∨ d = .lst ds) ∧ ds.length ≤ L ∧ ∀ e ∈ ds, Gd c L n e
/-- tuples of tuples .. of integers -/
def Bn (c L : Nat) : Nat → D → Prop
  | 0, d => ∃ i : Int, d = .int i ∧ i.natAbs < 2 ^ c
  | n + 1, d => (∃ i : Int, d = .int i ∧ i.natAbs < 2 ^ c) ∨ ∃ ds : List D, d = .tup ds ∧ ds.length ≤ L ∧ ∀ e ∈ ds, Bn c L n e
variable [TabT]
section
variable {c c' L L' n n' : Nat} {d : D} {ds : List D}
theorem leafD.mono (h : leafD c d) (e : c ≤ c') : leafD c' d := by
  rcases h with h | h | ⟨i, h, b⟩ | ⟨x, h, b, o⟩
  · exact .inl h
  · exact .inr (.inl h)
  · exact .inr (.inr (.inl ⟨i, h, nbM b e⟩))
  · exact .inr (.inr (.inr ⟨x, h, Nat.le_trans b e, o⟩))
theorem leafD.gd (h : leafD c d) : Gd c L n d := by
  cases n with
  | zero => exact h
  | succ n => exact .inl h
theorem Gd.int {i : Int} (h : i.natAbs < 2 ^ c) : Gd c L n (.int i) := leafD.gd (.inr (.inr (.inl ⟨i, rfl, h⟩)))
theorem Gd.non : Gd c L n .non := leafD.gd (.inl rfl)
theorem Gd.bl {b : Bool} : Gd c L n (.bl b) := leafD.gd (.inr (.inl ⟨b, rfl⟩))
theorem Gd.str {x : Str} (h : x.cps.size ≤ c) (o : (PyData.str x).canLay0 = true) : Gd c L n (.str x) := leafD.gd (.inr (.inr (.inr ⟨x, rfl, h, o⟩)))
theorem Gd.tup (h : ds.length ≤ L) (k : ∀ e ∈ ds, Gd c L n e) : Gd c L (n + 1) (.tup ds) := .inr ⟨ds, .inl rfl, h, k⟩
theorem Gd.lst (h : ds.length ≤ L) (k : ∀ e ∈ ds, Gd c L n e) : Gd c L (n + 1) (.lst ds) := .inr ⟨ds, .inr rfl, h, k⟩
theorem Gd.mono (hc : c ≤ c') (hL : L ≤ L') : ∀ {n n' : Nat} {d : D}, n ≤ n' → Gd c L n d → Gd c' L' n' d
  | 0, _, _, _, h => leafD.gd (leafD.mono h hc)
  | n + 1, 0, _, hn, _ => absurd hn (by omega)
  | n + 1, n' + 1, d, hn, h => by
    rcases h with h | ⟨ds, e, l, k⟩
    · exact .inl (leafD.mono h hc)
    · exact .inr ⟨ds, e, Nat.le_trans l hL, fun x hx => Gd.mono hc hL (by omega) (k x hx)⟩
theorem Bn.gd : ∀ {n : Nat} {d : D}, Bn c L n d → Gd c L n d
  | 0, d, ⟨i, e, h⟩ => .inr (.inr (.inl ⟨i, e, h⟩))
  | n + 1, d, .inl ⟨i, e, h⟩ => .inl (.inr (.inr (.inl ⟨i, e, h⟩)))
  | n + 1, d, .inr ⟨ds, e, l, k⟩ => .inr ⟨ds, .inl e, l, fun x hx => Bn.gd (k x hx)⟩
theorem Gd.tup_inv (h : Gd c L n (.tup ds)) : ∃ m, n = m + 1 ∧ ds.length ≤ L ∧ ∀ e ∈ ds, Gd c L m e := by
  have nl : ¬ leafD c (.tup ds) := fun h => by
    rcases h with h | ⟨_, h⟩ | ⟨_, h, _⟩ | ⟨_, h, _⟩ <;> cases h
  cases n with
  | zero => exact absurd h nl
  | succ n =>
    rcases h with h | ⟨es, e, l, k⟩
    · exact absurd h nl
    · rcases e with e | e
      · cases e
        exact ⟨n, rfl, l, k⟩
      · cases e
theorem Gd.int_inv {i : Int} (h : Gd c L n (.int i)) : i.natAbs < 2 ^ c := by
  have lf : leafD c (.int i) → i.natAbs < 2 ^ c := fun h => by
    rcases h with h | ⟨_, h⟩ | ⟨_, h, b⟩ | ⟨_, h, _⟩
    · cases h
    · cases h
    · cases h
      exact b
    · cases h
  cases n with
  | zero => exact lf h
  | succ n =>
    rcases h with h | ⟨es, e, l, k⟩
    · exact lf h
    · rcases e with e | e <;> cases e
/-- the type is told -/
theorem Gd.ty : ∀ {n : Nat} {d : D}, Gd c L n d → ∃ t, tyD d = some t := by
  have lf : ∀ {d : D}, leafD c d → ∃ t, tyD d = some t := fun h => by
    rcases h with rfl | ⟨_, rfl⟩ | ⟨_, rfl, _⟩ | ⟨_, rfl, _⟩ <;> exact ⟨_, rfl⟩
  intro n d h
  cases n with
  | zero => exact lf h
  | succ n =>
    rcases h with h | ⟨es, e, l, k⟩
    · exact lf h
    · rcases e with rfl | rfl <;> exact ⟨_, rfl⟩
end
/-! ### as the model's own plain data -/
def Wt (c L : Nat) : Nat → Nat
  | 0 => c
  | n + 1 => L * (Wt c L n + 1) + c
structure PyOk (B n w : Nat) (p : PyData) : Prop where
  lay : p.canLay0 = true
  dep : p.depth ≤ n
  wt : p.weight ≤ w
  sh : p.intsShort B = true
  ok : p.showable = true
structure PysOk (B n w : Nat) (ps : List PyData) : Prop where
  lay : PyData.canLayAll0 ps = true
  dep : PyData.depthAll ps ≤ n
  wt : PyData.weightAll ps ≤ ps.length * (w + 1)
  sh : PyData.intsShortAll B ps = true
  ok : PyData.showableAll ps = true
theorem int_shown {i : Int} {c : Nat} (h : i.natAbs < 2 ^ c) : (PyData.int i).shown.length ≤ c + 2 := by
  have e : (PyData.int i).shown = PySem.Str.ofString (toString i) := rfl
  rw [e, PySem.ofString_length]
  exact PySem.int_text_length_le (Nat.succ_pos c) (log2W h (Nat.lt_succ_self c))
theorem leaf_py {c L n : Nat} (hc : c < 1900) {d : D} (h : leafD c d) : ∃ p, d.py = some p ∧ PyOk (c + 2) n c p := by
  rcases h with rfl | ⟨b, rfl⟩ | ⟨i, rfl, h⟩ | ⟨x, rfl, h, o⟩
  · exact ⟨_, rfl, rfl, Nat.zero_le _, Nat.zero_le _, rfl, rfl⟩
  · exact ⟨_, rfl, rfl, Nat.zero_le _, Nat.zero_le _, rfl, rfl⟩
  · refine ⟨_, rfl, rfl, Nat.zero_le _, ?_, ?_, ?_⟩
    · show (if i == 0 then 0 else i.natAbs.log2 + 1) ≤ c
      by_cases z : i = 0
      · subst z
        exact Nat.zero_le _
      · rw [if_neg (by simpa using z)]
        exact (Nat.log2_lt (by omega)).mpr h
    · simp only [PyData.intsShort, decide_eq_true_eq]
      exact int_shown h
    · simp only [PyData.showable, decide_eq_true_eq]
      exact log2W h (by omega)
  · exact ⟨_, rfl, o, Nat.zero_le _, h, rfl, rfl⟩
theorem pys_of {B n w : Nat} : ∀ {ds : List D}, (∀ e ∈ ds, ∃ p, e.py = some p ∧ PyOk B n w p) → ∃ ps, D.pys ds = some ps ∧ ps.length = ds.length ∧ PysOk B n w ps
  | [], _ => ⟨[], rfl, rfl, rfl, Nat.zero_le _, Nat.zero_le _, rfl, rfl⟩
  | d :: ds, h => by
    obtain ⟨p, e, k⟩ := h d (by simp)
    obtain ⟨ps, e2, l2, k2⟩ := pys_of (ds := ds) fun x hx => h x (List.mem_cons_of_mem _ hx)
    refine ⟨p :: ps, by simp [D.pys, e, e2], by simp [l2], ?_, ?_, ?_, ?_, ?_⟩
    · simp only [PyData.canLayAll0, k.lay, k2.lay, Bool.and_self]
    · have := k.dep
      have := k2.dep
      simp only [PyData.depthAll]
      omega
    · have a := k.wt
      have b := k2.wt
      simp only [PyData.weightAll, List.length_cons, Nat.succ_mul]
      omega
    · simp only [PyData.intsShortAll, k.sh, k2.sh, Bool.and_self]
    · simp only [PyData.showableAll, k.ok, k2.ok, Bool.and_self]
theorem Gd.py {c L : Nat} (hc : c < 1900) : ∀ {n : Nat} {d : D}, Gd c L n d → ∃ p, d.py = some p ∧ PyOk (c + 2) n (Wt c L n) p
  | 0, d, h => leaf_py (L := L) hc h
  | n + 1, d, h => by
    rcases h with h | ⟨ds, e, l, k⟩
    · obtain ⟨p, e, k⟩ := leaf_py (L := L) (n := n + 1) hc h
      exact ⟨p, e, k.lay, k.dep, Nat.le_trans k.wt (Nat.le_add_left _ _), k.sh, k.ok⟩
    · obtain ⟨ps, e2, l2, k2⟩ := pys_of fun x hx => Gd.py hc (k x hx)
      have hw : PyData.weightAll ps ≤ Wt c L (n + 1) := by
        refine Nat.le_trans k2.wt (Nat.le_trans (Nat.mul_le_mul_right _ (by omega : ps.length ≤ L)) (Nat.le_add_right _ _))
      rcases e with rfl | rfl
      · refine ⟨.tuple ps, by simp [D.py, e2], ?_, ?_, ?_, ?_, ?_⟩
        · simpa only [PyData.canLay0] using k2.lay
        · simp only [PyData.depth]
          have := k2.dep
          omega
        · simpa only [PyData.weight] using hw
        · simpa only [PyData.intsShort] using k2.sh
        · simpa only [PyData.showable] using k2.ok
      · refine ⟨.list ps, by simp [D.py, e2], ?_, ?_, ?_, ?_, ?_⟩
        · simpa only [PyData.canLay0] using k2.lay
        · simp only [PyData.depth]
          have := k2.dep
          omega
        · simpa only [PyData.weight] using hw
        · simpa only [PyData.intsShort] using k2.sh
        · simpa only [PyData.showable] using k2.ok
theorem Gd.shows {c L n : Nat} {d : D} (h : Gd c L n d) (h6 : 6 ≤ c) (hc : c < 1900) (hn : n ≤ 60) (hw : (c + 4) * Wt c L n + (c + 2) ≤ 2 ^ 24) : ∃ x, Shows d x := by
  obtain ⟨p, e, k⟩ := h.py hc
  have h1 := PyData.shown_le (c + 2) (by omega) p (PyData.leavesShort_of_canLay0 (c + 2) p k.lay k.sh)
  refine ⟨_, .py e k.ok (PyData.hasDict_of_canLay p k.lay) (Nat.le_trans h1 (Nat.le_trans ?_ hw)) (Nat.le_trans k.dep hn)⟩
  exact Nat.add_le_add_right (Nat.mul_le_mul (by omega) k.wt) _
theorem Gd.shaped {c L n : Nat} {d : D} (h : Gd c L n d) (hc : c < 1900) (hn : n ≤ 60) : ∃ p, d.py = some p ∧ SeqAt.shaped p = true := by
  obtain ⟨p, e, k⟩ := h.py hc
  refine ⟨p, e, ?_⟩
  unfold SeqAt.shaped
  rw [k.lay, Bool.true_and]
  exact decide_eq_true (Nat.le_trans k.dep (by omega))
end DL
/-! which data are fractions; of which type data are -/
namespace DL
open PySem PySem.Spec PyProof.Rows L2
def Ty1 (d : D) : Prop := ∃ t, tyD d = some t
def Ty2 (d : D) : Prop := Ty1 d ∧ ∀ xs, d = .tup xs → ∀ x ∈ xs, Ty1 x
def Ty3 (d : D) : Prop := Ty1 d ∧ ∀ xs, d = .tup xs → xs.length ≤ 1000 ∧ ∀ x ∈ xs, Ty2 x
def isT : D → Bool
  | .tup _ => true
  | _ => false
def isIB : D → Bool
  | .int _ => true
  | .bl _ => true
  | _ => false
def isBo : D → Bool
  | .bl _ => true
  | _ => false
def isSt : D → Bool
  | .str _ => true
  | _ => false
def isI : D → Bool
  | .int _ => true
  | _ => false
section
variable [TabT] {K K' : PySem.W.Frag} {P : D → Prop} {d : D}
theorem isi_tup (hK : K' = K) (h : Ty1 d) (p : P (.bl (isT d))) : RC1 K (rIsi K') [d, .val (.ty "tuple")] P := by
  subst hK
  obtain ⟨n, hn⟩ := h
  cases d <;> first | (cases hn; done) | exact rc_isi (b := true) rfl (by decide +kernel) p | exact rc_isi (b := false) rfl (by decide +kernel) p
theorem isi_int (hK : K' = K) (h : Ty1 d) (p : P (.bl (isIB d))) : RC1 K (rIsi K') [d, .val (.ty "int")] P := by
  subst hK
  obtain ⟨n, hn⟩ := h
  cases d <;> first | (cases hn; done) | exact rc_isi (b := true) rfl (by decide +kernel) p | exact rc_isi (b := false) rfl (by decide +kernel) p
theorem isi_bool (hK : K' = K) (h : Ty1 d) (p : P (.bl (isBo d))) : RC1 K (rIsi K') [d, .val (.ty "bool")] P := by
  subst hK
  obtain ⟨n, hn⟩ := h
  cases d <;> first | (cases hn; done) | exact rc_isi (b := true) rfl (by decide +kernel) p | exact rc_isi (b := false) rfl (by decide +kernel) p
theorem isi_str (hK : K' = K) (h : Ty1 d) (p : P (.bl (isSt d))) : RC1 K (rIsi K') [d, .val (.ty "str")] P := by
  subst hK
  obtain ⟨n, hn⟩ := h
  cases d <;> first | (cases hn; done) | exact rc_isi (b := true) rfl (by decide +kernel) p | exact rc_isi (b := false) rfl (by decide +kernel) p
theorem isa_tup (hK : K' = K) (h : Ty1 d) (p : P (.bl (isT d))) : RC1 K (rIsA K') [d, .val (.ty "tuple")] P := fun G H vs Q le a q => .inl (isi_tup hK h p G H vs Q le a q)
theorem isa_int (hK : K' = K) (h : Ty1 d) (p : P (.bl (isIB d))) : RC1 K (rIsA K') [d, .val (.ty "int")] P := fun G H vs Q le a q => .inl (isi_int hK h p G H vs Q le a q)
theorem isa_bool (hK : K' = K) (h : Ty1 d) (p : P (.bl (isBo d))) : RC1 K (rIsA K') [d, .val (.ty "bool")] P := fun G H vs Q le a q => .inl (isi_bool hK h p G H vs Q le a q)
theorem isa_str (hK : K' = K) (h : Ty1 d) (p : P (.bl (isSt d))) : RC1 K (rIsA K') [d, .val (.ty "str")] P := fun G H vs Q le a q => .inl (isi_str hK h p G H vs Q le a q)
/-- == and != of integers, of truths -/
theorem ne_int {i j : Int} (hK : K' = K) (p : P (.bl (!(i == j)))) : RD K (rNeA K') (.int i) (.int j) P := rd_k (r := rNeA) hK (rd_or1 (rd_ne (p := .int i) (r := .int j) rfl rfl rfl rfl p))
theorem eq_int {i j : Int} (hK : K' = K) (p : P (.bl (i == j))) : RD K (rEqA K') (.int i) (.int j) P := rd_k (r := rEqA) hK (rd_or1 (rd_eq (p := .int i) (r := .int j) rfl rfl rfl rfl p))
theorem eqv_bl (a b : Bool) : PyData.eqv (.bool a) (.bool b) = (a == b) := by cases a <;> cases b <;> rfl
theorem ne_bl {a b : Bool} (hK : K' = K) (p : P (.bl (!(a == b)))) : RD K (rNeA K') (.bl a) (.bl b) P := rd_k (r := rNeA) hK (rd_or1 (rd_ne (p := .bool a) (r := .bool b) rfl rfl rfl rfl (by rw [eqv_bl]; exact p)))
end
theorem isT_inv {d : D} (h : isT d = true) : ∃ xs, d = .tup xs := by
  cases d <;> first | exact ⟨_, rfl⟩ | cases h
theorem isI_inv {d : D} (h : isI d = true) : ∃ i, d = .int i := by
  cases d <;> first | exact ⟨_, rfl⟩ | cases h
theorem isI_of {d : D} (h : isIB d = true) (h2 : isBo d = false) : ∃ i, d = .int i := by
  cases d <;> first | exact ⟨_, rfl⟩ | (cases h; done) | (cases h2; done)
theorem isI_eq (d : D) : isI d = (isIB d && !isBo d) := by cases d <;> rfl
def isF : D → Bool
  | .tup [.int t, .int l] => decide (1 ≤ l) && decide (Nat.gcd t.natAbs l.natAbs = 1)
  | _ => false
def areF : D → Bool
  | .tup xs => xs.all isF
  | _ => false
theorem isF_not {d : D} (h : isT d = false) : isF d = false := by
  cases d <;> first | rfl | cases h
theorem areF_not {d : D} (h : isT d = false) : areF d = false := by
  cases d <;> first | rfl | cases h
theorem isF_len {xs : List D} (h : xs.length ≠ 2) : isF (.tup xs) = false := by
  match xs, h with
  | [], _ => rfl
  | [x], _ => cases x <;> rfl
  | [x, y], h => exact absurd rfl h
  | x :: y :: z :: r, _ => cases x <;> first | rfl | (cases y <;> rfl)
theorem isF_two (x y : D) : isF (.tup [x, y]) = true → isI x = true ∧ isI y = true := by
  intro h
  cases x <;> cases y <;> first | exact ⟨rfl, rfl⟩ | (cases h; done)
theorem isF_frq (q : Rat) : isF (frq q) = true := by
  have h1 : (1 : Int) ≤ (q.den : Int) := by have := q.den_pos; omega
  have h2 : Nat.gcd q.num.natAbs (q.den : Int).natAbs = 1 := by rw [Int.natAbs_natCast]; exact q.reduced
  show (decide (1 ≤ (q.den : Int)) && decide (Nat.gcd q.num.natAbs (q.den : Int).natAbs = 1)) = true
  rw [decide_eq_true h1, decide_eq_true h2]
  rfl
theorem isF_inv {d : D} (h : isF d = true) : ∃ q : Rat, d = frq q := by
  obtain ⟨xs, rfl⟩ : ∃ xs, d = .tup xs := isT_inv (by
    cases e : isT d with
    | true => rfl
    | false => rw [isF_not e] at h; cases h)
  have hl : xs.length = 2 := by
    by_cases e : xs.length = 2
    · exact e
    · rw [isF_len e] at h
      cases h
  match xs, hl, h with
  | [x, y], _, h =>
    obtain ⟨h1, h2⟩ := isF_two x y h
    obtain ⟨t, rfl⟩ := isI_inv h1
    obtain ⟨l, rfl⟩ := isI_inv h2
    have h : (decide (1 ≤ l) && decide (Nat.gcd t.natAbs l.natAbs = 1)) = true := h
    simp only [Bool.and_eq_true, decide_eq_true_eq] at h
    refine ⟨⟨t, l.natAbs, by omega, h.2⟩, ?_⟩
    show D.tup [.int t, .int l] = D.tup [.int t, .int (l.natAbs : Int)]
    rw [show (l.natAbs : Int) = l by omega]
theorem allF_inv : ∀ {xs : List D}, xs.all isF = true → ∃ qs : List Rat, xs = qs.map frq
  | [], _ => ⟨[], rfl⟩
  | x :: xs, h => by
    rw [List.all_cons, Bool.and_eq_true] at h
    obtain ⟨q, rfl⟩ := isF_inv h.1
    obtain ⟨qs, rfl⟩ := allF_inv h.2
    exact ⟨q :: qs, rfl⟩
theorem areF_inv {d : D} (h : areF d = true) : ∃ qs : List Rat, d = .tup (qs.map frq) := by
  obtain ⟨xs, rfl⟩ : ∃ xs, d = .tup xs := isT_inv (by
    cases e : isT d with
    | true => rfl
    | false => rw [areF_not e] at h; cases h)
  obtain ⟨qs, rfl⟩ := allF_inv h
  exact ⟨qs, rfl⟩
theorem take_map {α β : Type} {f : α → β} {xs : List α} {i : Nat} {d : α} (h : xs[i]? = some d) : (xs.take (i + 1)).map f = (xs.take i).map f ++ [f d] := by
  rw [List.take_add_one, h]
  simp
end DL
namespace DL
open PySem PySem.Spec PyProof.Rows L2
section
variable {ds : List D}
theorem cut_mem {lo hi : Option Int} {e : D} (h : e ∈ cutD ds lo hi) : e ∈ ds := by
  unfold cutD at h
  exact List.mem_of_mem_drop (List.mem_of_mem_take h)
theorem cut_len (ds : List D) (lo hi : Option Int) : (cutD ds lo hi).length ≤ ds.length := by
  unfold cutD
  rw [List.length_take, List.length_drop]
  omega
theorem cut_to {k : Nat} (h : k ≤ ds.length) : cutD ds none (some (k : Int)) = ds.take k := by
  unfold cutD
  rw [HT.sIx_nat, HT.sIx_none, Nat.min_eq_left h]
  simp
theorem cut_from {k : Nat} (h : k ≤ ds.length) : cutD ds (some (k : Int)) none = ds.drop k := by
  unfold cutD
  rw [HT.sIx_nat, HT.sIx_none, Nat.min_eq_left h]
  exact List.take_of_length_le (by rw [List.length_drop]; omega)
theorem cut_last (ds : List D) : (cutD ds (some (-1)) none).length ≤ 1 := by
  unfold cutD
  rw [List.length_take, List.length_drop, HT.sIx_none]
  have e : HT.sIx ds.length 0 (some (-1)) = (-1 + (ds.length : Int)).toNat := by
    unfold HT.sIx
    simp
  rw [e]
  omega
end
section
variable [TabT] {K K' : PySem.W.Frag} {P : D → Prop} {ds : List D}
theorem pys_nil (h : D.pys ds = some []) : ds = [] := by
  cases ds with
  | nil => rfl
  | cons d ds =>
    exfalso
    simp only [D.pys] at h
    cases e : d.py with
    | none => rw [e] at h; cases h
    | some p =>
      cases e2 : D.pys ds with
      | none => rw [e, e2] at h; cases h
      | some ps => rw [e, e2] at h; cases h
theorem ne_nil (hK : K' = K) (h : ∃ p, (D.tup ds).py = some p ∧ SeqAt.shaped p = true) (p : P (.bl (!ds.isEmpty))) : RD K (rNeA K') (.tup ds) (.tup []) P := by
  obtain ⟨q, e, sh⟩ := h
  refine rd_k (r := rNeA) hK (rd_or1 (rd_ne (p := q) (r := .tuple []) e rfl sh rfl ?_))
  have key : PyData.eqv q (.tuple []) = ds.isEmpty := by
    cases z : D.pys ds with
    | none => simp [D.py, z] at e
    | some ps =>
      simp [D.py, z] at e
      subst e
      cases ps with
      | nil =>
        rw [pys_nil z]
        rfl
      | cons a as =>
        cases ds with
        | nil => simp [D.pys] at z
        | cons d ds => rfl
  rw [key]
  exact p
end
end DL
/-! looks at written data -/
namespace DL
open PySem PySem.Spec PyProof.Rows L2
def leafb (c : Nat) : D → Bool
  | .non => true
  | .bl _ => true
  | .int i => decide (i.natAbs < 2 ^ c)
  | .str x => decide (x.cps.size ≤ c) && (PyData.str x).canLay0
  | _ => false
def gdb (c L : Nat) : Nat → D → Bool
  | 0, d => leafb c d
  | n + 1, .tup ds => decide (ds.length ≤ L) && ds.all (gdb c L n)
  | n + 1, .lst ds => decide (ds.length ≤ L) && ds.all (gdb c L n)
  | n + 1, d => leafb c d
theorem leafb_ok {c : Nat} {d : D} (h : leafb c d = true) : leafD c d := by
  cases d with
  | non => exact .inl rfl
  | bl b => exact .inr (.inl ⟨b, rfl⟩)
  | int i => exact .inr (.inr (.inl ⟨i, rfl, of_decide_eq_true h⟩))
  | str x =>
    have h : (decide (x.cps.size ≤ c) && (PyData.str x).canLay0) = true := h
    rw [Bool.and_eq_true] at h
    exact .inr (.inr (.inr ⟨x, rfl, of_decide_eq_true h.1, h.2⟩))
  | _ => cases h
variable [TabT]
theorem gdb_ok {c L : Nat} : ∀ {n : Nat} {d : D}, gdb c L n d = true → Gd c L n d
  | 0, d, h => by
    unfold gdb at h
    exact leafb_ok h
  | n + 1, d, h => by
    cases d with
    | tup ds =>
      have h : (decide (ds.length ≤ L) && ds.all (gdb c L n)) = true := h
      rw [Bool.and_eq_true, List.all_eq_true] at h
      exact .tup (of_decide_eq_true h.1) fun e he => gdb_ok (h.2 e he)
    | lst ds =>
      have h : (decide (ds.length ≤ L) && ds.all (gdb c L n)) = true := h
      rw [Bool.and_eq_true, List.all_eq_true] at h
      exact .lst (of_decide_eq_true h.1) fun e he => gdb_ok (h.2 e he)
    | _ => exact .inl (leafb_ok h)
/-- small fractions as such data -/
theorem frq_bn {c L n : Nat} {q : Rat} (h : Sm c q) (hL : 2 ≤ L) : Bn c L (n + 1) (frq q) := by
  have a : Bn c L n (.int q.num) := by
    cases n with
    | zero => exact ⟨_, rfl, h.1⟩
    | succ n => exact .inl ⟨_, rfl, h.1⟩
  have b : Bn c L n (.int (q.den : Int)) := by
    have h2 : ((q.den : Int)).natAbs < 2 ^ c := by rw [Int.natAbs_natCast]; exact h.2
    cases n with
    | zero => exact ⟨_, rfl, h2⟩
    | succ n => exact .inl ⟨_, rfl, h2⟩
  refine .inr ⟨_, rfl, hL, fun e he => ?_⟩
  simp only [List.mem_cons, List.not_mem_nil, or_false] at he
  rcases he with rfl | rfl
  · exact a
  · exact b
theorem frs_bn {c L n : Nat} {qs : List Rat} (h : ∀ q ∈ qs, Sm c q) (hL : 2 ≤ L) (hl : qs.length ≤ L) : Bn c L (n + 2) (.tup (qs.map frq)) := by
  refine .inr ⟨_, rfl, by rw [List.length_map]; exact hl, fun e he => ?_⟩
  obtain ⟨q, hq, rfl⟩ := List.mem_map.mp he
  exact frq_bn (h q hq) hL
theorem frq_sm {c L n : Nat} {q : Rat} (h : Gd c L n (frq q)) : Sm c q := by
  obtain ⟨m, rfl, _, k⟩ := Gd.tup_inv h
  have a := (k (.int q.num) (by simp)).int_inv
  have b := (k (.int (q.den : Int)) (by simp)).int_inv
  rw [Int.natAbs_natCast] at b
  exact ⟨a, b⟩
theorem Gd.ty2 {c L n : Nat} {d : D} (h : Gd c L n d) : Ty2 d := by
  refine ⟨h.ty, fun xs e x hx => ?_⟩
  subst e
  obtain ⟨m, rfl, _, k⟩ := h.tup_inv
  exact (k x hx).ty
theorem Gd.ty3 {c L n : Nat} {d : D} (h : Gd c L n d) (hL : L ≤ 1000) : Ty3 d := by
  refine ⟨h.ty, fun xs e => ?_⟩
  subst e
  obtain ⟨m, rfl, l, k⟩ := h.tup_inv
  exact ⟨Nat.le_trans l hL, fun x hx => (k x hx).ty2⟩
/-- .. or one of two dicts -/
def Vc (d : D) : Prop := Gd 27 6 3 d ∨ d = .dic [] ∨ d = .dic [(.inr "a", .int 1)]
theorem Vc.ty3 {d : D} (h : Vc d) : Ty3 d := by
  rcases h with h | rfl | rfl
  · exact h.ty3 (by decide)
  · exact ⟨⟨_, rfl⟩, fun _ e => nomatch e⟩
  · exact ⟨⟨_, rfl⟩, fun _ e => nomatch e⟩
theorem Vc.shows {d : D} (h : Vc d) : ∃ x, Shows d x := by
  rcases h with h | rfl | rfl
  · exact h.shows (by decide) (by decide) (by decide) (by decide +kernel)
  · exact ⟨_, .d0⟩
  · exact ⟨_, .d1 (by decide +kernel) (by decide +kernel)⟩
theorem Vc.frs {qs : List Rat} (h : Vc (.tup (qs.map frq))) : qs.length ≤ 6 ∧ ∀ q ∈ qs, Sm 27 q := by
  rcases h with h | h | h
  · obtain ⟨m, e, l, k⟩ := h.tup_inv
    rw [List.length_map] at l
    exact ⟨l, fun q hq => frq_sm (k _ (List.mem_map.mpr ⟨q, hq, rfl⟩))⟩
  · cases h
  · cases h
end DL
open PySem PySem.Spec PyProof.Rows L2 DL
local macro_rules | `(tactic| walk_at "ar") => `(tactic| first
  | (with_reducible refine ev_var rfl ?_)
  | (with_reducible refine ev_int ?_)
  | (with_reducible refine ev_str ?_)
  | (with_reducible refine ev_bl ?_)
  | (with_reducible refine ev_non ?_)
  | (with_reducible refine ev_val ?_)
  | (with_reducible refine ev_op ?_)
  | (with_reducible refine ev_un ?_)
  | (with_reducible refine ev_cb ?_)
  | (with_reducible refine ea_cons ?_)
  | (with_reducible refine ea_nil ?_)
  | (with_reducible refine ev_if ?_)
  | (with_reducible refine ev_andV ?_)
  | (with_reducible refine ev_orV ?_)
  | (with_reducible refine ev_notV ?_)
  | (with_reducible refine et_B ?_)
  | (with_reducible refine et_test ?_)
  | (with_reducible refine et_and ?_)
  | (with_reducible refine et_or ?_)
  | (with_reducible refine et_not ?_)
  | (with_reducible refine et_yes ?_)
  | (with_reducible refine xs_seq ?_)
  | (with_reducible refine xs_next ?_)
  | (with_reducible refine xs_ret ?_)
  | (with_reducible refine xs_if ?_)
  | ((with_reducible refine rd_k (r := rPlus) ?hK (plus_int ?_)); (case hK => exact rfl))
  | (with_reducible refine rd_B0 ?_)
  | (with_reducible refine rd_I0 ?_)
  | ((with_reducible refine rc_k (r := rLenA) ?hK (len_lst ?_)); (case hK => exact rfl))
  | ((with_reducible refine rc_k (r := rLenA) ?hK (len_tup ?_)); (case hK => exact rfl))
  | ((with_reducible refine rc_k (r := rLenA) ?hK (len_scr ?_)); (case hK => exact rfl))
  | (with_reducible refine rc_int ?_)
  | (with_reducible refine rc_intB ?_)
  | (with_reducible refine rc_abs ?_)
  | (with_reducible refine rc_gcd ?_)
  | (with_reducible refine rc_max2 ?_)
  | (with_reducible refine rc_min2 ?_)
  | (with_reducible refine ru_neg ?_)
  | (with_reducible refine ev_tup ?_)
  | (with_reducible refine ev_lst ?_))
local macro_rules | `(tactic| walk_at "ev") => `(tactic| first
  | walk_at "ar"
  | (refine And.intro (show List.length _ ≤ 100000 from Nat.le_of_ble_eq_true rfl) ?_)
  | (refine Exists.intro _ (And.intro rfl ?_)))
namespace K03
variable [TabT]
open PySem PySem.Spec PyProof.Rows L2 DL LamX
def topS (i : Nat) : Stmt := PySem.Challenge.pw_tiesums_k03_fractions_and_weights_refuse.main.body.getD i (.Pass ⟨0, 0, 0, 0⟩)
abbrev s_l_heard : Stmt := topS 19
abbrev n_l_heard : List Str := ["_law_call", "_law_caught", "_law_back", "error"]
abbrev p_l_heard : List Str := ["_law_call"]
theorem sc_l_heard : FnScope n_l_heard p_l_heard (defScope s_l_heard) := ⟨rfl, rfl, rfl, by decide +kernel, rfl, by decide +kernel, by decide +kernel⟩

section
variable {X : Cx} {CT : Addr}
theorem heard_gives {q : Str} {g : Addr} {cdg : Value} (hme : X.mg "TieError" = some (.ref CT)) : GivesG X n_l_heard "_law_heard" (defScope s_l_heard) g cdg (defBody s_l_heard) "_law_call" q (TTh X.K CT) := by
  intro f c' s H Q tl act hc h
  have hgl : Gl (cxOf C8.CX0 X.prog X.w X.K X.mg X.base n_l_heard "_law_heard" (defScope s_l_heard) g cdg X.A X.stack s H C8.E0).nox "TieError" := rfl
  refine ⟨_, pss_cons (ps_asg (pe_tup (pa_cons pe_non (pa_cons pe_non pa_nil))) (pg_tup rfl (pgs_cons (pg_name (i := 1) sc_l_heard.nd rfl (.inl rfl)) (pgs_cons (pg_name (i := 2) sc_l_heard.nd rfl (.inl rfl)) pgs_nil))))
    (pss_cons (ps_try_keep (X := (cxOf C8.CX0 X.prog X.w X.K X.mg X.base n_l_heard "_law_heard" (defScope s_l_heard) g cdg X.A X.stack s H C8.E0).nox) (c := .ref CT) (i := 3)
      (tb := fun W Dn σ H => ∃ Q' : VK, (∀ v H', Q' v H' → Dn.nx (σ.set 2 (some v)) H') ∧ (σ[0]? = some (some (.ref f)) ∧ H c' = some (CodeO c' q) ∧ ∃ E : XK, (∀ cls d H', E cls d H' → W cls d σ H') ∧ tl E H Q'))
      rfl rfl sc_l_heard.nd rfl rfl ⟨hgl, by decide, .inl hme⟩ (fun W pn xe tk _ => pss_one (ps_set (i := 2) sc_l_heard.nd rfl (.inl rfl) (pe_weak (act W pn xe _ _ tk)))) (fun a pn => pss_one (ps_set (i := 1) sc_l_heard.nd rfl (.inl rfl) (pv 3))))
    (pss_one (ps_ret (pe_tup (pa_cons (pv 1) (pa_cons (pv 2) pa_nil)))))), ?_⟩
  refine ⟨by decide, fun l0 h0 => ⟨l0, [.non, .non], rfl, .inl (.inl upd_same), rfl, .non, [.non], rfl, .non, [], rfl, rfl, ?_⟩⟩
  have nc : c' ≠ l0 := ne_of_none hc h0
  refine ⟨_, fun v H' hv => ?_, rfl, by rw [upd_ne nc]; exact hc, _, fun cls d H' he => ?_, h l0 h0⟩
  · exact ⟨.non, rfl, v, rfl, Nat.le_of_ble_eq_true rfl, fun p hp => hv p hp⟩
  · obtain ⟨C, dx, e1, e2, em, hq⟩ := he
    refine ⟨C, dx, e1, e2, em, fun a ha => ?_⟩
    exact ⟨.ref a, rfl, .ref a, rfl, .non, rfl, Nat.le_of_ble_eq_true rfl, fun p hp => hq a ha p hp⟩
end
/-- a method of a class statement -/
def clsDef (st : Stmt) (i : Nat) : Stmt := match st with
  | .ClassDef _ _ _ b _ _ _ _ _ _ _ => b.getD i st
  | _ => st
abbrev s_init : Stmt := clsDef (topS 2) 0
theorem sc_init : FnScope ["self", "value"] ["self", "value"] (defScope s_init) := ⟨rfl, rfl, rfl, by decide +kernel, rfl, by decide +kernel, by decide +kernel⟩
section
variable {P : Program} {w : World} {K : PySem.W.Frag} {mg : Str → Option Value} {base : Heap}
theorem ok_init {f : Addr} {fd : FuncData} (m_VE : mg "ValueError" = none) (vV : PySem.W.findCls K (.type "ValueError") (.type "type") "__init__" = some (.val (.builtin "ValueError.__init__"))) (F : Fun K "__init__" "TieError.__init__" s_init f fd) : FnG P w K mg base CX0 1 f fd ["self", "value"] (spInit K) := by
  refine okG F sc_init spInit_len (fun cdv A outer s H vs Q E gd hr ⟨a, C, v, ev, T, hv, ha, hq⟩ => ?_)
  subst ev
  refine ⟨_, PSs.nox (pss_cons (ps_expr (pe_veinit rfl m_VE vV (pa_cons (pv 0) (pa_cons (pv 1) pa_nil)))) (pss_one (ps_ost (pv 0) (pv 1)))), ?_⟩
  refine ⟨.ref a, rfl, v, rfl, a, C, [v], rfl, Nat.le_of_ble_eq_true rfl, T, ha, ?_⟩
  exact ⟨v, rfl, .ref a, rfl, a, C, rfl, T, hv, .inl ⟨ha, fun dx hdx hne => hq dx hdx hne⟩⟩
end
abbrev s_l_take : Stmt := topS 12
abbrev n_l_take : List Str := ["_law_pot_here", "_law_upto", "_law_digit", "_law_prime", "_law_blend"]
abbrev p_l_take : List Str := ["_law_pot_here", "_law_upto"]
theorem sc_l_take : FnScope n_l_take p_l_take (defScope s_l_take) := ⟨rfl, rfl, rfl, by decide +kernel, rfl, by decide +kernel, by decide +kernel⟩

abbrev primes : List V := [.int 2147483647, .int 2147483629, .int 2147483587, .int 2147483579, .int 2147483563]
theorem tabs_keep {H H' : Hp} {a : Addr} {xs : List V} {T : List (Addr × Str)} (ha : H a = some (.lst xs)) (kp : ∀ b o, b ≠ a → H b = some o → H' b = some o) (t : LamX.Tabs T H) : LamX.Tabs T H' := fun q hq => by
  obtain ⟨ps, h1, h2, h3⟩ := t q hq
  refine ⟨ps, kp _ _ (fun z => ?_) h1, h2, fun pos cv hc => ?_⟩
  · rw [z, ha] at h1
    cases h1
  · obtain ⟨c, e1, e2⟩ := h3 pos cv hc
    refine ⟨c, e1, kp _ _ (fun z => ?_) e2⟩
    rw [z, ha] at e2
    cases e2
section
variable {P : Program} {w : World} {K : PySem.W.Frag} {mg : Str → Option Value} {base : Heap}
def fp_take : FP := fun k ds R _ => ∃ n : Int, ds = [.int n] ∧ 0 < n ∧ n ≤ 2 ^ 64 ∧ k < 2 ^ 40 ∧ ∀ d : Int, 0 ≤ d → d < n → R (.int d) (k + 1)
theorem ok_take {f : Addr} {fd : FuncData} (B : Bt mg) (F : Fun K "_law_take" "_law_take" s_l_take f fd) : FnG P w K mg base CX0 1 f fd p_l_take (spP K fp_take) := by
  refine okG F sc_l_take (spP_len fun k ds R Z ⟨n, e, _⟩ => by rw [e]; rfl) (fun cdv A outer s H vs Q E gd hr ⟨a, ws, G, ds, k, R, Z, ev, le, ga, ⟨x, y, m, ha, x0, x1, y0, y1, m0, m1⟩, kd, hf, hq, hz⟩ => ?_)
  obtain ⟨n, rfl, n0, n1, k1, hf⟩ := hf
  obtain ⟨v, rfl, kv⟩ := kd.one
  cases kv
  subst ev
  refine ⟨_, PSs.nox ((pss_cons (ps_if (pt_cmpR op_gt (pe_ix ix_seq (pv 0) pe_int (fun _ _ => rfl)) pe_int (nomark _))
      (pss_cons (ps_set (i := 2) sc_l_take.nd rfl (by first | exact Or.inl rfl | exact Or.inr rfl) (pe_op op_modN (pe_callTy (call_int1) rfl B.b_int bt_int (pa_cons (pe_ix ix_seq (pv 0) pe_int (fun _ _ => rfl)) pa_nil)) (pv 1)))
      (pss_cons (ps_asg (pe_op op_fdivG (pe_ix ix_seq (pv 0) pe_int (fun _ _ => rfl)) (pv 1)) (pg_sub (pv 0) pe_int set_list))
      (pss_one (ps_ret (pv 2)))))
      pss_nil)
      (pss_cons (ps_asg (pe_op op_plus (pe_ix ix_seq (pv 0) pe_int (fun _ _ => rfl)) pe_int) (pg_sub (pv 0) pe_int set_list))
      (pss_cons (ps_set (i := 3) sc_l_take.nd rfl (by first | exact Or.inl rfl | exact Or.inr rfl) (pe_ix ix_seq (pe_lst (pa_cons pe_int (pa_cons pe_int (pa_cons pe_int (pa_cons pe_int (pa_cons pe_int pa_nil)))))) (pe_op op_modN (pe_callTy (call_int1) rfl B.b_int bt_int (pa_cons (pe_ix ix_seq (pv 0) pe_int (fun _ _ => rfl)) pa_nil)) pe_int) (fun _ _ => rfl)))
      (pss_cons (ps_set (i := 4) sc_l_take.nd rfl (by first | exact Or.inl rfl | exact Or.inr rfl) (pe_op op_modN (pe_callTy (call_int1) rfl B.b_int bt_int (pa_cons (pe_op op_powG (pe_callTy (call_int1) rfl B.b_int bt_int (pa_cons (pe_op op_plus (pe_op op_plus (pe_ix ix_seq (pv 0) pe_int (fun _ _ => rfl)) (pe_op op_timesA (pe_op op_timesA pe_int (pe_ix ix_seq (pv 0) pe_int (fun _ _ => rfl))) (pe_ix ix_seq (pv 0) pe_int (fun _ _ => rfl)))) pe_int) pa_nil)) pe_int) pa_nil)) (pv 3)))
      (pss_cons (ps_set (i := 4) sc_l_take.nd rfl (by first | exact Or.inl rfl | exact Or.inr rfl) (pe_op op_modN (pe_callTy (call_int1) rfl B.b_int bt_int (pa_cons (pe_op op_timesA (pv 4) (pe_op op_plus (pe_op op_modN (pe_callTy (call_int1) rfl B.b_int bt_int (pa_cons (pv 4) pa_nil)) pe_int) (pe_op op_timesA pe_int (pe_ix ix_seq (pv 0) pe_int (fun _ _ => rfl))))) pa_nil)) pe_int))
      (pss_one (ps_ret (pe_op op_modN (pe_callTy (call_int1) rfl B.b_int bt_int (pa_cons (pe_op op_fdivG (pv 4) pe_int) pa_nil)) (pv 1)))))))))), ?_⟩
  refine ⟨.ref a, rfl, .inl ⟨a, _, 0, .int x, rfl, rfl, .inl (.inl ha), rfl, x, 0, rfl, rfl, _, rfl, ?_⟩⟩
  have out : ∀ (x' y' m' d : Int) (H' : Hp), H' a = some (.lst [.int x', .int y', .int m']) → (∀ b o, b ≠ a → H b = some o → H' b = some o) → (0 ≤ x' ∧ x' < 2 ^ 1000 ∧ 0 ≤ y' ∧ y' < 2305843009213693921 ∧ 0 ≤ m' ∧ m' ≤ ((k + 1 : Nat) : Int)) → 0 ≤ d → d < n → Q (.int d) H' := fun x' y' m' d H' e kp c d0 d1 => by
    refine hq _ (.int d) (k + 1) G H' ⟨Same.refl G, fun b o g => kp b o (ne_of_none g ga) (le b o g), fun b o q _ nb => kp b o nb q, fun b o _ g _ => g, fun b o q => ?_, fun t => tabs_keep ha kp t, fun g => g⟩ ga ⟨x', y', m', e, c.1, c.2.1, c.2.2.1, c.2.2.2.1, c.2.2.2.2.1, c.2.2.2.2.2⟩ (.int d) (hf d d0 d1)
    by_cases hb : b = a
    · subst hb
      exact ⟨_, e⟩
    · exact ⟨o, kp b o hb q⟩
  refine ite2 (fun hx => ?_) (fun hx => ?_)
  · have hx : 0 < x := of_decide_eq_true hx
    refine ⟨.ref a, rfl, .inl ⟨a, _, 0, .int x, rfl, rfl, .inl (.inl ha), rfl, .inl ⟨x, rfl, .int n, rfl, x, n, rfl, rfl, by omega, ?_⟩⟩⟩
    refine ⟨.ref a, rfl, .inl ⟨a, _, 0, .int x, rfl, rfl, .inl (.inl ha), rfl, .int n, rfl, x, n, rfl, rfl, fdivG (a := 65) (by omega) (natAbs_lt (by omega) (by omega)) (by decide), ?_⟩⟩
    refine ⟨.ref a, rfl, a, _, 0, 0, rfl, rfl, ha, rfl, ?_⟩
    refine ⟨_, rfl, ?_⟩
    have e1 : x.fmod n = x % n := Int.fmod_eq_emod_of_nonneg x (by omega)
    have e2 : x.fdiv n = x / n := Int.fdiv_eq_ediv_of_nonneg x (by omega)
    have b1 : 0 ≤ x % n := Int.emod_nonneg _ (by omega)
    have b2 : x % n < n := Int.emod_lt_of_pos _ n0
    have b3 : 0 ≤ x / n := Int.ediv_nonneg (by omega) (by omega)
    have b4 : x / n ≤ x := Int.ediv_le_self _ (by omega)
    refine out (x.fdiv n) y m (x.fmod n) _ upd_same (fun b o nb q => by rw [upd_ne nb]; exact q) ?_ (by omega) (by omega)
    refine ⟨by omega, by omega, by omega, by omega, by omega, by omega⟩
  · refine ⟨.ref a, rfl, .inl ⟨a, _, 2, .int m, rfl, rfl, .inl (.inl ha), rfl, .inl ⟨m, 1, rfl, rfl, ?_⟩⟩⟩
    refine ⟨.ref a, rfl, a, _, 2, 2, rfl, rfl, ha, rfl, ?_⟩
    have mb : (m + 1).natAbs < 2 ^ 41 := natAbs_lt (by omega) (by omega)
    obtain ⟨pr, hpr, p0, p1⟩ : ∃ pr : Int, atI primes ((m + 1).fmod 5) = some (.int pr) ∧ 0 < pr ∧ pr < 2147483648 := by
      have e1 : (m + 1).fmod 5 = (m + 1) % 5 := Int.fmod_eq_emod_of_nonneg _ (by omega)
      rw [e1]
      have c : (m + 1) % 5 = 0 ∨ (m + 1) % 5 = 1 ∨ (m + 1) % 5 = 2 ∨ (m + 1) % 5 = 3 ∨ (m + 1) % 5 = 4 := by omega
      rcases c with c | c | c | c | c <;> rw [c]
      · exact ⟨_, rfl, by decide, by decide⟩
      · exact ⟨_, rfl, by decide, by decide⟩
      · exact ⟨_, rfl, by decide, by decide⟩
      · exact ⟨_, rfl, by decide, by decide⟩
      · exact ⟨_, rfl, by decide, by decide⟩
    have h1 : (upd H a (.lst [.int x, .int y, .int (m + 1)])) a = some (.lst [.int x, .int y, .int (m + 1)]) := upd_same
    refine ⟨by decide, fun p hp => ?_⟩
    have pa : a ≠ p := ne_of_none h1 hp
    refine ⟨.ref a, rfl, .inl ⟨a, [.int x, .int y, .int (m + 1)], 2, .int (m + 1), rfl, rfl, .inl (.inl (by rw [upd_ne pa]; exact upd_same)), rfl, .inl ⟨m + 1, rfl, m + 1, 5, rfl, rfl, (show (5 : Int) ≠ 0 by decide), .inl ⟨p, primes, _, .int pr, rfl, rfl, .inl (.inl upd_same), hpr, ?_⟩⟩⟩⟩
    obtain ⟨H2, eH2⟩ : ∃ H2, H2 = upd (upd H a (.lst [.int x, .int y, .int (m + 1)])) p (.lst primes) := ⟨_, rfl⟩
    have h2 : H2 a = some (.lst [.int x, .int y, .int (m + 1)]) := by
      rw [eH2, upd_ne pa]
      exact h1
    have kp2 : ∀ b o, b ≠ a → H b = some o → H2 b = some o := fun b o nb q => by
      have q1 : (upd H a (.lst [.int x, .int y, .int (m + 1)])) b = some o := by
        rw [upd_ne nb]
        exact q
      rw [eH2, upd_ne (ne_of_none q1 hp)]
      exact q1
    have yb : y.natAbs < 2 ^ 61 := natAbs_lt (by omega) (by omega)
    have sqb : ∀ c : Int, c.natAbs < 2 ^ 20 → (c * (m + 1)).natAbs < 2 ^ 61 := fun c hc => wide_lt hc mb
    have sqc : ∀ c : Int, c.natAbs < 2 ^ 20 → (c * (m + 1) * (m + 1)).natAbs < 2 ^ 102 := fun c hc => wide_lt (sqb c hc) mb
    -- blend
    refine ⟨.ref a, rfl, .inl ⟨a, [.int x, .int y, .int (m + 1)], 1, .int y, rfl, rfl, .inl (.inl (eH2 ▸ h2)), rfl, ?_⟩⟩
    refine ⟨.ref a, rfl, .inl ⟨a, [.int x, .int y, .int (m + 1)], 2, .int (m + 1), rfl, rfl, .inl (.inl (eH2 ▸ h2)), rfl, .inl (.inl ⟨_, m + 1, rfl, rfl, mulW (a := 20) (b := 41) (by decide) mb (by decide), ?_⟩)⟩⟩
    refine ⟨.ref a, rfl, .inl ⟨a, [.int x, .int y, .int (m + 1)], 2, .int (m + 1), rfl, rfl, .inl (.inl (eH2 ▸ h2)), rfl, .inl (.inl ⟨_, m + 1, rfl, rfl, mulW (a := 61) (b := 41) (sqb _ (by decide)) mb (by decide), ?_⟩)⟩⟩
    refine .inl ⟨_, _, rfl, rfl, .inl ⟨_, _, rfl, rfl, .inl ⟨_, rfl, _, _, rfl, rfl, powG (a := 110) (by decide) ?_ (by decide), .inl ⟨_, rfl, .int pr, rfl, _, _, rfl, rfl, by omega, ?_⟩⟩⟩⟩
    · exact nbA (a := 109) (nbA (a := 108) (nbM yb (by decide)) (nbM (sqc _ (by decide)) (by decide))) (nbM (a := 10) (by decide) (by decide))
    have F1 : ∀ i : Int, (i.fmod pr).natAbs < 2 ^ 31 := fun i => by
      have := fmod_rng (i := i) p0
      exact natAbs_lt (by omega) (by omega)
    have q1 : ∀ i c : Int, c.natAbs < 2 ^ 20 → (i.fmod 10333 + c * (m + 1)).natAbs < 2 ^ 62 := fun i c hc => by
      have f := fmod_rng (i := i) (j := 10333) (by decide)
      exact nbA (a := 61) (natAbs_lt (by omega) (by omega)) (sqb c hc)
    refine ⟨_, rfl, _, rfl, .inl ⟨_, rfl, _, 10333, rfl, rfl, (show (10333 : Int) ≠ 0 by decide), ?_⟩⟩
    refine ⟨.ref a, rfl, .inl ⟨a, [.int x, .int y, .int (m + 1)], 2, .int (m + 1), rfl, rfl, .inl (.inl (eH2 ▸ h2)), rfl, .inl (.inl ⟨_, m + 1, rfl, rfl, mulW (a := 20) (b := 41) (by decide) mb (by decide), ?_⟩)⟩⟩
    refine .inl ⟨_, _, rfl, rfl, .inl (.inl ⟨_, _, rfl, rfl, mulW (a := 31) (b := 62) (F1 _) (q1 _ _ (by decide)) (by decide), .inl ⟨_, rfl, _, _, rfl, rfl, (show (2305843009213693907 : Int) ≠ 0 by decide), ?_⟩⟩)⟩
    refine ⟨_, rfl, _, 163, rfl, rfl, fdivG (a := 10) (by decide) (by decide) (by decide), .inl ⟨_, rfl, .int n, rfl, _, n, rfl, rfl, by omega, ?_⟩⟩
    refine out x y (m + 1) _ _ (eH2 ▸ h2) (eH2 ▸ kp2) ⟨by omega, by omega, by omega, by omega, by omega, by omega⟩ (fmod_rng n0).1 (fmod_rng n0).2
end
abbrev s_l_pot : Stmt := topS 11
abbrev n_l_pot : List Str := ["_law_script", "_law_place", "_law_cell", "_law_own", "_law_small"]
abbrev p_l_pot : List Str := ["_law_script", "_law_place"]
theorem sc_l_pot : FnScope n_l_pot p_l_pot (defScope s_l_pot) := ⟨rfl, rfl, rfl, by decide +kernel, rfl, by decide +kernel, by decide +kernel⟩

section
variable {P : Program} {w : World} {K : PySem.W.Frag} {mg : Str → Option Value} {base : Heap}
def fn_pot : List D → Prop := fun ds => ∃ ns i, ds = [.scr ns, .int i] ∧ 0 ≤ i ∧ i ≤ 100000
theorem ok_pot {f : Addr} {fd : FuncData} (B : Bt mg) (F : Fun K "_law_pot" "_law_pot" s_l_pot f fd) : FnG P w K mg base CX0 1 f fd p_l_pot (spN K fn_pot) := by
  refine okG F sc_l_pot (fun vs H Q E ⟨G, ds, le, kd, ⟨ns, i, e, _⟩, _⟩ => by rw [kd.length, e]; rfl) (fun cdv A outer s H vs Q E gd hr ⟨G, ds, le, kd, hf, hq⟩ => ?_)
  obtain ⟨ns, i, rfl, i0, i1⟩ := hf
  refine ⟨_, PSs.nox ((pss_cons (ps_set (i := 2) sc_l_pot.nd rfl (by first | exact Or.inl rfl | exact Or.inr rfl) (pe_ifExp (pt_cmpR op_lt (pv 1) (pe_callB ((CallR.or call_len_seq call_len_str)) rfl B.b_len bt_len (pa_cons (pv 0) pa_nil)) (nomark _)) (pe_ix ix_seq (pv 0) (pv 1) (fun _ _ => rfl)) (pe_op op_plus (pe_op op_timesA pe_int (pv 1)) pe_int)))
      (pss_cons (ps_set (i := 3) sc_l_pot.nd rfl (by first | exact Or.inl rfl | exact Or.inr rfl) (pe_op op_timesA (pe_op op_modN (pe_callTy (call_int1) rfl B.b_int bt_int (pa_cons (pe_callB (call_abs) rfl B.b_abs bt_abs (pa_cons (pv 2) pa_nil)) pa_nil)) (pe_op op_powG (pe_op op_powG pe_int pe_int) pe_int)) (pe_callTy (call_int1) rfl B.b_int bt_int (pa_cons (pe_cmpR op_ge (pe_callB (call_abs) rfl B.b_abs bt_abs (pa_cons (pv 2) pa_nil)) (pe_op op_powG pe_int pe_int) (nomark _)) pa_nil))))
      (pss_cons (ps_set (i := 4) sc_l_pot.nd rfl (by first | exact Or.inl rfl | exact Or.inr rfl) (pe_op op_modN (pe_callTy (call_int1) rfl B.b_int bt_int (pa_cons (pv 2) pa_nil)) pe_int))
      (pss_one (ps_ret (pe_lst (pa_cons (pv 3) (pa_cons (pe_op op_modN (pe_callTy (call_int1) rfl B.b_int bt_int (pa_cons (pe_op op_plus (pe_op op_plus (pe_op op_timesA (pv 4) pe_int) (pe_op op_timesA (pe_op op_timesA pe_int (pv 1)) (pv 1))) pe_int) pa_nil)) pe_int) (pa_cons pe_int pa_nil)))))))))), ?_⟩
  have ib : i.natAbs < 2 ^ 17 := natAbs_lt (by omega) (by omega)
  have C1 : (10 ^ (60 : Int).toNat : Int).natAbs < 2 ^ 200 := by decide +kernel
  have C2 : ((10 ^ (60 : Int).toNat : Int) ^ (5 : Int).toNat : Int).natAbs < 2 ^ 999 := by decide +kernel
  have C3 : (0 : Int) < (10 ^ (60 : Int).toNat : Int) ^ (5 : Int).toNat := by decide +kernel
  have C4 : ((10 ^ (60 : Int).toNat : Int) ^ (5 : Int).toNat : Int) < 2 ^ 1000 := by decide +kernel
  have C5 : ((10 ^ (60 : Int).toNat : Int) ^ (5 : Int).toNat : Int) ≠ 0 := by omega
  refine xs_then (N := fun ρ => ∃ c : Int, ρ = [.dat (.scr ns), .dat (.int i), .dat (.int c), .un, .un]) ?_ (start_sg le kd (fun _ => False)) fun σ1 G1 H1 ρ1 S1 ⟨c, e1⟩ => ?_
  · refine xs_set ?_
    repeat walk_at "ev"
    refine ⟨fun h => ?_, fun h => ?_⟩
    · have h : i < (ns.length : Int) := of_decide_eq_true h
      refine ev_op ?_
      repeat walk_at "ev"
      refine rd_k (r := rIx) rfl (ix_scr ⟨i.toNat, by omega, List.getElem?_eq_getElem (by omega)⟩ ?_)
      exact ⟨_, rfl⟩
    · repeat walk_at "ev"
      refine rd_k (r := rTimesA) rfl (DL.mul_int (mulW (a := 20) (b := 17) (by decide) ib (by decide)) ?_)
      repeat walk_at "ev"
      exact ⟨_, rfl⟩
  subst e1
  refine xs_then (N := fun ρ => ∃ x : Int, 0 ≤ x ∧ x < 2 ^ 1000 ∧ ρ = [.dat (.scr ns), .dat (.int i), .dat (.int c), .dat (.int x), .un]) ?_ S1 fun σ2 G2 H2 ρ2 S2 ⟨x, x0, x1, e2⟩ => ?_
  · refine xs_set ?_
    repeat walk_at "ev"
    refine rd_I (powG (a := 10) (by decide) (by decide) (by decide)) ?_
    repeat walk_at "ev"
    refine rd_I (powG (a := 200) (by decide) C1 (by decide)) ?_
    refine rd_I C5 ?_
    repeat walk_at "ev"
    refine rd_I (powG (a := 10) (by decide) (by decide) (by decide)) ?_
    repeat walk_at "ev"
    have r := fmod_rng (i := if c < 0 then -c else c) C3
    refine rd_k (r := rTimesA) rfl (DL.mul_int (mulW (a := 1000) (b := 2) (natAbs_lt (Int.lt_of_lt_of_le (by decide) r.1) (Int.lt_trans r.2 C4)) (bit_nb _) (by decide)) ?_)
    have r2 := fun b => bit_mul r.1 b
    exact ⟨_, (r2 _).1, Int.lt_of_le_of_lt (r2 _).2 (Int.lt_trans r.2 C4), rfl⟩
  subst e2
  refine xs_then (N := fun ρ => ∃ z : Int, 0 ≤ z ∧ z < 2305843009213693951 ∧ ρ = [.dat (.scr ns), .dat (.int i), .dat (.int c), .dat (.int x), .dat (.int z)]) ?_ S2 fun σ3 G3 H3 ρ3 S3 ⟨z, z0, z1, e3⟩ => ?_
  · refine xs_set ?_
    repeat walk_at "ev"
    refine rd_I (show (2305843009213693951 : Int) ≠ 0 by decide) ?_
    have r := fmod_rng (i := c) (j := 2305843009213693951) (by decide)
    exact ⟨_, r.1, r.2, rfl⟩
  subst e3
  have zb : z.natAbs < 2 ^ 61 := natAbs_lt (by omega) (by omega)
  refine en_lst (P := fun ds _ => ∃ u v : Int, ds = [.int u, .int v, .int 0] ∧ 0 ≤ u ∧ u < 2 ^ 1000 ∧ 0 ≤ v ∧ v < 2305843009213693921) ?_ _ _ _ _ S3 fun p us ds G4 H4 ρ4 s4 p4 n g h k => ?_
  · repeat walk_at "ev"
    refine rd_k (r := rTimesA) rfl (DL.mul_int (mulW (a := 61) (b := 20) zb (by decide) (by decide)) ?_)
    repeat walk_at "ev"
    refine rd_k (r := rTimesA) rfl (DL.mul_int (mulW (a := 20) (b := 17) (by decide) ib (by decide)) ?_)
    repeat walk_at "ev"
    refine rd_k (r := rTimesA) rfl (DL.mul_int (mulW (a := 37) (b := 17) (nbX (a := 20) (b := 17) (by decide) ib) ib (by decide)) ?_)
    repeat walk_at "ev"
    refine rd_I (show (2305843009213693921 : Int) ≠ 0 by decide) ?_
    repeat walk_at "ev"
    exact ⟨_, _, rfl, x0, x1, (fmod_rng (by decide)).1, (fmod_rng (by decide)).2⟩
  · obtain ⟨u, v, rfl, u0, u1, v0, v1⟩ := p4
    have e : us = [.int u, .int v, .int 0] := by
      cases k with
      | cons a k =>
        obtain ⟨b, d, rfl, b1, b2⟩ := k.two
        rw [a.int_inv, b1.int_inv, b2.int_inv]
    subst e
    refine hq p G4 H4 s4.st.ext ?_ g ⟨u, v, 0, h, u0, u1, v0, v1, by omega, by omega⟩
    exact h0_none S3 n
end
abbrev s_l_of : Stmt := topS 13
abbrev n_l_of : List Str := ["_law_pot_here", "_law_some"]
abbrev p_l_of : List Str := ["_law_pot_here", "_law_some"]
theorem sc_l_of : FnScope n_l_of p_l_of (defScope s_l_of) := ⟨rfl, rfl, rfl, by decide +kernel, rfl, by decide +kernel, by decide +kernel⟩

section
variable {P : Program} {w : World} {K : PySem.W.Frag} {mg : Str → Option Value} {base : Heap}
def fp_of : FP := fun k ds R _ => ∃ xs, ds = [.lst xs] ∧ 0 < xs.length ∧ xs.length ≤ 100000 ∧ k < 2 ^ 40 ∧ ∀ x ∈ xs, R x (k + 1)
theorem ok_of {f : Addr} {fd : FuncData} (B : Bt mg) (c_l_take : Cal P w K mg base CX0 1 "_law_take" p_l_take [] (spP K fp_take)) (F : Fun K "_law_of" "_law_of" s_l_of f fd) : FnG P w K mg base CX0 2 f fd p_l_of (spP K fp_of) := by
  refine okG F sc_l_of (spP_len fun k ds R Z ⟨xs, e, _⟩ => by rw [e]; rfl) (fun cdv A outer s H vs Q E gd hr ⟨a, ws, G, ds, k, R, Z, ev, le, ga, pa, kd, hf, hq, hz⟩ => ?_)
  obtain ⟨xs, rfl, x0, x1, k1, hf⟩ := hf
  subst ev
  refine ⟨_, PSs.nox ((pss_one (ps_ret (pe_ix ix_seq (pv 1) (pe_cal c_l_take gd (hr.mono (by first | decide | omega)) pass0 (pa_cons (pv 0) (pa_cons (pe_callB ((CallR.or call_len_seq call_len_str)) rfl B.b_len bt_len (pa_cons (pv 1) pa_nil)) pa_nil))) (fun _ _ => rfl))))), fin_P le ga pa kd hq ?_⟩
  refine xs_ret ?_
  repeat walk_at "ev"
  refine ev_callP (Z := fun _ _ => False) Flies.none (fun _ => .nil) (by exact ⟨_, _, rfl⟩) ?_
  repeat walk_at "ev"
  refine ⟨_, _, rfl, _, rfl, by omega, by omega, k1, fun d d0 d1 => ?_⟩
  have hd : d.toNat < xs.length := by omega
  exact rd_k (r := rIx) rfl (ix_lst ⟨d.toNat, by omega, List.getElem?_eq_getElem hd⟩ ⟨k + 1, rfl, hf _ (List.getElem_mem hd)⟩)
end
abbrev s_l_cells : Stmt := topS 22
abbrev n_l_cells : List Str := ["_law_script", "_law_most"]
abbrev p_l_cells : List Str := ["_law_script", "_law_most"]
theorem sc_l_cells : FnScope n_l_cells p_l_cells (defScope s_l_cells) := ⟨rfl, rfl, rfl, by decide +kernel, rfl, by decide +kernel, by decide +kernel⟩

section
variable {P : Program} {w : World} {K : PySem.W.Frag} {mg : Str → Option Value} {base : Heap}
def fs_cells : FS := fun ds R _ => ∃ ns m, ds = [.scr ns, .int m] ∧ 0 ≤ m ∧ m ≤ 100 ∧ ∀ n : Nat, n ≤ 100 → R (.lst (intsD 0 n))
theorem ok_cells {f : Addr} {fd : FuncData} (B : Bt mg) (F : Fun K "_law_cells" "_law_cells" s_l_cells f fd) : FnG P w K mg base CX0 1 f fd p_l_cells (spD K fs_cells) := by
  refine okG F sc_l_cells (spD_len fun ds R Z ⟨ns, m, e, _⟩ => by rw [e]; rfl) (fun cdv A outer s H vs Q E gd hr ⟨G, ds, R, Z, le, kd, hf, hq, hz⟩ => ?_)
  obtain ⟨ns, m, rfl, m0, m1, hf⟩ := hf
  refine ⟨_, PSs.nox ((pss_one (ps_ret (pe_listRg rfl rfl B.b_list (prg_1 rfl B.b_range (pe_callB (call_max2 rfl) rfl B.b_max bt_max (pa_cons pe_int (pa_cons (pe_callB (call_min2 rfl) rfl B.b_min bt_min (pa_cons (pv 1) (pa_cons (pe_callB ((CallR.or call_len_seq call_len_str)) rfl B.b_len bt_len (pa_cons (pv 0) pa_nil)) pa_nil))) pa_nil)))))))), fin_D le kd hq ?_⟩
  refine xs_ret (EvN.ev (en_listRg ?_))
  repeat walk_at "ev"
  refine ⟨(if (if (ns.length : Int) < m then (ns.length : Int) else m) > 1 then (if (ns.length : Int) < m then (ns.length : Int) else m) else 1).toNat, ?_, ?_, hf _ ?_⟩
  · congr 1
    split <;> split <;> omega
  · split <;> split <;> omega
  · split <;> split <;> omega
end
abbrev s_l_odd : Stmt := topS 14
abbrev n_l_odd : List Str := ["_law_pot_here", "_law_some"]
abbrev p_l_odd : List Str := ["_law_pot_here"]
theorem sc_l_odd : FnScope n_l_odd p_l_odd (defScope s_l_odd) := ⟨rfl, rfl, rfl, by decide +kernel, rfl, by decide +kernel, by decide +kernel⟩

def odds : List D := [.non, .bl true, .bl false, .int 0, .int 1, .int (-1), .int 7, .int (10 ^ (8 : Int).toNat), .str "", .str "a", .str "nosuch", .str "told", .tup [], .lst [], .dic [], .tup [.int 0], .tup [.tup []], .lst [.int 0], .tup [.int 1, .int 0]] ++
  [.tup [.str "a"], .tup [.str "a", .str "b"], .tup [.int 1, .int 2], .tup [.int 2, .int 4], .tup [.int 0, .int 1], .tup [.tup [.int 1, .int 1]], .tup [.non], .dic [(.inr "a", .int 1)], .str "A", .tup [.str "told", .tup []], .str "1"]
section
variable {P : Program} {w : World} {K : PySem.W.Frag} {mg : Str → Option Value} {base : Heap}
def fp_odd : FP := fun k ds R _ => ds = [] ∧ k < 2 ^ 40 ∧ ∀ x ∈ odds, R x (k + 1)
theorem ok_odd {f : Addr} {fd : FuncData} (B : Bt mg) (c_l_of : Cal P w K mg base CX0 2 "_law_of" p_l_of [] (spP K fp_of)) (F : Fun K "_law_odd" "_law_odd" s_l_odd f fd) : FnG P w K mg base CX0 3 f fd p_l_odd (spP K fp_odd) := by
  refine okG F sc_l_odd (spP_len fun k ds R Z ⟨e, _⟩ => by rw [e]; rfl) (fun cdv A outer s H vs Q E gd hr ⟨a, ws, G, ds, k, R, Z, ev, le, ga, pa, kd, hf, hq, hz⟩ => ?_)
  obtain ⟨rfl, k1, hf⟩ := hf
  subst ev
  refine ⟨_, PSs.nox ((pss_cons (ps_set (i := 1) sc_l_odd.nd rfl (by first | exact Or.inl rfl | exact Or.inr rfl) (pe_lst (pa_cons pe_non (pa_cons pe_bl (pa_cons pe_bl (pa_cons pe_int (pa_cons pe_int (pa_cons (pe_un un_neg pe_int) (pa_cons pe_int (pa_cons (pe_op op_powG pe_int pe_int) (pa_cons pe_str (pa_cons pe_str (pa_cons pe_str (pa_cons pe_str (pa_cons (pe_tup pa_nil) (pa_cons (pe_lst pa_nil) (pa_cons pe_dnewK (pa_cons (pe_tup (pa_cons pe_int pa_nil)) (pa_cons (pe_tup (pa_cons (pe_tup pa_nil) pa_nil)) (pa_cons (pe_lst (pa_cons pe_int pa_nil)) (pa_cons (pe_tup (pa_cons pe_int (pa_cons pe_int pa_nil))) pa_nil)))))))))))))))))))))
      (pss_cons (ps_set (i := 1) sc_l_odd.nd rfl (by first | exact Or.inl rfl | exact Or.inr rfl) (pe_op op_plus (pv 1) (pe_lst (pa_cons (pe_tup (pa_cons pe_str pa_nil)) (pa_cons (pe_tup (pa_cons pe_str (pa_cons pe_str pa_nil))) (pa_cons (pe_tup (pa_cons pe_int (pa_cons pe_int pa_nil))) (pa_cons (pe_tup (pa_cons pe_int (pa_cons pe_int pa_nil))) (pa_cons (pe_tup (pa_cons pe_int (pa_cons pe_int pa_nil))) (pa_cons (pe_tup (pa_cons (pe_tup (pa_cons pe_int (pa_cons pe_int pa_nil))) pa_nil)) (pa_cons (pe_tup (pa_cons pe_non pa_nil)) (pa_cons (pe_disp (pps_cons pe_str pe_int pps_nil) rfl rfl (by simp) (by decide)) (pa_cons pe_str (pa_cons (pe_tup (pa_cons pe_str (pa_cons (pe_tup pa_nil) pa_nil))) (pa_cons pe_str pa_nil))))))))))))))
      (pss_one (ps_ret (pe_cal c_l_of gd (hr.mono (by first | decide | omega)) pass0 (pa_cons (pv 0) (pa_cons (pv 1) pa_nil)))))))), fin_P le ga pa kd hq ?_⟩
  refine xs_seq (xs_set ?_)
  repeat walk_at "ev"
  refine rd_I (powG (a := 10) (by decide) (by decide) (by decide)) ?_
  repeat walk_at "ev"
  refine ev_dnew ?_
  repeat walk_at "ev"
  refine xs_set ?_
  repeat walk_at "ev"
  refine ev_disp1 ?_
  repeat walk_at "ev"
  refine rd_k (r := rPlus) rfl (plus_lst (by decide) ?_)
  refine xs_ret (ev_callP (Z := fun _ _ => False) Flies.none (fun _ => .nil) (by exact ⟨_, _, rfl⟩) ?_)
  repeat walk_at "ar"
  refine ⟨_, _, rfl, odds, rfl, by decide, by decide, k1, fun x hx => ?_⟩
  exact ⟨_, rfl, hf x hx⟩
end
end K03
open LamX
namespace K03
variable [TabT]
abbrev s_l_gcd : Stmt := topS 16
abbrev n_l_gcd : List Str := ["_law_some", "_law_found", "_law_number", "_law_rest"]
abbrev p_l_gcd : List Str := ["_law_some"]
theorem sc_l_gcd : FnScope n_l_gcd p_l_gcd (defScope s_l_gcd) := ⟨rfl, rfl, rfl, by decide +kernel, rfl, by decide +kernel, by decide +kernel⟩

section
variable {P : Program} {w : World} {K : PySem.W.Frag} {mg : Str → Option Value} {base : Heap}
def gcds (ns : List Int) : Nat := ns.foldl (fun g n => Nat.gcd g n.natAbs) 0
def fs_gcd : FS := fun ds R _ => ∃ ns : List Int, ds = [.lst (ns.map .int)] ∧ R (.int (gcds ns : Nat))
theorem gcds_take {ns : List Int} {i : Nat} {n : Int} (h : ns[i]? = some n) : gcds (ns.take (i + 1)) = Nat.gcd (gcds (ns.take i)) n.natAbs := by
  unfold gcds
  rw [List.take_add_one, h]
  simp [List.foldl_append]
theorem ok_gcd {f : Addr} {fd : FuncData} (B : Bt mg) (F : Fun K "_law_gcd" "_law_gcd" s_l_gcd f fd) : FnG P w K mg base CX0 1 f fd p_l_gcd (spD K fs_gcd) := by
  refine okG F sc_l_gcd (spD_len fun ds R Z ⟨ns, e, _⟩ => by rw [e]; rfl) (fun cdv A outer s H vs Q E gd hr ⟨G, ds, R, Z, le, kd, hf, hq, hz⟩ => ?_)
  obtain ⟨ns, rfl, hf⟩ := hf
  refine ⟨_, PSs.nox ((pss_cons (ps_set (i := 1) sc_l_gcd.nd rfl (by first | exact Or.inl rfl | exact Or.inr rfl) pe_int)
      (pss_cons (ps_for PassesOwn.never rfl (pi_list (pv 0)) (pg_name (i := 2) sc_l_gcd.nd rfl (by first | exact Or.inl rfl | exact Or.inr rfl))
      (pss_cons (ps_set (i := 3) sc_l_gcd.nd rfl (by first | exact Or.inl rfl | exact Or.inr rfl) (pe_callB (call_abs) rfl B.b_abs bt_abs (pa_cons (pe_callTy (call_int1) rfl B.b_int bt_int (pa_cons (pv 2) pa_nil)) pa_nil)))
      (pss_one (ps_while PassesOwn.never (pt_cmpR op_gt (pv 3) pe_int (nomark _))
      (pss_one (ps_par (i := 1) (j := 3) rfl sc_l_gcd.nd rfl rfl (by decide) rfl rfl (pa_cons (pv 3) (pa_cons (pe_op op_modN (pe_callTy (call_int1) rfl B.b_int bt_int (pa_cons (pv 1) pa_nil)) (pv 3)) pa_nil)) rfl))))))
      (pss_one (ps_ret (pv 1)))))), fin_D le kd hq ?_⟩
  refine xs_seq (xs_set (ev_int ?_))
  refine xs_seq ?_
  refine xs_for (is := [2]) (fun _ i ρ => ∃ u1 u2 : Slot, ρ = [.dat (.lst (ns.map .int)), .dat (.int (gcds (ns.take i) : Nat)), u1, u2]) (ei_list (ev_var rfl ?_))
  refine ⟨_, rfl, ⟨.un, .un, rfl⟩, fun i d ρ hd hI => ?_, fun ρ hI => ?_⟩
  · obtain ⟨u1, u2, rfl⟩ := hI
    rw [List.getElem?_map] at hd
    obtain ⟨n, hn, rfl⟩ := Option.map_eq_some_iff.mp hd
    refine eg_name ?_
    refine xs_seq (xs_set ?_)
    repeat walk_at "ev"
    have ea : (if n < 0 then -n else n) = (n.natAbs : Int) := by split <;> omega
    rw [ea]
    refine xs_while (fun m ρ => ∃ g r : Nat, m = r ∧ Nat.gcd g r = gcds (ns.take (i + 1)) ∧ ρ = [.dat (.lst (ns.map .int)), .dat (.int (g : Int)), .dat (.int n), .dat (.int (r : Int))]) ⟨_, n.natAbs, rfl, (gcds_take hn).symm, rfl⟩ fun m ρ hm => ?_
    obtain ⟨g, r, hmr, hg, rfl⟩ := hm
    repeat walk_at "ev"
    refine ⟨fun h => ?_, fun h => ?_⟩
    · have hr0 : (0 : Int) < (r : Int) := of_decide_eq_true h
      refine xs_parDD ?_
      repeat walk_at "ev"
      refine rd_I (show (r : Int) ≠ 0 by omega) ?_
      have e1 : (g : Int).fmod (r : Int) = ((g % r : Nat) : Int) := by
        rw [Int.fmod_eq_emod_of_nonneg _ (by omega)]
        rfl
      rw [e1]
      refine ⟨g % r, by rw [hmr]; exact Nat.mod_lt _ (by omega), r, g % r, rfl, ?_, rfl⟩
      rw [← hg, Nat.gcd_comm g r, Nat.gcd_rec r g, Nat.gcd_comm]
    · have h : ¬ (0 : Int) < (r : Int) := of_decide_eq_false h
      have r0 : r = 0 := by omega
      subst r0
      rw [Nat.gcd_zero_right] at hg
      subst hg
      exact ⟨_, _, rfl⟩
  · obtain ⟨u1, u2, rfl⟩ := hI
    refine xs_ret (ev_var rfl ?_)
    rw [List.length_map, List.take_length]
    exact hf
theorem gcds2 (a b : Int) : gcds [a, b] = Nat.gcd a.natAbs b.natAbs := by
  unfold gcds
  simp
end
abbrev s_l_fraction : Stmt := topS 17
abbrev n_l_fraction : List Str := ["_law_top", "_law_low", "_law_size"]
abbrev p_l_fraction : List Str := ["_law_top", "_law_low"]
theorem sc_l_fraction : FnScope n_l_fraction p_l_fraction (defScope s_l_fraction) := ⟨rfl, rfl, rfl, by decide +kernel, rfl, by decide +kernel, by decide +kernel⟩

section
variable {P : Program} {w : World} {K : PySem.W.Frag} {mg : Str → Option Value} {base : Heap}
def fs_lfraction : FS := fun ds R _ => ∃ t l : Int, ds = [.int t, .int l] ∧ 0 < l ∧ l.natAbs < 2 ^ 8950 ∧ R (frq (mkRat t l.toNat))
theorem ok_lfraction {f : Addr} {fd : FuncData} (B : Bt mg) (c_l_gcd : Cal P w K mg base CX0 1 "_law_gcd" p_l_gcd [] (spD K fs_gcd)) (F : Fun K "_law_fraction" "_law_fraction" s_l_fraction f fd) : FnG P w K mg base CX0 2 f fd p_l_fraction (spD K fs_lfraction) := by
  refine okG F sc_l_fraction (spD_len fun ds R Z ⟨t, l, e, _⟩ => by rw [e]; rfl) (fun cdv A outer s H vs Q E gd hr ⟨G, ds, R, Z, le, kd, hf, hq, hz⟩ => ?_)
  obtain ⟨t, l, rfl, l0, lb, hf⟩ := hf
  rw [frq_mk l0] at hf
  refine ⟨_, PSs.nox ((pss_cons (ps_set (i := 2) sc_l_fraction.nd rfl (by first | exact Or.inl rfl | exact Or.inr rfl) (pe_op op_timesA (pe_cal c_l_gcd gd (hr.mono (by first | decide | omega)) pass0 (pa_cons (pe_lst (pa_cons (pv 0) (pa_cons (pv 1) pa_nil))) pa_nil)) (pe_ifExp (pt_cmpR op_gt (pv 1) pe_int (nomark _)) pe_int (pe_un un_neg pe_int))))
      (pss_one (ps_ret (pe_tup (pa_cons (pe_op op_fdivG (pv 0) (pv 2)) (pa_cons (pe_op op_fdivG (pv 1) (pv 2)) pa_nil))))))), fin_D le kd hq ?_⟩
  refine xs_seq (xs_set ?_)
  refine ev_op (ev_call (Z := fun _ _ => False) Flies.none (fun _ => .nil) ?_)
  repeat walk_at "ev"
  refine ⟨[t, l], rfl, ?_⟩
  rw [gcds2]
  have hl : 0 < l.natAbs := by omega
  have g0 : 0 < Nat.gcd t.natAbs l.natAbs := Nat.gcd_pos_of_pos_right _ hl
  have g1 : Nat.gcd t.natAbs l.natAbs ≤ l.natAbs := Nat.gcd_le_right _ hl
  generalize Nat.gcd t.natAbs l.natAbs = g at g0 g1 hf
  have gb : ((g : Nat) : Int).natAbs < 2 ^ 8950 := by
    rw [Int.natAbs_natCast]
    exact Nat.lt_of_le_of_lt g1 lb
  repeat walk_at "ev"
  refine ⟨fun h => ?_, fun h => ?_⟩
  · repeat walk_at "ev"
    refine rd_k (r := rTimesA) rfl (DL.mul_int (mulW (a := 8950) (b := 2) gb (by decide) (by decide)) ?_)
    rw [Int.mul_one]
    refine xs_ret ?_
    repeat walk_at "ev"
    refine rd_I (fdivG (a := 8950) (by omega) gb (by decide)) ?_
    repeat walk_at "ev"
    refine rd_I (fdivG (a := 8950) (by omega) gb (by decide)) ?_
    repeat walk_at "ev"
    exact hf
  · have h : ¬ (0 : Int) < l := of_decide_eq_false h
    exact absurd l0 h
end
abbrev s_l_drawn_fraction : Stmt := topS 18
abbrev n_l_drawn_fraction : List Str := ["_law_pot_here", "_law_top"]
abbrev p_l_drawn_fraction : List Str := ["_law_pot_here"]
theorem sc_l_drawn_fraction : FnScope n_l_drawn_fraction p_l_drawn_fraction (defScope s_l_drawn_fraction) := ⟨rfl, rfl, rfl, by decide +kernel, rfl, by decide +kernel, by decide +kernel⟩

section
variable {P : Program} {w : World} {K : PySem.W.Frag} {mg : Str → Option Value} {base : Heap}
def fp_drawn : FP := fun k ds R _ => ds = [] ∧ k + 10 < 2 ^ 40 ∧ ∀ q, Sm 17 q → R (frq q) (k + 5)
theorem ok_drawn {f : Addr} {fd : FuncData} (B : Bt mg) (c_l_take : Cal P w K mg base CX0 1 "_law_take" p_l_take [] (spP K fp_take)) (c_l_of : Cal P w K mg base CX0 2 "_law_of" p_l_of [] (spP K fp_of)) (c_l_fraction : Cal P w K mg base CX0 2 "_law_fraction" p_l_fraction [] (spD K fs_lfraction)) (F : Fun K "_law_drawn_fraction" "_law_drawn_fraction" s_l_drawn_fraction f fd) : FnG P w K mg base CX0 3 f fd p_l_drawn_fraction (spP K fp_drawn) := by
  refine okG F sc_l_drawn_fraction (spP_len fun k ds R Z ⟨e, _⟩ => by rw [e]; rfl) (fun cdv A outer s H vs Q E gd hr ⟨a, ws, G, ds, k, R, Z, ev, le, ga, pa, kd, hf, hq, hz⟩ => ?_)
  obtain ⟨rfl, k1, hf⟩ := hf
  subst ev
  refine ⟨_, PSs.nox ((pss_cons (ps_set (i := 1) sc_l_drawn_fraction.nd rfl (by first | exact Or.inl rfl | exact Or.inr rfl) (pe_op op_timesA (pe_cal c_l_take gd (hr.mono (by first | decide | omega)) pass0 (pa_cons (pv 0) (pa_cons (pe_cal c_l_of gd (hr.mono (by first | decide | omega)) pass0 (pa_cons (pv 0) (pa_cons (pe_lst (pa_cons pe_int (pa_cons pe_int (pa_cons pe_int (pa_cons pe_int (pa_cons (pe_op op_powG pe_int pe_int) pa_nil)))))) pa_nil))) pa_nil))) (pe_cal c_l_of gd (hr.mono (by first | decide | omega)) pass0 (pa_cons (pv 0) (pa_cons (pe_lst (pa_cons pe_int (pa_cons pe_int (pa_cons (pe_un un_neg pe_int) pa_nil)))) pa_nil)))))
      (pss_one (ps_ret (pe_cal c_l_fraction gd (hr.mono (by first | decide | omega)) pass0 (pa_cons (pv 1) (pa_cons (pe_op op_plus pe_int (pe_cal c_l_take gd (hr.mono (by first | decide | omega)) pass0 (pa_cons (pv 0) (pa_cons (pe_cal c_l_of gd (hr.mono (by first | decide | omega)) pass0 (pa_cons (pv 0) (pa_cons (pe_lst (pa_cons pe_int (pa_cons pe_int (pa_cons pe_int (pa_cons pe_int (pa_cons pe_int pa_nil)))))) pa_nil))) pa_nil)))) pa_nil))))))), fin_P le ga pa kd hq ?_⟩
  refine xs_mid (fun ρ => ∃ t : Int, t.natAbs < 2 ^ 17 ∧ ρ = [.pot a (k + 3), .dat (.int t)]) ?_ fun ρ ⟨t, ht, e⟩ => ?_
  · refine xs_set (ev_op (ev_callP (Z := fun _ _ => False) Flies.none (fun _ => .nil) (by exact ⟨_, _, rfl⟩) ?_))
    refine ea_cons (ev_callP (Z := fun _ _ => False) Flies.none (fun _ => .nil) (by exact ⟨_, _, rfl⟩) ?_)
    repeat walk_at "ev"
    refine rd_I (powG (a := 10) (by decide) (by decide) (by decide)) ?_
    repeat walk_at "ev"
    refine ⟨_, _, rfl, _, rfl, by simp, by simp, by omega, fun x hx => ?_⟩
    have hx' : ∃ n : Int, x = .int n ∧ 0 < n ∧ n ≤ 100000 := by
      simp only [List.mem_cons, List.not_mem_nil, or_false] at hx
      rcases hx with rfl | rfl | rfl | rfl | rfl
      · exact ⟨_, rfl, by decide, by decide⟩
      · exact ⟨_, rfl, by decide, by decide⟩
      · exact ⟨_, rfl, by decide, by decide⟩
      · exact ⟨_, rfl, by decide, by decide⟩
      · exact ⟨_, rfl, by decide, by decide⟩
    obtain ⟨n, rfl, n0, n1⟩ := hx'
    repeat walk_at "ev"
    refine ⟨_, _, rfl, _, rfl, n0, by omega, by omega, fun d d0 d1 => ?_⟩
    refine ev_callP (Z := fun _ _ => False) Flies.none (fun _ => .nil) (by exact ⟨_, _, rfl⟩) ?_
    repeat walk_at "ev"
    refine ⟨_, _, rfl, _, rfl, by simp, by simp, by omega, fun x hx => ?_⟩
    have hx' : ∃ s : Int, x = .int s ∧ (s = 1 ∨ s = -1) := by
      simp only [List.mem_cons, List.not_mem_nil, or_false] at hx
      rcases hx with rfl | rfl | rfl
      · exact ⟨_, rfl, .inl rfl⟩
      · exact ⟨_, rfl, .inl rfl⟩
      · exact ⟨_, rfl, .inr rfl⟩
    obtain ⟨s, rfl, hs⟩ := hx'
    refine rd_k (r := rTimesA) rfl (DL.mul_int (mulW (a := 17) (b := 2) (natAbs_lt (by omega) (by omega)) (by rcases hs with rfl | rfl <;> decide) (by decide)) ?_)
    refine ⟨d * s, ?_, rfl⟩
    rcases hs with rfl | rfl
    · exact natAbs_lt (by omega) (by omega)
    · exact natAbs_lt (by omega) (by omega)
  subst e
  refine xs_ret (ev_call (Z := fun _ _ => False) Flies.none (fun _ => .nil) ?_)
  repeat walk_at "ev"
  refine ev_callP (Z := fun _ _ => False) Flies.none (fun _ => .nil) (by exact ⟨_, _, rfl⟩) ?_
  refine ea_cons (ev_callP (Z := fun _ _ => False) Flies.none (fun _ => .nil) (by exact ⟨_, _, rfl⟩) ?_)
  repeat walk_at "ev"
  refine ⟨_, _, rfl, _, rfl, by simp, by simp, by omega, fun x hx => ?_⟩
  have hx' : ∃ n : Int, x = .int n ∧ 0 < n ∧ n ≤ 1000 := by
    simp only [List.mem_cons, List.not_mem_nil, or_false] at hx
    rcases hx with rfl | rfl | rfl | rfl | rfl
    · exact ⟨_, rfl, by decide, by decide⟩
    · exact ⟨_, rfl, by decide, by decide⟩
    · exact ⟨_, rfl, by decide, by decide⟩
    · exact ⟨_, rfl, by decide, by decide⟩
    · exact ⟨_, rfl, by decide, by decide⟩
  obtain ⟨n, rfl, n0, n1⟩ := hx'
  repeat walk_at "ev"
  refine ⟨_, _, rfl, _, rfl, n0, by omega, by omega, fun d d0 d1 => ?_⟩
  repeat walk_at "ev"
  have hl : (1 + d).toNat ≠ 0 := by omega
  have sm := mk_small (n := t) (d := (1 + d).toNat) hl ht
  refine ⟨_, _, rfl, by omega, nbM (natAbs_lt (a := 17) (by omega) (by omega)) (by decide), _, rfl, hf _ ⟨sm.1, Nat.lt_of_le_of_lt sm.2 (by omega)⟩⟩
end
end K03
open LamX
namespace K03
variable [TabT]

section
variable {P : Program} {w : World} {K : PySem.W.Frag} {mg : Str → Option Value} {base : Heap}
def fs_gcdT : FS := fun ds R _ => ∃ ns : List Int, ds = [.tup (ns.map .int)] ∧ R (.int (gcds ns : Nat))
theorem ok_gcdT {f : Addr} {fd : FuncData} (B : Bt mg) (F : Fun K "_law_gcd" "_law_gcd" s_l_gcd f fd) : FnG P w K mg base CX0 1 f fd p_l_gcd (spD K fs_gcdT) := by
  refine okG F sc_l_gcd (spD_len fun ds R Z ⟨ns, e, _⟩ => by rw [e]; rfl) (fun cdv A outer s H vs Q E gd hr ⟨G, ds, R, Z, le, kd, hf, hq, hz⟩ => ?_)
  obtain ⟨ns, rfl, hf⟩ := hf
  refine ⟨_, PSs.nox ((pss_cons (ps_set (i := 1) sc_l_gcd.nd rfl (by first | exact Or.inl rfl | exact Or.inr rfl) pe_int)
      (pss_cons (ps_for PassesOwn.never rfl (pi_tup (pv 0)) (pg_name (i := 2) sc_l_gcd.nd rfl (by first | exact Or.inl rfl | exact Or.inr rfl))
      (pss_cons (ps_set (i := 3) sc_l_gcd.nd rfl (by first | exact Or.inl rfl | exact Or.inr rfl) (pe_callB (call_abs) rfl B.b_abs bt_abs (pa_cons (pe_callTy (call_int1) rfl B.b_int bt_int (pa_cons (pv 2) pa_nil)) pa_nil)))
      (pss_one (ps_while PassesOwn.never (pt_cmpR op_gt (pv 3) pe_int (nomark _))
      (pss_one (ps_par (i := 1) (j := 3) rfl sc_l_gcd.nd rfl rfl (by decide) rfl rfl (pa_cons (pv 3) (pa_cons (pe_op op_modN (pe_callTy (call_int1) rfl B.b_int bt_int (pa_cons (pv 1) pa_nil)) (pv 3)) pa_nil)) rfl))))))
      (pss_one (ps_ret (pv 1)))))), fin_D le kd hq ?_⟩
  refine xs_seq (xs_set (ev_int ?_))
  refine xs_seq ?_
  refine xs_for (is := [2]) (fun _ i ρ => ∃ u1 u2 : Slot, ρ = [.dat (.tup (ns.map .int)), .dat (.int (gcds (ns.take i) : Nat)), u1, u2]) (ei_tup (ev_var rfl ?_))
  refine ⟨_, rfl, ⟨.un, .un, rfl⟩, fun i d ρ hd hI => ?_, fun ρ hI => ?_⟩
  · obtain ⟨u1, u2, rfl⟩ := hI
    rw [List.getElem?_map] at hd
    obtain ⟨n, hn, rfl⟩ := Option.map_eq_some_iff.mp hd
    refine eg_name ?_
    refine xs_seq (xs_set ?_)
    repeat walk_at "ev"
    have ea : (if n < 0 then -n else n) = (n.natAbs : Int) := by split <;> omega
    rw [ea]
    refine xs_while (fun m ρ => ∃ g r : Nat, m = r ∧ Nat.gcd g r = gcds (ns.take (i + 1)) ∧ ρ = [.dat (.tup (ns.map .int)), .dat (.int (g : Int)), .dat (.int n), .dat (.int (r : Int))]) ⟨_, n.natAbs, rfl, (gcds_take hn).symm, rfl⟩ fun m ρ hm => ?_
    obtain ⟨g, r, hmr, hg, rfl⟩ := hm
    repeat walk_at "ev"
    refine ⟨fun h => ?_, fun h => ?_⟩
    · have hr0 : (0 : Int) < (r : Int) := of_decide_eq_true h
      refine xs_parDD ?_
      repeat walk_at "ev"
      refine rd_I (show (r : Int) ≠ 0 by omega) ?_
      have e1 : (g : Int).fmod (r : Int) = ((g % r : Nat) : Int) := by
        rw [Int.fmod_eq_emod_of_nonneg _ (by omega)]
        rfl
      rw [e1]
      refine ⟨g % r, by rw [hmr]; exact Nat.mod_lt _ (by omega), r, g % r, rfl, ?_, rfl⟩
      rw [← hg, Nat.gcd_comm g r, Nat.gcd_rec r g, Nat.gcd_comm]
    · have h : ¬ (0 : Int) < (r : Int) := of_decide_eq_false h
      have r0 : r = 0 := by omega
      subst r0
      rw [Nat.gcd_zero_right] at hg
      subst hg
      exact ⟨_, _, rfl⟩
  · obtain ⟨u1, u2, rfl⟩ := hI
    refine xs_ret (ev_var rfl ?_)
    rw [List.length_map, List.take_length]
    exact hf
end
abbrev s_l_is_fraction : Stmt := topS 20
abbrev n_l_is_fraction : List Str := ["_law_value", "_law_one"]
abbrev p_l_is_fraction : List Str := ["_law_value"]
theorem sc_l_is_fraction : FnScope n_l_is_fraction p_l_is_fraction (defScope s_l_is_fraction) := ⟨rfl, rfl, rfl, by decide +kernel, rfl, by decide +kernel, by decide +kernel⟩

abbrev s_l_are_fractions : Stmt := topS 21
abbrev n_l_are_fractions : List Str := ["_law_value", "_law_many", "_law_one"]
abbrev p_l_are_fractions : List Str := ["_law_value", "_law_many"]
theorem sc_l_are_fractions : FnScope n_l_are_fractions p_l_are_fractions (defScope s_l_are_fractions) := ⟨rfl, rfl, rfl, by decide +kernel, rfl, by decide +kernel, by decide +kernel⟩

section
variable {P : Program} {w : World} {K : PySem.W.Frag} {mg : Str → Option Value} {base : Heap}
def fs_lisfr : FS := fun ds R _ => ∃ d, ds = [d] ∧ Ty2 d ∧ R (.bl (isF d))
theorem ok_lisfr {f : Addr} {fd : FuncData} (B : Bt mg) (c_l_gcd : Cal P w K mg base CX0 1 "_law_gcd" p_l_gcd [] (spD K fs_gcdT)) (F : Fun K "_law_is_fraction" "_law_is_fraction" s_l_is_fraction f fd) : FnG P w K mg base CX0 2 f fd p_l_is_fraction (spD K fs_lisfr) := by
  refine okG F sc_l_is_fraction (spD_len fun ds R Z ⟨q, e, _⟩ => by rw [e]; rfl) (fun cdv A outer s H vs Q E gd hr ⟨G, ds, R, Z, le, kd, hf, hq, hz⟩ => ?_)
  have hu : (cxOf CX0 P w K mg base n_l_is_fraction "_law_is_fraction" (defScope s_l_is_fraction) f cdv A outer s H E).nox.A.units + 64 < cLine := hr.units
  obtain ⟨d, rfl, ⟨hn, ht⟩, hf⟩ := hf
  refine ⟨_, PSs.nox ((pss_cons (ps_if (PW.pt (pw_or (pt_not (pt_val (pe_callB (call_isA) rfl B.b_isinstance bt_isinstance (pa_cons (pv 0) (pa_cons (pe_bltn (v := .ty "tuple") rfl B.b_tuple bt_tuple rfl) pa_nil))))) (pw_or (pt_cmpR (op_neA hu) (pe_callB ((CallR.or call_len_seq call_len_str)) rfl B.b_len bt_len (pa_cons (pv 0) pa_nil)) pe_int (nomark _)) (pw_or1 (pt_not (pt_val (pe_callB (cr_all rfl) rfl B.b_all bt_all (pa_cons (pe_lc (own := [("_law_one", 1)]) (g := (gName 1)) (tt := tYes) rfl sc_l_is_fraction.nd (pi_tup (pv 0)) (blkOk_by (N := n_l_is_fraction) (sc := defScope s_l_is_fraction) (by decide +kernel)) (fun _ _ _ _ _ => (pg_name (i := 1) sc_l_is_fraction.nd rfl (by first | exact Or.inl rfl | exact Or.inr rfl))) (fun _ _ _ _ _ => pts_nil) (fun _ _ _ _ _ => (pe_callB (kIsA (K := K) rfl) rfl B.b_isinstance bt_isinstance (pa_cons (pv 1) (pa_cons (pe_bltn (v := .ty "int") rfl B.b_int bt_int rfl) pa_nil))))) pa_nil))))))))
      (pss_one (ps_ret pe_bl))
      pss_nil)
      (pss_cons (ps_if (PW.pt (pw_or (pt_val (pe_callB (cr_any rfl) rfl B.b_any bt_any (pa_cons (pe_lc (own := [("_law_one", 1)]) (g := (gName 1)) (tt := tYes) rfl sc_l_is_fraction.nd (pi_tup (pv 0)) (blkOk_by (N := n_l_is_fraction) (sc := defScope s_l_is_fraction) (by decide +kernel)) (fun _ _ _ _ _ => (pg_name (i := 1) sc_l_is_fraction.nd rfl (by first | exact Or.inl rfl | exact Or.inr rfl))) (fun _ _ _ _ _ => pts_nil) (fun _ _ _ _ _ => (pe_callB (kIsA (K := K) rfl) rfl B.b_isinstance bt_isinstance (pa_cons (pv 1) (pa_cons (pe_bltn (v := .ty "bool") rfl B.b_bool bt_bool rfl) pa_nil))))) pa_nil))) (pw_or1 (pt_cmpR op_lt (pe_ix ix_seq (pv 0) pe_int (fun _ _ => rfl)) pe_int (nomark _)))))
      (pss_one (ps_ret pe_bl))
      pss_nil)
      (pss_one (ps_ret (pe_cmpR (op_eqA hu) (pe_cal c_l_gcd gd (hr.mono (by first | decide | omega)) pass0 (pa_cons (pv 0) pa_nil)) pe_int (nomark _))))))), fin_D le kd hq ?_⟩
  repeat walk_at "ar"
  refine isa_tup rfl hn ?_
  refine ⟨_, rfl, fun h => ?_, fun h => ?_⟩
  · have h : isT d = false := by simpa using h
    rw [isF_not h] at hf
    refine ⟨fun _ => ?_, fun h => (nomatch h)⟩
    repeat walk_at "ar"
    exact hf
  have h : isT d = true := by simpa using h
  obtain ⟨xs, rfl⟩ := isT_inv h
  repeat walk_at "ar"
  refine ne_int rfl ?_
  refine ⟨_, rfl, fun h2 => ?_, fun h2 => ?_⟩
  · have h2 : xs.length ≠ 2 := by
      intro e
      rw [e] at h2
      exact absurd h2 (by decide)
    rw [isF_len h2] at hf
    refine ⟨fun _ => ?_, fun h => (nomatch h)⟩
    repeat walk_at "ar"
    exact hf
  have h2 : xs.length = 2 := by
    have h2 : ((xs.length : Int) == 2) = true := by simpa using h2
    have := eq_of_beq h2
    omega
  match xs, h2 with
  | [x, y], _ =>
    have tx := ht _ rfl x (by simp)
    have ty := ht _ rfl y (by simp)
    have tz : ∀ (i : Nat) (d : D), [x, y][i]? = some d → Ty1 d := fun i d hd => by
      have := List.mem_of_getElem? hd
      simp only [List.mem_cons, List.not_mem_nil, or_false] at this
      rcases this with rfl | rfl
      · exact tx
      · exact ty
    have fin : (isI x = false ∨ isI y = false) → R (.bl false) := fun h => by
      have e : isF (.tup [x, y]) = false := by
        cases q : isF (.tup [x, y]) with
        | false => rfl
        | true =>
          obtain ⟨a, b⟩ := isF_two x y q
          rcases h with h | h
          · rw [h] at a
            cases a
          · rw [h] at b
            cases b
      rw [e] at hf
      exact hf
    refine et_not (et_B (ev_cb (ea_cons (EvN.ev (en_lc (is := [1]) (fun _ i acc ρ => acc = ([x, y].take i).map (fun e => .bl (isIB e)) ∧ ρ = [.dat (.tup [x, y]), .un]) (by decide) (ei_tup (ev_var rfl ?_)))))))
    refine ⟨_, rfl, Nat.le_of_ble_eq_true rfl, ⟨rfl, rfl⟩, fun i d acc ρ hd hI => ?_, fun acc ρ hl2 hI => ?_⟩
    · obtain ⟨rfl, e⟩ := hI
      rw [e]
      refine eg_name (et_yes ⟨fun _ => ?_, fun h => nomatch h⟩)
      repeat walk_at "ar"
      refine isa_int rfl (tz i d hd) ?_
      exact ⟨(take_map (f := fun e => D.bl (isIB e)) hd).symm, rfl⟩
    obtain ⟨rfl, e⟩ := hI
    rw [e]
    refine ea_nil (rc_k (r := rAll) rfl ?_)
    refine (rc_all (bs := [isIB x, isIB y]) ?_ : RC1 _ _ _ _)
    refine ⟨_, rfl, fun h => ?_, fun h => ?_⟩
    · have h : isI x = false ∨ isI y = false := by
        rw [isI_eq, isI_eq]
        have h : isIB x = false ∨ isIB y = false := by
          cases a : isIB x <;> cases b : isIB y <;> simp_all
        rcases h with h | h
        · exact .inl (by rw [h]; rfl)
        · exact .inr (by rw [h]; rfl)
      repeat walk_at "ar"
      exact fin h
    have hB : isIB x = true ∧ isIB y = true := by
      cases a : isIB x <;> cases b : isIB y <;> simp_all
    refine xs_next ?_
    refine xs_seq (xs_if (et_or (et_B (ev_cb (ea_cons (EvN.ev (en_lc (is := [1]) (fun _ i acc ρ => acc = ([x, y].take i).map (fun e => .bl (isBo e)) ∧ ρ = [.dat (.tup [x, y]), .un]) (by decide) (ei_tup (ev_var rfl ?_)))))))))
    refine ⟨_, rfl, Nat.le_of_ble_eq_true rfl, ⟨rfl, rfl⟩, fun i d acc ρ hd hI => ?_, fun acc ρ hl2 hI => ?_⟩
    · obtain ⟨rfl, e⟩ := hI
      rw [e]
      refine eg_name (et_yes ⟨fun _ => ?_, fun h => nomatch h⟩)
      repeat walk_at "ar"
      refine isa_bool rfl (tz i d hd) ?_
      exact ⟨(take_map (f := fun e => D.bl (isBo e)) hd).symm, rfl⟩
    obtain ⟨rfl, e⟩ := hI
    rw [e]
    refine ea_nil (rc_k (r := rAny) rfl ?_)
    refine (rc_any (bs := [isBo x, isBo y]) ?_ : RC1 _ _ _ _)
    refine ⟨_, rfl, fun h => ?_, fun h => ?_⟩
    · have h : isI x = false ∨ isI y = false := by
        rw [isI_eq, isI_eq]
        have h : isBo x = true ∨ isBo y = true := by
          cases a : isBo x <;> cases b : isBo y <;> simp_all
        rcases h with h | h
        · exact .inl (by rw [h]; simp)
        · exact .inr (by rw [h]; simp)
      refine ⟨fun _ => ?_, fun h => (nomatch h)⟩
      repeat walk_at "ar"
      exact fin h
    have hC : isBo x = false ∧ isBo y = false := by
      cases a : isBo x <;> cases b : isBo y <;> simp_all
    obtain ⟨t, rfl⟩ := isI_of hB.1 hC.1
    obtain ⟨l, rfl⟩ := isI_of hB.2 hC.2
    have hf : R (.bl (decide (1 ≤ l) && decide (Nat.gcd t.natAbs l.natAbs = 1))) := hf
    repeat walk_at "ar"
    refine ix_tupl ⟨1, rfl, rfl⟩ ?_
    repeat walk_at "ar"
    refine ⟨_, rfl, fun h1 => ?_, fun h1 => ?_⟩
    · have h1 : l < 1 := of_decide_eq_true h1
      rw [decide_eq_false (show ¬ (1 : Int) ≤ l by omega), Bool.false_and] at hf
      repeat walk_at "ar"
      exact hf
    · have h1 : ¬ l < 1 := of_decide_eq_false h1
      rw [decide_eq_true (show (1 : Int) ≤ l by omega), Bool.true_and] at hf
      repeat walk_at "ar"
      refine ev_call (Z := fun _ _ => False) Flies.none (fun _ => .nil) ?_
      repeat walk_at "ar"
      refine ⟨[t, l], rfl, ?_⟩
      rw [gcds2]
      repeat walk_at "ar"
      refine eq_int rfl ?_
      have e : (((Nat.gcd t.natAbs l.natAbs : Nat) : Int) == 1) = decide (Nat.gcd t.natAbs l.natAbs = 1) := by
        rw [show ((((Nat.gcd t.natAbs l.natAbs : Nat) : Int) == 1)) = decide (((Nat.gcd t.natAbs l.natAbs : Nat) : Int) = 1) from rfl]
        exact decide_eq_decide.mpr ⟨fun h => by omega, fun h => by omega⟩
      rw [e]
      exact hf
def lenIs (m : Int) : D → Bool
  | .tup xs => ((xs.length : Int) == m)
  | _ => false
def fs_laref : FS := fun ds R _ => ∃ d m, ds = [d, .int m] ∧ Ty3 d ∧ R (.bl (areF d && lenIs m d))
theorem ok_laref {f : Addr} {fd : FuncData} (B : Bt mg) (c_l_is_fraction : Cal P w K mg base CX0 2 "_law_is_fraction" p_l_is_fraction [] (spD K fs_lisfr)) (F : Fun K "_law_are_fractions" "_law_are_fractions" s_l_are_fractions f fd) : FnG P w K mg base CX0 3 f fd p_l_are_fractions (spD K fs_laref) := by
  refine okG F sc_l_are_fractions (spD_len fun ds R Z ⟨q, m, e, _⟩ => by rw [e]; rfl) (fun cdv A outer s H vs Q E gd hr ⟨G, ds, R, Z, le, kd, hf, hq, hz⟩ => ?_)
  have hu : (cxOf CX0 P w K mg base n_l_are_fractions "_law_are_fractions" (defScope s_l_are_fractions) f cdv A outer s H E).nox.A.units + 64 < cLine := hr.units
  obtain ⟨d, m, rfl, ⟨hn, ht⟩, hf⟩ := hf
  refine ⟨_, PSs.nox ((pss_one (ps_ret (pe_and (pe_callB (call_isA) rfl B.b_isinstance bt_isinstance (pa_cons (pv 0) (pa_cons (pe_bltn (v := .ty "tuple") rfl B.b_tuple bt_tuple rfl) pa_nil))) (pe_and (pe_cmpR (op_eqA hu) (pe_callB ((CallR.or call_len_seq call_len_str)) rfl B.b_len bt_len (pa_cons (pv 0) pa_nil)) (pv 1) (nomark _)) (pe_one (pe_callB (cr_all rfl) rfl B.b_all bt_all (pa_cons (pe_lc (own := [("_law_one", 2)]) (g := (gName 2)) (tt := tYes) rfl sc_l_are_fractions.nd (pi_tup (pv 0)) (blkOk_by (N := n_l_are_fractions) (sc := defScope s_l_are_fractions) (by decide +kernel)) (fun _ _ _ _ _ => (pg_name (i := 2) sc_l_are_fractions.nd rfl (by first | exact Or.inl rfl | exact Or.inr rfl))) (fun _ _ _ _ _ => pts_nil) (fun _ _ _ _ _ => (pe_cal c_l_is_fraction gd (hr.mono (by first | decide | omega)) pass0 (pa_cons (pv 2) pa_nil)))) pa_nil)))))))), fin_D le kd hq ?_⟩
  repeat walk_at "ar"
  refine isa_tup rfl hn ?_
  refine ⟨_, rfl, fun h => ?_, fun h => ?_⟩
  · obtain ⟨xs, rfl⟩ := isT_inv h
    obtain ⟨hl, hx⟩ := ht _ rfl
    have hf : R (.bl (xs.all isF && ((xs.length : Int) == m))) := hf
    repeat walk_at "ar"
    refine eq_int rfl ?_
    refine ⟨_, rfl, fun h => ?_, fun h => ?_⟩
    · rw [h, Bool.and_true] at hf
      repeat walk_at "ar"
      refine EvN.ev (en_lc (is := [2]) (fun _ i acc ρ => acc = (xs.take i).map (fun e => .bl (isF e)) ∧ ρ = [.dat (.tup xs), .dat (.int m), .un]) (by decide) (ei_tup (ev_var rfl ?_)))
      refine ⟨_, rfl, by omega, ⟨rfl, rfl⟩, fun i d acc ρ hd hI => ?_, fun acc ρ hl2 hI => ?_⟩
      · obtain ⟨rfl, e⟩ := hI
        rw [e]
        refine eg_name (et_yes ⟨fun _ => ?_, fun h => nomatch h⟩)
        refine ev_call (Z := fun _ _ => False) Flies.none (fun _ => .nil) ?_
        repeat walk_at "ar"
        exact ⟨d, rfl, hx d (List.mem_of_getElem? hd), (take_map (f := fun e => D.bl (isF e)) hd).symm, rfl⟩
      · obtain ⟨rfl, e⟩ := hI
        repeat walk_at "ar"
        rw [List.take_length, show xs.map (fun e => D.bl (isF e)) = (xs.map isF).map .bl by rw [List.map_map]; rfl]
        refine rc_k (r := rAll) rfl (rc_all ?_)
        rw [show (xs.map isF).all id = xs.all isF by rw [List.all_map]; rfl]
        exact hf
    · rw [h, Bool.and_false] at hf
      exact hf
  · rw [areF_not h, Bool.false_and] at hf
    exact hf
end
end K03
open LamX
namespace K03
variable [TabT]

abbrev s_is_fraction : Stmt := topS 6
abbrev n_is_fraction : List Str := ["value", "top", "low"]
abbrev p_is_fraction : List Str := ["value"]
theorem sc_is_fraction : FnScope n_is_fraction p_is_fraction (defScope s_is_fraction) := ⟨rfl, rfl, rfl, by decide +kernel, rfl, by decide +kernel, by decide +kernel⟩

abbrev s_are_fractions : Stmt := topS 7
abbrev n_are_fractions : List Str := ["value", "one"]
abbrev p_are_fractions : List Str := ["value"]
theorem sc_are_fractions : FnScope n_are_fractions p_are_fractions (defScope s_are_fractions) := ⟨rfl, rfl, rfl, by decide +kernel, rfl, by decide +kernel, by decide +kernel⟩

section
variable {P : Program} {w : World} {K : PySem.W.Frag} {mg : Str → Option Value} {base : Heap}
def fs_isfr : FS := fun ds R _ => ∃ d, ds = [d] ∧ Ty2 d ∧ R (.bl (isF d))
theorem ok_isfr {f : Addr} {fd : FuncData} (B : Bt mg) (m_gcd : mg "gcd" = some (.builtin "math.gcd")) (F : Fun K "is_fraction" "is_fraction" s_is_fraction f fd) : FnG P w K mg base CX0 2 f fd p_is_fraction (spD K fs_isfr) := by
  refine okG F sc_is_fraction (spD_len fun ds R Z ⟨q, e, _⟩ => by rw [e]; rfl) (fun cdv A outer s H vs Q E gd hr ⟨G, ds, R, Z, le, kd, hf, hq, hz⟩ => ?_)
  have hu : (cxOf CX0 P w K mg base n_is_fraction "is_fraction" (defScope s_is_fraction) f cdv A outer s H E).nox.A.units + 64 < cLine := hr.units
  obtain ⟨d, rfl, ⟨hn, ht⟩, hf⟩ := hf
  refine ⟨_, PSs.nox ((pss_cons (ps_if (PW.pt (pw_or (pt_not (pt_val (pe_callB (call_isA) rfl B.b_isinstance bt_isinstance (pa_cons (pv 0) (pa_cons (pe_bltn (v := .ty "tuple") rfl B.b_tuple bt_tuple rfl) pa_nil))))) (pw_or1 (pt_cmpR (op_neA hu) (pe_callB ((CallR.or call_len_seq call_len_str)) rfl B.b_len bt_len (pa_cons (pv 0) pa_nil)) pe_int (nomark _)))))
      (pss_one (ps_ret pe_bl))
      pss_nil)
      (pss_cons (ps_asg (pv 0) (pg_tup rfl (pgs_cons (pg_name (i := 1) sc_is_fraction.nd rfl (by first | exact Or.inl rfl | exact Or.inr rfl)) (pgs_cons (pg_name (i := 2) sc_is_fraction.nd rfl (by first | exact Or.inl rfl | exact Or.inr rfl)) pgs_nil))))
      (pss_cons (ps_if (PW.pt (pw_or (pt_not (pt_val (pe_callB (call_isA) rfl B.b_isinstance bt_isinstance (pa_cons (pv 1) (pa_cons (pe_bltn (v := .ty "int") rfl B.b_int bt_int rfl) pa_nil))))) (pw_or (pt_not (pt_val (pe_callB (call_isA) rfl B.b_isinstance bt_isinstance (pa_cons (pv 2) (pa_cons (pe_bltn (v := .ty "int") rfl B.b_int bt_int rfl) pa_nil))))) (pw_or (pt_val (pe_callB (call_isA) rfl B.b_isinstance bt_isinstance (pa_cons (pv 1) (pa_cons (pe_bltn (v := .ty "bool") rfl B.b_bool bt_bool rfl) pa_nil)))) (pw_or1 (pt_val (pe_callB (call_isA) rfl B.b_isinstance bt_isinstance (pa_cons (pv 2) (pa_cons (pe_bltn (v := .ty "bool") rfl B.b_bool bt_bool rfl) pa_nil)))))))))
      (pss_one (ps_ret pe_bl))
      pss_nil)
      (pss_one (ps_ret (pe_and (pe_cmpR op_ge (pv 2) pe_int (nomark _)) (pe_one (pe_cmpR (op_eqA hu) (pe_callBfun cr_gcd rfl m_gcd (pa_cons (pv 1) (pa_cons (pv 2) pa_nil))) pe_int (nomark _)))))))))), fin_D le kd hq ?_⟩
  repeat walk_at "ar"
  refine isa_tup rfl hn ?_
  refine ⟨_, rfl, fun h => ?_, fun h => ?_⟩
  · have h : isT d = false := by simpa using h
    rw [isF_not h] at hf
    refine ⟨fun _ => ?_, fun h => (nomatch h)⟩
    repeat walk_at "ar"
    exact hf
  have h : isT d = true := by simpa using h
  obtain ⟨xs, rfl⟩ := isT_inv h
  repeat walk_at "ar"
  refine ne_int rfl ?_
  refine ⟨_, rfl, fun h2 => ?_, fun h2 => ?_⟩
  · have h2 : xs.length ≠ 2 := by
      intro e
      rw [e] at h2
      exact absurd h2 (by decide)
    rw [isF_len h2] at hf
    repeat walk_at "ar"
    exact hf
  have h2 : xs.length = 2 := by
    have h2 : ((xs.length : Int) == 2) = true := by simpa using h2
    have := eq_of_beq h2
    omega
  match xs, h2 with
  | [x, y], _ =>
    have tx := ht _ rfl x (by simp)
    have ty := ht _ rfl y (by simp)
    repeat walk_at "ar"
    refine xs_asg (is := [1, 2]) (ev_var rfl ?_)
    refine eg_tup rfl (egs_cons (is := [1]) (js := [2]) (eg_name (egs_cons (is := [2]) (js := []) (eg_name (egs_nil ?_)))))
    have fin : (isI x = false ∨ isI y = false) → R (.bl false) := fun h => by
      have e : isF (.tup [x, y]) = false := by
        cases q : isF (.tup [x, y]) with
        | false => rfl
        | true =>
          obtain ⟨a, b⟩ := isF_two x y q
          rcases h with h | h
          · rw [h] at a
            cases a
          · rw [h] at b
            cases b
      rw [e] at hf
      exact hf
    repeat walk_at "ar"
    refine isa_int rfl tx ⟨_, rfl, fun h => ?_, fun g1 => ?_⟩
    · refine ⟨fun _ => xs_ret (ev_bl (fin (.inl ?_))), fun h => (nomatch h)⟩
      have h : isIB x = false := by simpa using h
      rw [isI_eq, h]
      rfl
    have g1 : isIB x = true := by simpa using g1
    repeat walk_at "ar"
    refine isa_int rfl ty ⟨_, rfl, fun h => ?_, fun g2 => ?_⟩
    · refine ⟨fun _ => xs_ret (ev_bl (fin (.inr ?_))), fun h => (nomatch h)⟩
      have h : isIB y = false := by simpa using h
      rw [isI_eq, h]
      rfl
    have g2 : isIB y = true := by simpa using g2
    repeat walk_at "ar"
    refine isa_bool rfl tx ⟨_, rfl, fun h => ?_, fun g3 => ?_⟩
    · refine ⟨fun _ => xs_ret (ev_bl (fin (.inl ?_))), fun h => (nomatch h)⟩
      rw [isI_eq, h]
      simp
    repeat walk_at "ar"
    refine isa_bool rfl ty ⟨_, rfl, fun h => xs_ret (ev_bl (fin (.inr ?_))), fun g4 => xs_next ?_⟩
    · rw [isI_eq, h]
      simp
    obtain ⟨t, rfl⟩ := isI_of g1 g3
    obtain ⟨l, rfl⟩ := isI_of g2 g4
    have hf : R (.bl (decide (1 ≤ l) && decide (Nat.gcd t.natAbs l.natAbs = 1))) := hf
    repeat walk_at "ar"
    refine ⟨_, rfl, fun h1 => ?_, fun h1 => ?_⟩
    · have h1 : decide (1 ≤ l) = true := h1
      rw [h1, Bool.true_and] at hf
      repeat walk_at "ar"
      refine eq_int rfl ?_
      have e : (((Nat.gcd t.natAbs l.natAbs : Nat) : Int) == 1) = decide (Nat.gcd t.natAbs l.natAbs = 1) := by
        rw [show ((((Nat.gcd t.natAbs l.natAbs : Nat) : Int) == 1)) = decide (((Nat.gcd t.natAbs l.natAbs : Nat) : Int) = 1) from rfl]
        exact decide_eq_decide.mpr ⟨fun h => by omega, fun h => by omega⟩
      rw [e]
      exact hf
    · have h1 : decide (1 ≤ l) = false := h1
      rw [h1, Bool.false_and] at hf
      exact hf
def fs_aref : FS := fun ds R _ => ∃ d, ds = [d] ∧ Ty3 d ∧ R (.bl (areF d))
theorem ok_aref {f : Addr} {fd : FuncData} (B : Bt mg) (c_is_fraction : Cal P w K mg base CX0 2 "is_fraction" p_is_fraction [] (spD K fs_isfr)) (F : Fun K "are_fractions" "are_fractions" s_are_fractions f fd) : FnG P w K mg base CX0 3 f fd p_are_fractions (spD K fs_aref) := by
  refine okG F sc_are_fractions (spD_len fun ds R Z ⟨q, e, _⟩ => by rw [e]; rfl) (fun cdv A outer s H vs Q E gd hr ⟨G, ds, R, Z, le, kd, hf, hq, hz⟩ => ?_)
  obtain ⟨d, rfl, ⟨hn, ht⟩, hf⟩ := hf
  refine ⟨_, PSs.nox ((pss_one (ps_ret (pe_and (pe_callB (call_isA) rfl B.b_isinstance bt_isinstance (pa_cons (pv 0) (pa_cons (pe_bltn (v := .ty "tuple") rfl B.b_tuple bt_tuple rfl) pa_nil))) (pe_one (pe_callB (cr_all rfl) rfl B.b_all bt_all (pa_cons (pe_lc (own := [("one", 1)]) (g := (gName 1)) (tt := tYes) rfl sc_are_fractions.nd (pi_tup (pv 0)) (blkOk_by (N := n_are_fractions) (sc := defScope s_are_fractions) (by decide +kernel)) (fun _ _ _ _ _ => (pg_name (i := 1) sc_are_fractions.nd rfl (by first | exact Or.inl rfl | exact Or.inr rfl))) (fun _ _ _ _ _ => pts_nil) (fun _ _ _ _ _ => (pe_cal c_is_fraction gd (hr.mono (by first | decide | omega)) pass0 (pa_cons (pv 1) pa_nil)))) pa_nil))))))), fin_D le kd hq ?_⟩
  repeat walk_at "ar"
  refine isa_tup rfl hn ?_
  refine ⟨_, rfl, fun h => ?_, fun h => ?_⟩
  · obtain ⟨xs, rfl⟩ := isT_inv h
    obtain ⟨hl, hx⟩ := ht _ rfl
    repeat walk_at "ar"
    refine EvN.ev (en_lc (is := [1]) (fun _ i acc ρ => acc = (xs.take i).map (fun e => .bl (isF e)) ∧ ρ = [.dat (.tup xs), .un]) (by decide) (ei_tup (ev_var rfl ?_)))
    refine ⟨_, rfl, by omega, ⟨rfl, rfl⟩, fun i d acc ρ hd hI => ?_, fun acc ρ hl2 hI => ?_⟩
    · obtain ⟨rfl, e⟩ := hI
      rw [e]
      refine eg_name (et_yes ⟨fun _ => ?_, fun h => nomatch h⟩)
      refine ev_call (Z := fun _ _ => False) Flies.none (fun _ => .nil) ?_
      repeat walk_at "ar"
      exact ⟨d, rfl, hx d (List.mem_of_getElem? hd), (take_map (f := fun e => D.bl (isF e)) hd).symm, rfl⟩
    · obtain ⟨rfl, e⟩ := hI
      repeat walk_at "ar"
      rw [List.take_length, show xs.map (fun e => D.bl (isF e)) = (xs.map isF).map .bl by rw [List.map_map]; rfl]
      refine rc_k (r := rAll) rfl (rc_all ?_)
      rw [show (xs.map isF).all id = xs.all isF by rw [List.all_map]; rfl]
      exact hf
  · rw [areF_not h] at hf
    exact hf
end
end K03
open LamX
namespace K03
variable [TabT]

abbrev s_cut : Stmt := topS 8
abbrev n_cut : List Str := ["top", "low", "divisor"]
abbrev p_cut : List Str := ["top", "low"]
theorem sc_cut : FnScope n_cut p_cut (defScope s_cut) := ⟨rfl, rfl, rfl, by decide +kernel, rfl, by decide +kernel, by decide +kernel⟩

section
variable {P : Program} {w : World} {K : PySem.W.Frag} {mg : Str → Option Value} {base : Heap}
def fs_cut : FS := fun ds R _ => ∃ t l : Int, ds = [.int t, .int l] ∧ 0 < l ∧ l.natAbs < 2 ^ 8950 ∧ R (frq (mkRat t l.toNat))
theorem ok_cut {f : Addr} {fd : FuncData} (B : Bt mg) (m_gcd : mg "gcd" = some (.builtin "math.gcd")) (F : Fun K "cut" "cut" s_cut f fd) : FnG P w K mg base CX0 1 f fd p_cut (spD K fs_cut) := by
  refine okG F sc_cut (spD_len fun ds R Z ⟨t, l, e, _⟩ => by rw [e]; rfl) (fun cdv A outer s H vs Q E gd hr ⟨G, ds, R, Z, le, kd, hf, hq, hz⟩ => ?_)
  obtain ⟨t, l, rfl, l0, lb, hf⟩ := hf
  rw [frq_mk l0] at hf
  have hl : 0 < l.natAbs := by omega
  refine ⟨_, PSs.nox ((pss_cons (ps_set (i := 2) sc_cut.nd rfl (by first | exact Or.inl rfl | exact Or.inr rfl) (pe_callBfun cr_gcd rfl m_gcd (pa_cons (pv 0) (pa_cons (pv 1) pa_nil))))
      (pss_one (ps_ret (pe_tup (pa_cons (pe_op op_fdivG (pv 0) (pv 2)) (pa_cons (pe_op op_fdivG (pv 1) (pv 2)) pa_nil))))))), fin_D le kd hq ?_⟩
  repeat walk_at "ev"
  refine xs_set ?_
  repeat walk_at "ev"
  have g0 : 0 < Nat.gcd t.natAbs l.natAbs := Nat.gcd_pos_of_pos_right _ hl
  have g1 : Nat.gcd t.natAbs l.natAbs ≤ l.natAbs := Nat.gcd_le_right _ hl
  generalize Nat.gcd t.natAbs l.natAbs = g at g0 g1 hf
  have gb : ((g : Nat) : Int).natAbs < 2 ^ 8950 := by
    rw [Int.natAbs_natCast]
    exact Nat.lt_of_le_of_lt g1 lb
  refine rd_I (fdivG (a := 8950) (by omega) gb (by decide)) ?_
  repeat walk_at "ev"
  refine rd_I (fdivG (a := 8950) (by omega) gb (by decide)) ?_
  repeat walk_at "ev"
  exact hf
end
abbrev s_total : Stmt := topS 9
abbrev n_total : List Str := ["fractions", "weights", "factors", "top", "low", "over", "under", "times", "parts"]
abbrev p_total : List Str := ["fractions", "weights"]
theorem sc_total : FnScope n_total p_total (defScope s_total) := ⟨rfl, rfl, rfl, by decide +kernel, rfl, by decide +kernel, by decide +kernel⟩

def frA (ps : List Pq) : D := .tup (ps.map fun p => frq p.1)
def frB (ps : List Pq) : D := .tup (ps.map fun p => frq p.2)
theorem zips_fr (ps : List Pq) : zips (ps.map fun p => frq p.1) (ps.map fun p => frq p.2) = ps.map fun p => .tup [frq p.1, frq p.2] := by
  induction ps with
  | nil => rfl
  | cons p ps ih => simp [zips, ih]
def SmL (ps : List Pq) : Prop := ∃ c, 1 ≤ c ∧ (∀ p ∈ ps, SmP c p) ∧ (2 * c + 1) * (ps.length + 2) ≤ 8900 ∧ ps.length ≤ 1000
section
variable {P : Program} {w : World} {K : PySem.W.Frag} {mg : Str → Option Value} {base : Heap}
theorem ones_frB {ps : List Pq} (h : ∀ p ∈ ps, p.2 = 1) : D.tup (List.replicate ps.length (frq 1)) = frB ps := by
  unfold frB
  congr 1
  induction ps with
  | nil => rfl
  | cons p ps ih =>
    rw [List.length_cons, List.replicate_succ, ih fun q hq => h q (by simp [hq]), List.map_cons, h p (by simp)]
theorem rep_flat1 (n : Nat) : (List.replicate n [frq 1]).flatten = List.replicate n (frq 1) := by
  induction n with
  | zero => rfl
  | succ n ih => rw [List.replicate_succ, List.flatten_cons, ih, List.replicate_succ]; rfl
def fs_total (CB : Addr) : FS := fun ds R Z => ∃ d1 d2, ds = [d1, d2] ∧ Ty3 d1 ∧ Ty3 d2 ∧
  ((areF d1 = false ∧ Z CB d1) ∨
   (∃ xs, d1 = .tup xs ∧ areF d1 = true ∧ d2 ≠ .non ∧ (areF d2 = false ∨ ∃ ys, d2 = .tup ys ∧ areF d2 = true ∧ ys.length ≠ xs.length) ∧ Z CB d2) ∨
   ∃ ps, d1 = frA ps ∧ ((d2 = .non ∧ ∀ p ∈ ps, p.2 = 1) ∨ d2 = frB ps) ∧ SmL ps ∧ R (frq (sumP ps)))
theorem areF_frA (ps : List Pq) : areF (frA ps) = true := by
  show (ps.map fun p => frq p.1).all isF = true
  rw [List.all_map, List.all_eq_true]
  exact fun p _ => isF_frq p.1
theorem areF_frB (ps : List Pq) : areF (frB ps) = true := by
  show (ps.map fun p => frq p.2).all isF = true
  rw [List.all_map, List.all_eq_true]
  exact fun p _ => isF_frq p.2
theorem isN_ne {K : PySem.W.Frag} {G : Hp} {v : V} {d : D} (h : Is K G v d) (t : Ty1 d) (n : d ≠ .non) : decide (v = .non) = false := by
  obtain ⟨n', t⟩ := t
  cases h <;> first | rfl | (exact absurd rfl n) | (cases t; done)
theorem ok_total {f fI C_BadFractions : Addr} {fd fdI : FuncData} {v_ONE : V} {u_ONE : Value} (B : Bt mg) (m_ONE : mg "ONE" = some u_ONE) (r_ONE : RelV v_ONE u_ONE) (d_ONE : ∀ G, Is K G v_ONE (frq 1)) (m_BadFractions : mg "BadFractions" = some (.ref C_BadFractions)) (T_BadFractions : OexC K C_BadFractions) (v_BadFractions : PySem.W.findIn K (.ref C_BadFractions) "value" = some none)
    (i_BadFractions : PySem.W.findIn K (.ref C_BadFractions) "__init__" = some (some (.ref fI))) (ti_init : PySem.W.typeIn K (.ref fI) = some (.type "function")) (F_init : FnG P w K mg base CX0 1 fI fdI ["self", "value"] (spInit K)) (b_init : Binds K fdI ["self", "value"] [])
    (c_are_fractions : Cal P w K mg base CX0 3 "are_fractions" p_are_fractions [] (spD K fs_aref)) (c_cut : Cal P w K mg base CX0 1 "cut" p_cut [] (spD K fs_cut))
    (F : FunD K "total" "total" (defArgs s_total) (defBody s_total) (defScope s_total) [.non] [] f fd) : FnG P w K mg base (L2.CX P w) 4 f fd p_total (spD K (fs_total C_BadFractions)) := by
  refine okGD F sc_total (spD_len fun ds R Z ⟨d1, d2, e, _⟩ => by rw [e]; rfl) (fun cdv A outer s H vs Q E gd hr ⟨G, ds, R, Z, le, kd, hf, hq, hz⟩ => ?_)
  have hu : (cxOf (L2.CX P w) P w K mg base n_total "total" (defScope s_total) f cdv A outer s H E).A.units + 64 < cLine := hr.units
  obtain ⟨d1, d2, rfl, t1, t2, hf⟩ := hf
  refine ⟨_, (pss_cons (ps_if (pt_not (pt_val (pe_cal c_are_fractions gd (hr.mono (by first | decide | omega)) pass0 (pa_cons (pv 0) pa_nil))))
      (pss_one (ps_raise rfl (takes_of rfl rfl rfl rfl) (pmk_g gd T_BadFractions i_BadFractions ti_init F_init (hr.mono (by first | decide | omega)) b_init pass0 rfl m_BadFractions (pa_cons (pv 0) pa_nil))))
      pss_nil)
      (pss_cons (ps_if (pt_cmpR op_isN (pv 1) pe_non (nomark _))
      (pss_one (ps_set (i := 2) sc_total.nd rfl (by first | exact Or.inl rfl | exact Or.inr rfl) (pe_op op_timesA (pe_tup (pa_cons (pe_glob (v := v_ONE) rfl m_ONE r_ONE) pa_nil)) (pe_callB ((CallR.or call_len_seq call_len_str)) rfl B.b_len bt_len (pa_cons (pv 0) pa_nil)))))
      (pss_one (ps_if (PW.pt (pw_and (pt_val (pe_cal c_are_fractions gd (hr.mono (by first | decide | omega)) pass0 (pa_cons (pv 1) pa_nil))) (pw_and1 (pt_cmpR (op_eqA hu) (pe_callB ((CallR.or call_len_seq call_len_str)) rfl B.b_len bt_len (pa_cons (pv 1) pa_nil)) (pe_callB ((CallR.or call_len_seq call_len_str)) rfl B.b_len bt_len (pa_cons (pv 0) pa_nil)) (nomark _)))))
      (pss_one (ps_set (i := 2) sc_total.nd rfl (by first | exact Or.inl rfl | exact Or.inr rfl) (pv 1)))
      (pss_one (ps_raise rfl (takes_of rfl rfl rfl rfl) (pmk_g gd T_BadFractions i_BadFractions ti_init F_init (hr.mono (by first | decide | omega)) b_init pass0 rfl m_BadFractions (pa_cons (pv 1) pa_nil)))))))
      (pss_cons (ps_asg (pe_tup (pa_cons pe_int (pa_cons pe_int pa_nil))) (pg_tup rfl (pgs_cons (pg_name (i := 3) sc_total.nd rfl (by first | exact Or.inl rfl | exact Or.inr rfl)) (pgs_cons (pg_name (i := 4) sc_total.nd rfl (by first | exact Or.inl rfl | exact Or.inr rfl)) pgs_nil))))
      (pss_cons (ps_for (passes_of rfl) rfl (RZ.pi_zipA rfl B.b_zip (pa_cons (pv 0) (pa_cons (pv 2) pa_nil))) (pg_tup rfl (pgs_cons (pg_tup rfl (pgs_cons (pg_name (i := 5) sc_total.nd rfl (by first | exact Or.inl rfl | exact Or.inr rfl)) (pgs_cons (pg_name (i := 6) sc_total.nd rfl (by first | exact Or.inl rfl | exact Or.inr rfl)) pgs_nil))) (pgs_cons (pg_tup rfl (pgs_cons (pg_name (i := 7) sc_total.nd rfl (by first | exact Or.inl rfl | exact Or.inr rfl)) (pgs_cons (pg_name (i := 8) sc_total.nd rfl (by first | exact Or.inl rfl | exact Or.inr rfl)) pgs_nil))) pgs_nil)))
      (pss_one (ps_asg (pe_cal c_cut gd (hr.mono (by first | decide | omega)) pass0 (pa_cons (pe_op op_plus (pe_op op_timesA (pe_op op_timesA (pv 3) (pv 6)) (pv 8)) (pe_op op_timesA (pe_op op_timesA (pv 5) (pv 7)) (pv 4))) (pa_cons (pe_op op_timesA (pe_op op_timesA (pv 4) (pv 6)) (pv 8)) pa_nil))) (pg_tup rfl (pgs_cons (pg_name (i := 3) sc_total.nd rfl (by first | exact Or.inl rfl | exact Or.inr rfl)) (pgs_cons (pg_name (i := 4) sc_total.nd rfl (by first | exact Or.inl rfl | exact Or.inr rfl)) pgs_nil))))))
      (pss_one (ps_ret (pe_tup (pa_cons (pv 3) (pa_cons (pv 4) pa_nil))))))))), fin_D le kd hq ?_⟩
  refine xs_seq (xs_if (et_not (et_B (ev_call (Z := fun _ _ => False) Flies.none (fun _ => .nil) (ea_cons (ev_var rfl (ea_nil ?_)))))))
  refine ⟨d1, rfl, t1, _, rfl, ?_⟩
  rcases hf with ⟨e1, hf⟩ | ⟨xs, rfl, e1, n2, e2, hf⟩ | ⟨ps, rfl, h2, ⟨c, c1, hS, hc, hlen⟩, hf⟩
  · rw [e1]
    refine ⟨fun _ => ?_, fun h => (nomatch h)⟩
    refine xs_raise T_BadFractions v_BadFractions hz ?_
    repeat walk_at "ar"
    exact ⟨d1, rfl, hf⟩
  · rw [e1]
    refine ⟨fun h => (nomatch h), fun _ => ?_⟩
    refine xs_next ?_
    refine xs_seq (xs_if (et_test (ev_op ?_)))
    repeat walk_at "ar"
    refine rd_isN (b := false) (fun G v h => isN_ne h t2.1 n2) ?_
    refine ⟨false, rfl, fun h => (nomatch h), fun _ => ?_⟩
    refine xs_if ?_
    refine et_and (et_B (ev_call (Z := fun _ _ => False) Flies.none (fun _ => .nil) (ea_cons (ev_var rfl (ea_nil ?_)))))
    refine ⟨d2, rfl, t2, _, rfl, ?_⟩
    rcases e2 with e2 | ⟨ys, rfl, e2, l2⟩
    · rw [e2]
      refine ⟨fun h => (nomatch h), fun _ => ⟨fun h => (nomatch h), fun _ => ?_⟩⟩
      refine xs_raise T_BadFractions v_BadFractions hz ?_
      repeat walk_at "ar"
      exact ⟨d2, rfl, hf⟩
    · rw [e2]
      refine ⟨fun _ => ?_, fun h => (nomatch h)⟩
      repeat walk_at "ar"
      refine eq_int rfl ?_
      rw [show ((ys.length : Int) == (xs.length : Int)) = false from beq_eq_false_iff_ne.mpr (by omega)]
      refine ⟨false, rfl, fun h => (nomatch h), fun _ => ?_⟩
      refine xs_raise T_BadFractions v_BadFractions hz ?_
      repeat walk_at "ar"
      exact ⟨_, rfl, hf⟩
  rw [areF_frA]
  refine ⟨fun h => (nomatch h), fun _ => ?_⟩
  refine xs_next ?_
  refine xs_mid (fun ρ => ρ = [.dat (frA ps), .dat d2, .dat (frB ps), .un, .un, .un, .un, .un, .un]) (xs_if (et_test (ev_op ?_))) fun ρ e => ?_
  · rcases h2 with ⟨rfl, h1⟩ | rfl
    · repeat walk_at "ev"
      refine rd_isN (b := true) (fun G v h => isN_non h) ?_
      refine ⟨true, rfl, fun _ => ?_, fun h => (nomatch h)⟩
      refine xs_set (ev_op (ev_tup (ea_cons (ev_c d_ONE (ea_nil ⟨by decide, ?_⟩)))))
      repeat walk_at "ev"
      rw [List.length_map]
      refine rd_k (r := rTimesA) rfl (mul_tup (by simp) hlen (by simp) ?_)
      rw [rep_flat1, ones_frB h1]
      rfl
    · repeat walk_at "ev"
      refine rd_isN (b := false) (fun G v h => isN_tup h) ?_
      refine ⟨false, rfl, fun h => (nomatch h), fun _ => ?_⟩
      refine xs_if ?_
      refine et_and (et_B (ev_call (Z := fun _ _ => False) Flies.none (fun _ => .nil) (ea_cons (ev_var rfl (ea_nil ?_)))))
      refine ⟨_, rfl, t2, _, rfl, ?_⟩
      rw [areF_frB]
      refine ⟨fun _ => ?_, fun h => (nomatch h)⟩
      repeat walk_at "ev"
      rw [List.length_map, List.length_map]
      refine eq_int rfl ?_
      rw [show ((ps.length : Int) == (ps.length : Int)) = true from beq_self_eq_true _]
      refine ⟨true, rfl, fun _ => ?_, fun h => (nomatch h)⟩
      exact xs_set (ev_var rfl rfl)
  subst e
  refine xs_seq (xs_asg (is := [3, 4]) ?_)
  repeat walk_at "ev"
  refine eg_tup rfl (egs_cons (is := [3]) (js := [4]) (eg_name (egs_cons (is := [4]) (js := []) (eg_name (egs_nil ?_)))))
  refine xs_seq ?_
  refine xs_for (is := [5, 6, 7, 8]) (fun _ i ρ => ∃ u1 u2 u3 u4 : Slot, ρ = [.dat (frA ps), .dat d2, .dat (frB ps), .dat (.int (sumP (ps.take i)).num), .dat (.int ((sumP (ps.take i)).den : Int)), u1, u2, u3, u4]) (ei_zip ?_)
  repeat walk_at "ev"
  refine ⟨_, _, .inr rfl, ?_⟩
  rw [zips_fr]
  refine ⟨⟨.un, .un, .un, .un, rfl⟩, fun i d ρ hd hI => ?_, fun ρ hI => ?_⟩
  · obtain ⟨u1, u2, u3, u4, rfl⟩ := hI
    rw [List.getElem?_map] at hd
    obtain ⟨p, hp, rfl⟩ := Option.map_eq_some_iff.mp hd
    have hm : p ∈ ps := List.mem_of_getElem? hp
    obtain ⟨⟨a1, a2⟩, b1, b2⟩ := hS p hm
    have cb : 2 * c ≤ 8900 := by
      have : 2 * c + 1 ≤ (2 * c + 1) * (ps.length + 2) := Nat.le_mul_of_pos_right _ (by omega)
      omega
    obtain ⟨t1, t2⟩ := sm_take hS hc c1 i
    obtain ⟨n1, n2⟩ := sm_take hS hc c1 (i + 1)
    have a2' : (p.1.den : Int).natAbs < 2 ^ c := by rw [Int.natAbs_natCast]; exact a2
    have b2' : (p.2.den : Int).natAbs < 2 ^ c := by rw [Int.natAbs_natCast]; exact b2
    have t2' : ((sumP (ps.take i)).den : Int).natAbs < 2 ^ 8900 := by rw [Int.natAbs_natCast]; exact t2
    refine eg_tup rfl (egs_cons (is := [5, 6]) (js := [7, 8]) ?_)
    refine eg_tup rfl (egs_cons (is := [5]) (js := [6]) (eg_name (egs_cons (is := [6]) (js := []) (eg_name (egs_nil ?_)))))
    refine egs_cons (is := [7, 8]) (js := []) ?_
    refine eg_tup rfl (egs_cons (is := [7]) (js := [8]) (eg_name (egs_cons (is := [8]) (js := []) (eg_name (egs_nil (egs_nil ?_))))))
    refine xs_asg (is := [3, 4]) (ev_call (Z := fun _ _ => False) Flies.none (fun _ => .nil) ?_)
    repeat walk_at "ev"
    refine rd_k (r := rTimesA) rfl (DL.mul_int (mulW t1 a2' (by omega)) ?_)
    repeat walk_at "ev"
    refine rd_k (r := rTimesA) rfl (DL.mul_int (mulW (nbX t1 a2') b2' (by omega)) ?_)
    repeat walk_at "ev"
    refine rd_k (r := rTimesA) rfl (DL.mul_int (mulW a1 b1 (by omega)) ?_)
    repeat walk_at "ev"
    refine rd_k (r := rTimesA) rfl (DL.mul_int (mulW (nbX a1 b1) t2' (by omega)) ?_)
    repeat walk_at "ev"
    refine rd_k (r := rTimesA) rfl (DL.mul_int (mulW t2' a2' (by omega)) ?_)
    repeat walk_at "ev"
    refine rd_k (r := rTimesA) rfl (DL.mul_int (mulW (nbX t2' a2') b2' (by omega)) ?_)
    repeat walk_at "ev"
    have pos : (0 : Int) < ((sumP (ps.take i)).den : Int) * (p.1.den : Int) * (p.2.den : Int) := by
      have := (sumP (ps.take i)).den_pos
      have := p.1.den_pos
      have := p.2.den_pos
      exact Int.mul_pos (Int.mul_pos (by omega) (by omega)) (by omega)
    have eN : (((sumP (ps.take i)).den : Int) * (p.1.den : Int) * (p.2.den : Int)).toNat = (sumP (ps.take i)).den * p.1.den * p.2.den := by
      rw [← Int.natCast_mul, ← Int.natCast_mul, Int.toNat_natCast]
    have hi : i < ps.length := (List.getElem?_eq_some_iff.mp hp).1
    have tD : ((sumP (ps.take i)).den : Int).natAbs < 2 ^ ((2 * c + 1) * i + 1) := by
      rw [Int.natAbs_natCast]
      have := (sum_small (c := c) (ps := ps.take i) fun q hq => hS q (List.mem_of_mem_take hq)).2
      rw [List.length_take, Nat.min_eq_left (by omega)] at this
      exact this
    have eb : (2 * c + 1) * i + 1 + c + c ≤ 8950 := by
      have : (2 * c + 1) * (i + 1) ≤ (2 * c + 1) * (ps.length + 2) := Nat.mul_le_mul_left _ (by omega)
      rw [Nat.mul_add] at this
      omega
    refine ⟨_, _, rfl, pos, nbM (nbX (nbX tD a2') b2') eb, ?_⟩
    rw [eN, ← step_mk]
    have e2 : sumP (ps.take i) + p.1 * p.2 = sumP (ps.take (i + 1)) := (sumP_take hp).symm
    rw [e2]
    refine eg_tup rfl (egs_cons (is := [3]) (js := [4]) (eg_name (egs_cons (is := [4]) (js := []) (eg_name (egs_nil ?_)))))
    exact ⟨_, _, _, _, rfl⟩
  · obtain ⟨u1, u2, u3, u4, rfl⟩ := hI
    rw [List.length_map, List.take_length]
    refine xs_ret ?_
    repeat walk_at "ev"
    exact hf
end
end K03
open LamX
namespace K03
variable [TabT]
abbrev s_l_bent : Stmt := topS 15
abbrev n_l_bent : List Str := ["_law_pot_here", "_law_value", "_law_at", "_law_some"]
abbrev p_l_bent : List Str := ["_law_pot_here", "_law_value"]
theorem sc_l_bent : FnScope n_l_bent p_l_bent (defScope s_l_bent) := ⟨rfl, rfl, rfl, by decide +kernel, rfl, by decide +kernel, by decide +kernel⟩

section
variable {P : Program} {w : World} {K : PySem.W.Frag} {mg : Str → Option Value} {base : Heap}
def fp_bent (c L n : Nat) : FP := fun k ds R _ => ∃ d, ds = [d] ∧ Bn c L n d ∧ k + 3 * (n + 1) < 2 ^ 40 ∧ ∀ r k', Gd (c + 1) (L + 1) (n + 1) r → k' ≤ k + 3 * (n + 1) → R r k'
def fpb (c L : Nat) : Nat → FP
  | 0 => fun _ _ _ _ => False
  | n + 1 => fp_bent c L n
theorem bn_case {c L n : Nat} {d : D} (h : Bn c L n d) : (∃ i : Int, d = .int i ∧ i.natAbs < 2 ^ c) ∨ ∃ m ds, n = m + 1 ∧ d = .tup ds ∧ ds.length ≤ L ∧ ∀ e ∈ ds, Bn c L m e := by
  cases n with
  | zero => exact .inl h
  | succ n =>
    rcases h with h | ⟨ds, e, l, k⟩
    · exact .inl h
    · exact .inr ⟨n, ds, rfl, e, l, k⟩
theorem ok_bent {c L n : Nat} {f : Addr} {fd : FuncData} (c1 : 6 ≤ c) (c2 : c < 1800) (hL : L ≤ 900) (hn : n ≤ 50) (B : Bt mg) (c_l_take : Cal P w K mg base CX0 1 "_law_take" p_l_take [] (spP K fp_take)) (c_l_of : Cal P w K mg base CX0 2 "_law_of" p_l_of [] (spP K fp_of)) (c_l_odd : Cal P w K mg base CX0 3 "_law_odd" p_l_odd [] (spP K fp_odd))
    (c_l_bent : Cal P w K mg base CX0 (n + 3) "_law_bent" p_l_bent [] (spP K (fpb c L n))) (F : Fun K "_law_bent" "_law_bent" s_l_bent f fd) : FnG P w K mg base CX0 (n + 3 + 1) f fd p_l_bent (spP K (fp_bent c L n)) := by
  refine okG F sc_l_bent (spP_len fun k ds R Z ⟨d, e, _⟩ => by rw [e]; rfl) (fun cdv A outer s H vs Q E gd hr ⟨a, ws, G, ds, k, R, Z, ev, le, ga, pa, kd, hf, hq, hz⟩ => ?_)
  have hu : (cxOf CX0 P w K mg base n_l_bent "_law_bent" (defScope s_l_bent) f cdv A outer s H E).nox.A.units + 64 < cLine := hr.units
  obtain ⟨d, rfl, hd, k1, hf⟩ := hf
  subst ev
  refine ⟨_, PSs.nox ((pss_cons (ps_if (PW.pt (pw_and (pt_val (pe_callB (call_isA) rfl B.b_isinstance bt_isinstance (pa_cons (pv 1) (pa_cons (pe_bltn (v := .ty "tuple") rfl B.b_tuple bt_tuple rfl) pa_nil)))) (pw_and (pt_cmpR (op_neA hu) (pv 1) (pe_tup pa_nil) (nomark _)) (pw_and1 (pt_cmpR op_gt (pe_cal c_l_take gd (hr.mono (by first | decide | omega)) pass0 (pa_cons (pv 0) (pa_cons pe_int pa_nil))) pe_int (nomark _))))))
      (pss_cons (ps_set (i := 2) sc_l_bent.nd rfl (by first | exact Or.inl rfl | exact Or.inr rfl) (pe_cal c_l_take gd (hr.mono (by first | decide | omega)) pass0 (pa_cons (pv 0) (pa_cons (pe_callB ((CallR.or call_len_seq call_len_str)) rfl B.b_len bt_len (pa_cons (pv 1) pa_nil)) pa_nil))))
      (pss_one (ps_ret (pe_op op_plus (pe_op op_plus (pe_slice sl_cut (pv 1) po_none (po_some (pv 2))) (pe_tup (pa_cons (pe_cal c_l_bent gd (hr.mono (by first | decide | omega)) pass0 (pa_cons (pv 0) (pa_cons (pe_ix ix_seq (pv 1) (pv 2) (fun _ _ => rfl)) pa_nil))) pa_nil))) (pe_slice sl_cut (pv 1) (po_some (pe_op op_plus (pv 2) pe_int)) po_none)))))
      pss_nil)
      (pss_cons (ps_if (pt_val (pe_callB (call_isA) rfl B.b_isinstance bt_isinstance (pa_cons (pv 1) (pa_cons (pe_bltn (v := .ty "tuple") rfl B.b_tuple bt_tuple rfl) pa_nil))))
      (pss_cons (ps_set (i := 3) sc_l_bent.nd rfl (by first | exact Or.inl rfl | exact Or.inr rfl) (pe_lst (pa_cons (pe_callTy (call_list_of) rfl B.b_list bt_list (pa_cons (pv 1) pa_nil)) (pa_cons (pe_slice sl_cut (pv 1) (po_some pe_int) po_none) (pa_cons (pe_slice sl_cut (pv 1) po_none (po_some (pe_un un_neg pe_int))) (pa_cons (pe_op op_plus (pv 1) (pe_slice sl_cut (pv 1) (po_some (pe_un un_neg pe_int)) po_none)) (pa_cons (pe_revT (pv 1)) (pa_cons (pe_tup pa_nil) (pa_cons pe_non (pa_cons (pe_op op_plus (pv 1) (pe_tup (pa_cons pe_int pa_nil))) pa_nil))))))))))
      (pss_one (ps_ret (pe_cal c_l_of gd (hr.mono (by first | decide | omega)) pass0 (pa_cons (pv 0) (pa_cons (pv 3) pa_nil))))))
      pss_nil)
      (pss_cons (ps_if (pt_val (pe_callB (call_isA) rfl B.b_isinstance bt_isinstance (pa_cons (pv 1) (pa_cons (pe_bltn (v := .ty "bool") rfl B.b_bool bt_bool rfl) pa_nil))))
      (pss_one (ps_ret (pe_cal c_l_of gd (hr.mono (by first | decide | omega)) pass0 (pa_cons (pv 0) (pa_cons (pe_lst (pa_cons (pe_not (pv 1)) (pa_cons (pe_callTy (call_int1) rfl B.b_int bt_int (pa_cons (pv 1) pa_nil)) (pa_cons pe_non pa_nil)))) pa_nil)))))
      pss_nil)
      (pss_cons (ps_if (pt_val (pe_callB (call_isA) rfl B.b_isinstance bt_isinstance (pa_cons (pv 1) (pa_cons (pe_bltn (v := .ty "int") rfl B.b_int bt_int rfl) pa_nil))))
      (pss_one (ps_ret (pe_cal c_l_of gd (hr.mono (by first | decide | omega)) pass0 (pa_cons (pv 0) (pa_cons (pe_lst (pa_cons (pe_op op_plus (pv 1) pe_int) (pa_cons (pe_op op_sub (pv 1) pe_int) (pa_cons (pe_cmpR (op_eqA hu) (pv 1) pe_int (nomark _)) (pa_cons (pe_un un_neg (pv 1)) (pa_cons (pe_op op_timesA pe_int (pv 1)) (pa_cons pe_str (pa_cons pe_int (pa_cons pe_non (pa_cons (pe_tup (pa_cons (pv 1) pa_nil)) pa_nil)))))))))) pa_nil)))))
      pss_nil)
      (pss_cons (ps_if (pt_val (pe_callB (call_isA) rfl B.b_isinstance bt_isinstance (pa_cons (pv 1) (pa_cons (pe_bltn (v := .ty "str") rfl B.b_str bt_str rfl) pa_nil))))
      (pss_one ps_never)
      pss_nil)
      (pss_one (ps_ret (pe_cal c_l_odd gd (hr.mono (by first | decide | omega)) pass0 (pa_cons (pv 0) pa_nil)))))))))), fin_P le ga pa kd hq ?_⟩
  rcases bn_case hd with ⟨i, rfl, hi⟩ | ⟨m, ds, rfl, rfl, hl, he⟩
  · have hi2 : i.natAbs < 2 ^ (c + 1) := nbM hi (by omega)
    repeat walk_at "ar"
    refine isa_tup rfl ⟨_, rfl⟩ ?_
    refine ⟨false, rfl, fun h => (nomatch h), fun _ => ⟨fun h => (nomatch h), fun _ => ?_⟩⟩
    repeat walk_at "ar"
    refine isa_tup rfl ⟨_, rfl⟩ ?_
    refine ⟨false, rfl, fun h => (nomatch h), fun _ => ?_⟩
    repeat walk_at "ar"
    refine isa_bool rfl ⟨_, rfl⟩ ?_
    refine ⟨false, rfl, fun h => (nomatch h), fun _ => ?_⟩
    repeat walk_at "ar"
    refine isa_int rfl ⟨_, rfl⟩ ?_
    refine ⟨true, rfl, fun _ => ?_, fun h => (nomatch h)⟩
    refine xs_ret (ev_callP (Z := fun _ _ => False) Flies.none (fun _ => .nil) (by exact ⟨_, _, rfl⟩) ?_)
    repeat walk_at "ar"
    refine eq_int rfl ?_
    repeat walk_at "ar"
    refine rd_k (r := rTimesA) rfl (DL.mul_int (mulW (a := 2) (b := c) (by decide) hi (by omega)) ?_)
    repeat walk_at "ar"
    refine ⟨Nat.le_of_ble_eq_true rfl, ?_⟩
    repeat walk_at "ar"
    refine ⟨Nat.le_of_ble_eq_true rfl, ?_⟩
    repeat walk_at "ar"
    refine ⟨_, _, rfl, _, rfl, by simp, by simp, by omega, fun x hx => ⟨_, rfl, hf x _ ?_ (by omega)⟩⟩
    have one : (1 : Int).natAbs < 2 ^ c := Nat.one_lt_two_pow (by omega)
    simp only [List.mem_cons, List.not_mem_nil, or_false] at hx
    rcases hx with rfl | rfl | rfl | rfl | rfl | rfl | rfl | rfl | rfl
    · exact .int (nbA hi one)
    · exact .int (nbS hi one)
    · exact .bl
    · exact .int (by rw [Int.natAbs_neg]; exact hi2)
    · exact .int (by rw [Int.natAbs_mul, Nat.pow_succ, Nat.mul_comm]; exact Nat.mul_lt_mul_of_pos_right hi (by decide))
    · exact .str (Nat.le_trans (by decide +kernel) (by omega : 1 ≤ c + 1)) (by decide +kernel)
    · exact .int (Nat.pow_pos (by decide))
    · exact .non
    · exact .tup (by simp) fun e h => by
        rw [List.mem_singleton.mp h]
        exact .int hi2
  · have hE : ∀ e ∈ ds, Gd (c + 1) (L + 1) (m + 1) e := fun e h => (he e h).gd.mono (by omega) (by omega) (by omega)
    have hS : Gd (c + 1) (L + 1) (m + 2) (.tup ds) := .tup (by omega) hE
    refine xs_mid (fun ρ => ∃ k', k' ≤ k + 1 ∧ ρ = [.pot a k', .dat (.tup ds), .un, .un]) ?_ fun ρ ⟨k', hk', e⟩ => ?_
    · repeat walk_at "ar"
      refine isa_tup rfl ⟨_, rfl⟩ ?_
      refine ⟨true, rfl, fun _ => ?_, fun h => (nomatch h)⟩
      repeat walk_at "ar"
      refine ⟨Nat.le_of_ble_eq_true rfl, ?_⟩
      refine ne_nil rfl (hS.shaped (by omega) (by omega)) ?_
      refine ⟨_, rfl, fun h => ?_, fun h => ⟨fun h => (nomatch h), fun _ => xs_next ⟨k, by omega, rfl⟩⟩⟩
      have h0 : 0 < ds.length := by
        cases ds with
        | nil => cases h
        | cons x xs => exact Nat.succ_pos _
      refine et_B (ev_op (ev_callP (Z := fun _ _ => False) Flies.none (fun _ => .nil) (by exact ⟨_, _, rfl⟩) ?_))
      repeat walk_at "ar"
      refine ⟨_, _, rfl, _, rfl, by decide, by decide, by omega, fun t t0 t1 => ?_⟩
      repeat walk_at "ar"
      refine ⟨_, rfl, fun h2 => ?_, fun h2 => xs_next ⟨k + 1, by omega, rfl⟩⟩
      refine xs_seq (xs_set (ev_callP (Z := fun _ _ => False) Flies.none (fun _ => .nil) (by exact ⟨_, _, rfl⟩) ?_))
      repeat walk_at "ar"
      refine ⟨_, _, rfl, _, rfl, by omega, by omega, by omega, fun at_ a0 a1 => ?_⟩
      obtain ⟨j, rfl⟩ : ∃ j : Nat, at_ = (j : Int) := ⟨at_.toNat, by omega⟩
      have hj : j < ds.length := by omega
      refine xs_ret (ev_op (ev_op (ev_cut (ev_var rfl (eo_none (eo_some (ev_var rfl ⟨_, rfl, .inr (.inl ⟨_, rfl, ?_⟩)⟩)))))))
      rw [cut_to (by omega)]
      refine ev_tup (ea_cons (ev_callP (Z := fun _ _ => False) Flies.none (fun _ => .nil) (by exact ⟨_, _, rfl⟩) ?_))
      repeat walk_at "ar"
      refine ix_tupl ⟨j, rfl, List.getElem?_eq_getElem hj⟩ ?_
      refine ea_nil ⟨_, _, rfl, ds[j], rfl, he _ (List.getElem_mem hj), by omega, fun r k2 hr2 hk2 => ?_⟩
      refine ea_nil ⟨Nat.le_of_ble_eq_true rfl, ?_⟩
      refine rd_k (r := rPlus) rfl (plus_tup (by rw [List.length_take]; simp; omega) ?_)
      refine ev_cut (ev_var rfl (eo_some (ev_op (ev_var rfl (ev_int (rd_k (r := rPlus) rfl (plus_int ⟨_, rfl, eo_none (.inr (.inl ⟨_, rfl, ?_⟩))⟩)))))))
      rw [show ((j : Int) + 1) = ((j + 1 : Nat) : Int) by omega, cut_from (by omega)]
      refine rd_k (r := rPlus) rfl (plus_tup (by simp; omega) ?_)
      refine ⟨_, rfl, hf _ _ (.tup ?_ fun e h => ?_) (by omega)⟩
      · simp
        omega
      · rcases List.mem_append.mp h with h | h
        · rcases List.mem_append.mp h with h | h
          · exact hE _ (List.mem_of_mem_take h)
          · rw [List.mem_singleton.mp h]
            exact hr2
        · exact hE _ (List.mem_of_mem_drop h)
    subst e
    repeat walk_at "ar"
    refine isa_tup rfl ⟨_, rfl⟩ ?_
    refine ⟨true, rfl, fun _ => ?_, fun h => (nomatch h)⟩
    refine xs_seq (xs_set ?_)
    refine ev_lst (ea_cons (EvN.ev (en_list (ea_cons (ev_var rfl (ea_nil ⟨ds, .inr rfl, ?_⟩))))))
    refine ea_cons (ev_cut (ev_var rfl (eo_some (ev_int ⟨_, rfl, eo_none (.inr (.inl ⟨_, rfl, ?_⟩))⟩))))
    refine ea_cons (ev_cut (ev_var rfl (eo_none (eo_some (ev_un (ev_int (ru_neg ⟨_, rfl, .inr (.inl ⟨_, rfl, ?_⟩)⟩)))))))
    refine ea_cons (ev_op (ev_var rfl (ev_cut (ev_var rfl (eo_some (ev_un (ev_int (ru_neg ⟨_, rfl, eo_none (.inr (.inl ⟨_, rfl, ?_⟩))⟩))))))))
    have h1 := cut_last ds
    refine rd_k (r := rPlus) rfl (plus_tup (by omega) ?_)
    refine ea_cons (ev_revT (ev_var rfl ⟨_, rfl, ?_⟩))
    repeat walk_at "ar"
    refine ⟨Nat.le_of_ble_eq_true rfl, ?_⟩
    repeat walk_at "ar"
    refine ⟨Nat.le_of_ble_eq_true rfl, ?_⟩
    refine rd_k (r := rPlus) rfl (plus_tup (by simp; omega) ?_)
    refine ea_nil ⟨Nat.le_of_ble_eq_true rfl, ?_⟩
    refine xs_ret (ev_callP (Z := fun _ _ => False) Flies.none (fun _ => .nil) (by exact ⟨_, _, rfl⟩) ?_)
    repeat walk_at "ar"
    refine ⟨_, _, rfl, _, rfl, by simp, by simp, by omega, fun x hx => ⟨_, rfl, hf x _ ?_ (by omega)⟩⟩
    have l1 := cut_len ds (some 1) none
    have l2 := cut_len ds none (some (-1))
    simp only [List.mem_cons, List.not_mem_nil, or_false] at hx
    rcases hx with rfl | rfl | rfl | rfl | rfl | rfl | rfl | rfl
    · exact .lst (by omega) hE
    · exact .tup (by omega) fun e h => hE e (cut_mem h)
    · exact .tup (by omega) fun e h => hE e (cut_mem h)
    · refine .tup (by rw [List.length_append]; omega) fun e h => ?_
      rcases List.mem_append.mp h with h | h
      · exact hE e h
      · exact hE e (cut_mem h)
    · exact .tup (by rw [List.length_reverse]; omega) fun e h => hE e (List.mem_reverse.mp h)
    · exact .tup (by simp) fun e h => absurd h (by simp)
    · exact .non
    · refine .tup (by rw [List.length_append]; simp; omega) fun e h => ?_
      rcases List.mem_append.mp h with h | h
      · exact hE e h
      · rw [List.mem_singleton.mp h]
        exact .int (Nat.pow_pos (by decide))
end
section
variable {P : Program} {w : World} {K : PySem.W.Frag} {mg : Str → Option Value} {base : Heap}
/-- a promise that is never asked -/
theorem fng_no {CX : CXT} {k : Nat} {f : Addr} {fd : FuncData} {ps : List Str} {sp : Sp} (h : ∀ vs H Q E, ¬ sp vs H Q E) : FnG P w K mg base CX k f fd ps sp :=
  ⟨fun vs H Q E z => absurd z (h vs H Q E), fun A outer s H args us vs Q E _ _ _ _ _ z => absurd z (h vs H Q E)⟩
theorem all_bent {c L : Nat} {f : Addr} {fd : FuncData} (c1 : 6 ≤ c) (c2 : c < 1800) (hL : L ≤ 900) (B : Bt mg) (c_l_take : Cal P w K mg base CX0 1 "_law_take" p_l_take [] (spP K fp_take)) (c_l_of : Cal P w K mg base CX0 2 "_law_of" p_l_of [] (spP K fp_of)) (c_l_odd : Cal P w K mg base CX0 3 "_law_odd" p_l_odd [] (spP K fp_odd))
    (F : Fun K "_law_bent" "_law_bent" s_l_bent f fd) (m : mg "_law_bent" = some (.ref f)) (kp : PySem.W.keepIn K (.ref f) = true) (bd : Binds K fd p_l_bent []) : ∀ n, n ≤ 50 → Cal P w K mg base CX0 (n + 3) "_law_bent" p_l_bent [] (spP K (fpb c L n))
  | 0, _ => ⟨f, fd, [], fng_no fun vs H Q E ⟨a, ws, G, ds, k, R, Z, _, _, _, _, _, z, _⟩ => z, m, kp, bd, .nil⟩
  | n + 1, h => ⟨f, fd, [], ok_bent c1 c2 hL (by omega) B c_l_take c_l_of c_l_odd (all_bent c1 c2 hL B c_l_take c_l_of c_l_odd F m kp bd n (by omega)) F, m, kp, bd, .nil⟩
end
end K03
open LamX
namespace K03
variable [TabT]
abbrev s_l_near : Stmt := topS 23
abbrev n_l_near : List Str := ["_law_pot_here", "_law_some", "_law_at", "_law_odd_here", "_law_found"]
abbrev p_l_near : List Str := ["_law_pot_here", "_law_some"]
theorem sc_l_near : FnScope n_l_near p_l_near (defScope s_l_near) := ⟨rfl, rfl, rfl, by decide +kernel, rfl, by decide +kernel, by decide +kernel⟩

section
variable {P : Program} {w : World} {K : PySem.W.Frag} {mg : Str → Option Value} {base : Heap}
def oddh : List D := [.tup [.int 2, .int 4], .tup [.int 1, .int 0], .tup [.int 1, .int (-1)], .tup [.int 0, .int 2], .tup [.int 1], .tup [.int 1, .int 2, .int 3], .int 1, .str "1/2", .non, .lst [.int 1, .int 2], .tup [.bl true, .int 1]]
theorem oddh_gd : ∀ d ∈ oddh, Gd 27 6 2 d := fun d h => gdb_ok (List.all_eq_true.mp (show oddh.all (gdb 27 6 2) = true by decide +kernel) d h)
theorem odds_vc : ∀ d ∈ odds, Vc d := by
  intro d h
  simp only [odds, List.cons_append, List.nil_append, List.mem_cons, List.not_mem_nil, or_false] at h
  repeat (rcases h with rfl | h; · first | exact .inr (.inl rfl) | exact .inr (.inr rfl) | exact .inl (gdb_ok (by decide +kernel)))
def fp_near : FP := fun k ds R _ => ∃ qs : List Rat, ds = [.tup (qs.map frq)] ∧ qs.length ≤ 5 ∧ (∀ q ∈ qs, Sm 26 q) ∧ k + 20 < 2 ^ 40 ∧ ∀ r k', Vc r → k' ≤ k + 20 → R r k'
theorem ok_near {f : Addr} {fd : FuncData} (B : Bt mg) (c_l_take : Cal P w K mg base CX0 1 "_law_take" p_l_take [] (spP K fp_take)) (c_l_of : Cal P w K mg base CX0 2 "_law_of" p_l_of [] (spP K fp_of)) (c_l_odd : Cal P w K mg base CX0 3 "_law_odd" p_l_odd [] (spP K fp_odd))
    (c_l_bent : Cal P w K mg base CX0 6 "_law_bent" p_l_bent [] (spP K (fp_bent 26 5 2))) (F : Fun K "_law_near" "_law_near" s_l_near f fd) : FnG P w K mg base CX0 7 f fd p_l_near (spP K fp_near) := by
  refine okG F sc_l_near (spP_len fun k ds R Z ⟨d, e, _⟩ => by rw [e]; rfl) (fun cdv A outer s H vs Q E gd hr ⟨a, ws, G, ds, k, R, Z, ev, le, ga, pa, kd, hf, hq, hz⟩ => ?_)
  obtain ⟨qs, rfl, hl, hS, k1, hf⟩ := hf
  subst ev
  obtain ⟨xs, ex⟩ : ∃ xs, xs = qs.map frq := ⟨_, rfl⟩
  have lx : xs.length ≤ 5 := by rw [ex, List.length_map]; exact hl
  have hB : Bn 26 5 2 (.tup xs) := by rw [ex]; exact frs_bn hS (by decide) hl
  have hE : ∀ e ∈ xs, Gd 27 6 2 e := fun e h => by
    rw [ex] at h
    obtain ⟨q, hq, rfl⟩ := List.mem_map.mp h
    exact (frq_bn (n := 0) (hS q hq) (L := 5) (by decide)).gd.mono (by decide) (by decide) (by decide)
  rw [← ex] at kd
  refine ⟨_, PSs.nox ((pss_cons (ps_par (i := 2) (j := 3) rfl sc_l_near.nd rfl rfl (by decide) rfl rfl (pa_cons (pe_cal c_l_take gd (hr.mono (by first | decide | omega)) pass0 (pa_cons (pv 0) (pa_cons (pe_op op_plus (pe_callB ((CallR.or call_len_seq call_len_str)) rfl B.b_len bt_len (pa_cons (pv 1) pa_nil)) pe_int) pa_nil))) (pa_cons (pe_lst (pa_cons (pe_tup (pa_cons pe_int (pa_cons pe_int pa_nil))) (pa_cons (pe_tup (pa_cons pe_int (pa_cons pe_int pa_nil))) (pa_cons (pe_tup (pa_cons pe_int (pa_cons (pe_un un_neg pe_int) pa_nil))) (pa_cons (pe_tup (pa_cons pe_int (pa_cons pe_int pa_nil))) (pa_cons (pe_tup (pa_cons pe_int pa_nil)) (pa_cons (pe_tup (pa_cons pe_int (pa_cons pe_int (pa_cons pe_int pa_nil)))) (pa_cons pe_int (pa_cons pe_str (pa_cons pe_non (pa_cons (pe_lst (pa_cons pe_int (pa_cons pe_int pa_nil))) (pa_cons (pe_tup (pa_cons pe_bl (pa_cons pe_int pa_nil))) pa_nil)))))))))))) pa_nil)) rfl)
      (pss_cons (ps_set (i := 4) sc_l_near.nd rfl (by first | exact Or.inl rfl | exact Or.inr rfl) (pe_lst (pa_cons (pv 1) (pa_cons (pv 1) (pa_cons (pe_callTy (call_list_of) rfl B.b_list bt_list (pa_cons (pv 1) pa_nil)) (pa_cons (pe_op op_plus (pv 1) (pe_slice sl_cut (pv 1) po_none (po_some pe_int))) (pa_cons (pe_slice sl_cut (pv 1) (po_some pe_int) po_none) (pa_cons (pe_op op_plus (pe_op op_plus (pe_slice sl_cut (pv 1) po_none (po_some (pv 2))) (pe_tup (pa_cons (pe_cal c_l_of gd (hr.mono (by first | decide | omega)) pass0 (pa_cons (pv 0) (pa_cons (pv 3) pa_nil))) pa_nil))) (pe_slice sl_cut (pv 1) (po_some (pv 2)) po_none)) pa_nil))))))))
      (pss_one (ps_ret (pe_cal c_l_of gd (hr.mono (by first | decide | omega)) pass0 (pa_cons (pv 0) (pa_cons (pe_op op_plus (pv 4) (pe_lst (pa_cons (pe_cal c_l_bent gd (hr.mono (by first | decide | omega)) pass0 (pa_cons (pv 0) (pa_cons (pv 1) pa_nil))) (pa_cons (pe_cal c_l_odd gd (hr.mono (by first | decide | omega)) pass0 (pa_cons (pv 0) pa_nil)) pa_nil)))) pa_nil)))))))), fin_P le ga pa kd hq ?_⟩
  refine xs_mid (fun ρ => ∃ j : Nat, j ≤ xs.length ∧ ρ = [.pot a (k + 1), .dat (.tup xs), .dat (.int (j : Int)), .dat (.lst oddh), .un]) ?_ fun ρ ⟨j, hj, e⟩ => ?_
  · refine xs_parDD (ev_callP (Z := fun _ _ => False) Flies.none (fun _ => .nil) (by exact ⟨_, _, rfl⟩) ?_)
    repeat walk_at "ar"
    refine ⟨_, _, rfl, _, rfl, by omega, by omega, by omega, fun t t0 t1 => ?_⟩
    repeat walk_at "ar"
    all_goals (first | (refine ⟨Nat.le_of_ble_eq_true rfl, ?_⟩) | skip)
    repeat (first | walk_at "ar" | (refine ⟨Nat.le_of_ble_eq_true rfl, ?_⟩))
    exact ⟨t.toNat, by omega, by rw [Int.toNat_of_nonneg t0]; rfl⟩
  subst e
  refine xs_mid (fun ρ => ∃ ys, (∀ y ∈ ys, Gd 27 6 3 y) ∧ 0 < ys.length ∧ ys.length ≤ 100 ∧ ρ = [.pot a (k + 2), .dat (.tup xs), .dat (.int (j : Int)), .dat (.lst oddh), .dat (.lst ys)]) ?_ fun ρ ⟨ys, hy, y0, y1, e⟩ => ?_
  · refine xs_set ?_
    refine ev_lst (ea_cons (ev_var rfl (ea_cons (ev_var rfl (ea_cons (EvN.ev (en_list (ea_cons (ev_var rfl (ea_nil ⟨xs, .inr rfl, ?_⟩))))))))))
    refine ea_cons (ev_op (ev_var rfl (ev_cut (ev_var rfl (eo_none (eo_some (ev_int ⟨_, rfl, .inr (.inl ⟨_, rfl, ?_⟩)⟩)))))))
    have l1 := cut_len xs none (some 1)
    have l1' : (DL.cutD xs none (some 1)).length ≤ 1 := by
      rw [show (some (1 : Int)) = some ((1 : Nat) : Int) from rfl]
      by_cases h : 1 ≤ xs.length
      · rw [cut_to h, List.length_take]
        omega
      · exact Nat.le_trans (cut_len xs _ _) (by omega)
    have l2 := cut_len xs (some 1) none
    refine rd_k (r := rPlus) rfl (plus_tup (by omega) ?_)
    refine ea_cons (ev_cut (ev_var rfl (eo_some (ev_int ⟨_, rfl, eo_none (.inr (.inl ⟨_, rfl, ?_⟩))⟩))))
    refine ea_cons (ev_op (ev_op (ev_cut (ev_var rfl (eo_none (eo_some (ev_var rfl ⟨_, rfl, .inr (.inl ⟨_, rfl, ?_⟩)⟩)))))))
    rw [cut_to hj]
    refine ev_tup (ea_cons (ev_callP (Z := fun _ _ => False) Flies.none (fun _ => .nil) (by exact ⟨_, _, rfl⟩) ?_))
    repeat walk_at "ar"
    refine ⟨_, _, rfl, oddh, rfl, by decide, by decide, by omega, fun x hx => ?_⟩
    refine ea_nil ⟨Nat.le_of_ble_eq_true rfl, ?_⟩
    refine rd_k (r := rPlus) rfl (plus_tup (by rw [List.length_take]; simp; omega) ?_)
    refine ev_cut (ev_var rfl (eo_some (ev_var rfl ⟨_, rfl, eo_none (.inr (.inl ⟨_, rfl, ?_⟩))⟩)))
    rw [cut_from hj]
    refine rd_k (r := rPlus) rfl (plus_tup (by simp; omega) ?_)
    refine ea_nil ⟨Nat.le_of_ble_eq_true rfl, ?_⟩
    refine ⟨_, ?_, by simp, by simp, rfl⟩
    intro y hy
    simp only [List.mem_cons, List.not_mem_nil, or_false] at hy
    rcases hy with rfl | rfl | rfl | rfl | rfl | rfl
    · exact .tup (by omega) hE
    · exact .tup (by omega) hE
    · exact .lst (by omega) hE
    · refine .tup (by rw [List.length_append]; omega) fun e h => ?_
      rcases List.mem_append.mp h with h | h
      · exact hE e h
      · exact hE e (cut_mem h)
    · exact .tup (by omega) fun e h => hE e (cut_mem h)
    · refine .tup (by simp; omega) fun e h => ?_
      rcases List.mem_append.mp h with h | h
      · rcases List.mem_append.mp h with h | h
        · exact hE _ (List.mem_of_mem_take h)
        · rw [List.mem_singleton.mp h]
          exact oddh_gd x hx
      · exact hE _ (List.mem_of_mem_drop h)
  subst e
  refine xs_ret (ev_callP (Z := fun _ _ => False) Flies.none (fun _ => .nil) (by exact ⟨_, _, rfl⟩) ?_)
  refine ea_cons (ev_op (ev_var rfl (ev_lst (ea_cons (ev_callP (Z := fun _ _ => False) Flies.none (fun _ => .nil) (by exact ⟨_, _, rfl⟩) ?_)))))
  repeat walk_at "ar"
  refine ⟨_, _, rfl, .tup xs, rfl, hB, by omega, fun r k2 hr2 hk2 => ?_⟩
  refine ea_cons (ev_callP (Z := fun _ _ => False) Flies.none (fun _ => .nil) (by exact ⟨_, _, rfl⟩) ?_)
  repeat walk_at "ar"
  refine ⟨_, _, rfl, rfl, by omega, fun x hx => ?_⟩
  refine ea_nil ⟨Nat.le_of_ble_eq_true rfl, ?_⟩
  refine rd_k (r := rPlus) rfl (plus_lst (by simp; omega) ?_)
  refine ea_nil ⟨_, _, rfl, _, rfl, by simp, by simp; omega, by omega, fun z hz => ⟨_, rfl, hf z _ ?_ (by omega)⟩⟩
  rcases List.mem_append.mp hz with hz | hz
  · exact .inl (hy z hz)
  · simp only [List.mem_cons, List.not_mem_nil, or_false] at hz
    rcases hz with rfl | rfl
    · exact .inl hr2
    · exact odds_vc _ hx
end
end K03
open LamX
namespace K03
variable [TabT]

abbrev s_l_right : Stmt := topS 24
abbrev n_l_right : List Str := ["_law_pot_here", "_law_some", "_law_lap", "_law_value", "_law_weights", "_law_caught", "_law_is_first", "_law_is_fine", "_law_turn"]
abbrev p_l_right : List Str := ["_law_pot_here"]
theorem sc_l_right : FnScope n_l_right p_l_right (defScope s_l_right) := ⟨rfl, rfl, rfl, by decide +kernel, rfl, by decide +kernel, by decide +kernel⟩

section
variable {P : Program} {w : World} {K : PySem.W.Frag} {mg : Str → Option Value} {base : Heap}
theorem zip_fr : ∀ {qs rs : List Rat}, qs.length = rs.length → (qs.zip rs).map (fun p => frq p.1) = qs.map frq ∧ (qs.zip rs).map (fun p => frq p.2) = rs.map frq
  | [], [], _ => ⟨rfl, rfl⟩
  | [], _ :: _, h => by cases h
  | _ :: _, [], h => by cases h
  | q :: qs, r :: rs, h => by
    obtain ⟨a, b⟩ := zip_fr (qs := qs) (rs := rs) (by simpa using h)
    exact ⟨by rw [List.zip_cons_cons, List.map_cons, a, List.map_cons], by rw [List.zip_cons_cons, List.map_cons, b, List.map_cons]⟩
theorem sml27 {ps : List Pq} (h : ∀ p ∈ ps, SmP 27 p) (hl : ps.length ≤ 6) : SmL ps := ⟨27, by decide, h, by omega, by omega⟩
theorem sm1 : Sm 27 (1 : Rat) := ⟨by decide, by decide⟩
theorem one_case {v : D} (hv : Vc v) (e : areF v = true) : ∃ ps, v = frA ps ∧ (∀ p ∈ ps, p.2 = 1) ∧ SmL ps := by
  obtain ⟨qs, rfl⟩ := areF_inv e
  obtain ⟨l, k⟩ := hv.frs
  refine ⟨qs.map fun q => (q, 1), ?_, fun p hp => ?_, sml27 (fun p hp => ?_) (by rw [List.length_map]; exact l)⟩
  · unfold frA
    rw [List.map_map]
    rfl
  · obtain ⟨q, _, rfl⟩ := List.mem_map.mp hp
    rfl
  · obtain ⟨q, hq, rfl⟩ := List.mem_map.mp hp
    exact ⟨k q hq, sm1⟩
theorem two_cases {v u : D} (hv : Vc v) (hu : Vc u) : areF v = false ∨
    (∃ xs, v = .tup xs ∧ areF v = true ∧ u ≠ .non ∧ (areF u = false ∨ ∃ ys, u = .tup ys ∧ areF u = true ∧ ys.length ≠ xs.length)) ∨
    ∃ ps, v = frA ps ∧ ((u = .non ∧ ∀ p ∈ ps, p.2 = 1) ∨ u = frB ps) ∧ SmL ps := by
  cases e : areF v with
  | false => exact .inl rfl
  | true =>
    by_cases n : u = .non
    · subst n
      obtain ⟨ps, a, b, c⟩ := one_case hv e
      exact .inr (.inr ⟨ps, a, .inl ⟨rfl, b⟩, c⟩)
    obtain ⟨qs, rfl⟩ := areF_inv e
    cases e2 : areF u with
    | false => exact .inr (.inl ⟨_, rfl, rfl, n, .inl rfl⟩)
    | true =>
      obtain ⟨rs, rfl⟩ := areF_inv e2
      by_cases hl : qs.length = rs.length
      · obtain ⟨a, b⟩ := zip_fr hl
        obtain ⟨l1, k1⟩ := hv.frs
        obtain ⟨l2, k2⟩ := hu.frs
        refine .inr (.inr ⟨qs.zip rs, by unfold frA; rw [a], .inr (by unfold frB; rw [b]), sml27 (fun p hp => ?_) ?_⟩)
        · obtain ⟨p1, p2⟩ := List.of_mem_zip (a := p.1) (b := p.2) hp
          exact ⟨k1 _ p1, k2 _ p2⟩
        · rw [List.length_zip]
          omega
      · refine .inr (.inl ⟨_, rfl, rfl, n, .inr ⟨_, rfl, rfl, ?_⟩⟩)
        rw [List.length_map, List.length_map]
        exact fun z => hl z.symm
def fp_right : FP := fun k ds R _ => ds = [] ∧ k + 10000 < 2 ^ 40 ∧ ∀ k', k' ≤ k + 10000 → R (.bl true) k'
theorem ok_right {f CT PM cM g : Addr} {oc od dV kV doc pm an ct osl} {ocH odH dVH kVH docH pmH anH cdH ctH oslH} (B : Bt mg) (C_BadFractions : Addr) (m_BadFractions : mg "BadFractions" = some (.ref C_BadFractions)) (m_TieError : mg "TieError" = some (.ref CT))
    (m_l_heard : mg "_law_heard" = some (.ref g)) (k_l_heard : PySem.W.keepIn K (.ref g) = true) (l_l_heard : K.lookup g = some ⟨ocH, odH, .func (PySem.W.fnOf "_law_heard" "_law_heard" (defArgs s_l_heard) (defBody s_l_heard) (defScope s_l_heard) dVH kVH docH pmH anH cdH ctH), oslH⟩) (cc_l_heard : PySem.W.codeIn K cdH "_law_heard" = true)
    (b_l_heard : L2.Binds K (PySem.W.fnOf "_law_heard" "_law_heard" (defArgs s_l_heard) (defBody s_l_heard) (defScope s_l_heard) dVH kVH docH pmH anH cdH ctH) ["_law_call"] [])
    (x_BadFractions : ExcC K C_BadFractions) (xf_BadFractions : XfC K C_BadFractions) (v_BadFractions : PySem.W.findIn K (.ref C_BadFractions) "value" = some none) (kk_BadFractions : PySem.W.kitOne K (.ref C_BadFractions) (.ref C_BadFractions) = some true) (em : PySem.W.exmOne K (.ref C_BadFractions) (.ref CT) = some true) (TB : TabB base mg cM PM) (hmT : (PM, ("_law_right.<locals>.<lambda>" : Str)) ∈ TabT.T) (hu_T : ∀ p ∈ TabT.T, p.1 = PM → p.2 = ("_law_right.<locals>.<lambda>" : Str))
    (c_l_take : Cal P w K mg base CX0 1 "_law_take" p_l_take [] (spP K fp_take)) (c_l_drawn_fraction : Cal P w K mg base CX0 3 "_law_drawn_fraction" p_l_drawn_fraction [] (spP K fp_drawn)) (c_l_near : Cal P w K mg base CX0 7 "_law_near" p_l_near [] (spP K fp_near)) (c_l_are_fractions : Cal P w K mg base CX0 3 "_law_are_fractions" p_l_are_fractions [] (spD K fs_laref))
    (c_total_2 : Cal P w K mg base (L2.CX P w) 4 "total" p_total [] (spD K (fs_total C_BadFractions))) (c_total_1 : Cal P w K mg base (L2.CX P w) 4 "total" p_total [.non] (spD K (fs_total C_BadFractions)))
    (lk : K.lookup f = some ⟨oc, od, .func (PySem.W.fnOf "_law_right" "_law_right" (defArgs s_l_right) (defBody s_l_right) (defScope s_l_right) dV kV doc pm an (.ref cM) ct), osl⟩) (hcd : PySem.W.codeIn K (.ref cM) "_law_right" = true) :
    FnG P w K mg base CX0 8 f (PySem.W.fnOf "_law_right" "_law_right" (defArgs s_l_right) (defBody s_l_right) (defScope s_l_right) dV kV doc pm an (.ref cM) ct) p_l_right (spPT K fp_right) := by
  refine fn_g lk hcd sc_l_right (spPT_len fun k ds R Z ⟨e, _⟩ => by rw [e]; rfl) (fun A outer s H vs Q E gd hr ⟨hT, a, ws, G, ds, k, R, Z, ev, hN, le, ga, pa, kd, hf, hq, hz⟩ => ?_)
  have hu : (cxOf CX0 P w K mg base n_l_right "_law_right" (defScope s_l_right) f (.ref cM) A outer s H E).nox.A.units + 64 < cLine := hr.units
  obtain ⟨rfl, k1, hf⟩ := hf
  subst ev
  refine ⟨_, PSs.nox ((pss_cons (ps_set (i := 1) sc_l_right.nd rfl (by first | exact Or.inl rfl | exact Or.inr rfl) (pe_callTy (call_tuple_of) rfl B.b_tuple bt_tuple (pa_cons (pe_lc (own := [("_law_turn", 8)]) (g := (gName 8)) (tt := tYes) rfl sc_l_right.nd (pi_range1 rfl B.b_range (pa_cons (pe_op op_plus pe_int (pe_cal c_l_take gd (hr.mono (by first | decide | omega)) pass0 (pa_cons (pv 0) (pa_cons pe_int pa_nil)))) pa_nil)) (blkOk_by (N := n_l_right) (sc := defScope s_l_right) (by decide +kernel)) (fun _ _ _ _ _ => (pg_name (i := 8) sc_l_right.nd rfl (by first | exact Or.inl rfl | exact Or.inr rfl))) (fun _ _ _ _ _ => pts_nil) (fun _ _ _ _ _ => (pe_cal c_l_drawn_fraction gd (hr.mono (by first | decide | omega)) pass0 (pa_cons (pv 0) pa_nil)))) pa_nil)))
      (pss_cons (ps_for PassesOwn.never rfl (pi_range1 rfl B.b_range (pa_cons pe_int pa_nil)) (pg_name (i := 2) sc_l_right.nd rfl (by first | exact Or.inl rfl | exact Or.inr rfl))
      (pss_cons (ps_asg (pe_tup (pa_cons (pe_cal c_l_near gd (hr.mono (by first | decide | omega)) pass0 (pa_cons (pv 0) (pa_cons (pv 1) pa_nil))) (pa_cons (pe_cal c_l_near gd (hr.mono (by first | decide | omega)) pass0 (pa_cons (pv 0) (pa_cons (pe_revT (pv 1)) pa_nil))) pa_nil))) (pg_tup rfl (pgs_cons (pg_name (i := 3) sc_l_right.nd rfl (by first | exact Or.inl rfl | exact Or.inr rfl)) (pgs_cons (pg_name (i := 4) sc_l_right.nd rfl (by first | exact Or.inl rfl | exact Or.inr rfl)) pgs_nil))))
      (pss_cons (ps_set (i := 5) sc_l_right.nd rfl (by first | exact Or.inl rfl | exact Or.inr rfl) (pe_ix ix_seq (pe_lamG (k := 4) gd rfl m_l_heard k_l_heard l_l_heard cc_l_heard b_l_heard sc_l_heard rfl (.inl rfl) (heard_gives m_TieError) TB rfl hmT hu_T (hr.mono (by first | decide | omega)) (lamS_by (sc := defScope s_l_right) (by decide +kernel)) rfl (fun _ _ _ _ _ => rfl) (fun A outer s H E f c_ gA hr2 => (pe_cal c_total_2 gA (hr2.mono (by first | decide | omega)) (passes_call (takes_of rfl rfl rfl rfl) (fun _ _ _ _ h => h)) (pa_cons (pv 3) (pa_cons (pv 4) pa_nil))))) pe_int (fun _ _ => rfl)))
      (pss_cons (ps_set (i := 6) sc_l_right.nd rfl (by first | exact Or.inl rfl | exact Or.inr rfl) (pe_and (pe_callB (call_isA) rfl B.b_isinstance bt_isinstance (pa_cons (pv 3) (pa_cons (pe_bltn (v := .ty "tuple") rfl B.b_tuple bt_tuple rfl) pa_nil))) (pe_one (pe_cal c_l_are_fractions gd (hr.mono (by first | decide | omega)) pass0 (pa_cons (pv 3) (pa_cons (pe_callB ((CallR.or call_len_seq call_len_str)) rfl B.b_len bt_len (pa_cons (pv 3) pa_nil)) pa_nil))))))
      (pss_cons (ps_if (pt_not (pt_val (pv 6)))
      (pss_one (ps_set (i := 7) sc_l_right.nd rfl (by first | exact Or.inl rfl | exact Or.inr rfl) (pe_and (pe_callB (call_isA) rfl B.b_isinstance bt_isinstance (pa_cons (pv 5) (pa_cons (pe_glob (v := .ref C_BadFractions) rfl m_BadFractions rfl) pa_nil))) (pe_one (pe_cmpR (op_eqA hu) (pe_callB (call_reprA gd hu) rfl B.b_repr bt_repr (pa_cons (pe_xv (pv 5)) pa_nil)) (pe_callB (call_reprA gd hu) rfl B.b_repr bt_repr (pa_cons (pv 3) pa_nil)) (nomark _))))))
      (pss_one (ps_if (PW.pt (pw_or (pt_cmpR op_isN (pv 4) pe_non (nomark _)) (pw_or1 (pt_val (pe_cal c_l_are_fractions gd (hr.mono (by first | decide | omega)) pass0 (pa_cons (pv 4) (pa_cons (pe_callB ((CallR.or call_len_seq call_len_str)) rfl B.b_len bt_len (pa_cons (pv 3) pa_nil)) pa_nil)))))))
      (pss_one (ps_set (i := 7) sc_l_right.nd rfl (by first | exact Or.inl rfl | exact Or.inr rfl) (pe_cmpR op_isN (pv 5) pe_non (nomark _))))
      (pss_one (ps_set (i := 7) sc_l_right.nd rfl (by first | exact Or.inl rfl | exact Or.inr rfl) (pe_and (pe_callB (call_isA) rfl B.b_isinstance bt_isinstance (pa_cons (pv 5) (pa_cons (pe_glob (v := .ref C_BadFractions) rfl m_BadFractions rfl) pa_nil))) (pe_one (pe_cmpR (op_eqA hu) (pe_callB (call_reprA gd hu) rfl B.b_repr bt_repr (pa_cons (pe_xv (pv 5)) pa_nil)) (pe_callB (call_reprA gd hu) rfl B.b_repr bt_repr (pa_cons (pv 4) pa_nil)) (nomark _)))))))))
      (pss_cons (ps_if (pt_not (pt_val (pv 7)))
      (pss_one (ps_ret pe_bl))
      pss_nil)
      (pss_cons (ps_set (i := 5) sc_l_right.nd rfl (by first | exact Or.inl rfl | exact Or.inr rfl) (pe_ix ix_seq (pe_lamG (k := 4) gd rfl m_l_heard k_l_heard l_l_heard cc_l_heard b_l_heard sc_l_heard rfl (.inl rfl) (heard_gives m_TieError) TB rfl hmT hu_T (hr.mono (by first | decide | omega)) (lamS_by (sc := defScope s_l_right) (by decide +kernel)) rfl (fun _ _ _ _ _ => rfl) (fun A outer s H E f c_ gA hr2 => (pe_cal c_total_1 gA (hr2.mono (by first | decide | omega)) (passes_call (takes_of rfl rfl rfl rfl) (fun _ _ _ _ h => h)) (pa_cons (pv 3) pa_nil)))) pe_int (fun _ _ => rfl)))
      (pss_one (ps_if (PW.pt (pw_or (pt_cmpR (op_neA hu) (pe_cmpR op_isN (pv 5) pe_non (nomark _)) (pv 6) (nomark _)) (pw_or1 (PW.pt (pw_and (pt_cmpR op_notN (pv 5) pe_non (nomark _)) (pw_and1 (pt_not (pt_val (pe_callB (call_isA) rfl B.b_isinstance bt_isinstance (pa_cons (pv 5) (pa_cons (pe_glob (v := .ref C_BadFractions) rfl m_BadFractions rfl) pa_nil)))))))))))
      (pss_one (ps_ret pe_bl))
      pss_nil)))))))))
      (pss_one (ps_ret pe_bl))))), fin_P le ga pa kd hq ?_⟩
  refine xs_mid (fun ρ => ∃ qs : List Rat, ∃ kk, qs.length ≤ 5 ∧ (∀ q ∈ qs, Sm 26 q) ∧ kk ≤ k + 26 ∧ ρ = [.pot a kk, .dat (.tup (qs.map frq)), .un, .un, .un, .un, .un, .un, .un]) ?_ fun ρ ⟨qs, kk, hl, hS, hk, e⟩ => ?_
  · refine xs_set (ev_cb (ea_cons (EvN.ev (en_lc (is := [8]) (fun ds j acc ρ => ds.length ≤ 5 ∧ ∃ qs : List Rat, acc = qs.map frq ∧ qs.length = j ∧ (∀ q ∈ qs, Sm 26 q) ∧ ρ = [.pot a (k + 1 + 5 * j), .un, .un, .un, .un, .un, .un, .un, .un]) (by decide) (ei_range1 ?_)))))
    refine ea_cons (ev_op (ev_int (ev_callP (Z := fun _ _ => False) Flies.none (fun _ => .nil) (by exact ⟨_, _, rfl⟩) ?_)))
    repeat walk_at "ar"
    refine ⟨_, _, rfl, _, rfl, by decide, by decide, by omega, fun t t0 t1 => ?_⟩
    repeat walk_at "ar"
    refine ⟨1 + t, rfl, by omega, by omega, ?_⟩
    refine ⟨by rw [ints_len]; omega, ⟨by rw [ints_len]; omega, [], rfl, rfl, by simp, rfl⟩, fun j d acc ρ hd hI => ?_, fun acc ρ hl2 hI => ?_⟩
    · obtain ⟨hds, qs, rfl, hq1, hq2, e⟩ := hI
      obtain ⟨rfl, hj⟩ := ints_get hd
      rw [e]
      refine eg_name (et_yes ⟨fun _ => ?_, fun h => nomatch h⟩)
      refine ev_callP (Z := fun _ _ => False) Flies.none (fun _ => .nil) (by exact ⟨_, _, rfl⟩) ?_
      repeat walk_at "ar"
      refine ⟨_, _, rfl, rfl, by omega, fun q sq => ?_⟩
      refine ⟨hds, qs ++ [q], by rw [List.map_append]; rfl, by rw [List.length_append, hq1]; rfl, fun x hx => ?_, ?_⟩
      · rcases List.mem_append.mp hx with hx | hx
        · exact hq2 x hx
        · rw [List.mem_singleton.mp hx]
          exact sq.mono (by decide)
      · rw [show k + 1 + 5 * j + 5 = k + 1 + 5 * (j + 1) by omega]
        rfl
    · obtain ⟨hds, qs, rfl, hq1, hq2, e⟩ := hI
      rw [e]
      refine ea_nil (rc_tupL ?_)
      exact ⟨qs, _, by omega, hq2, by omega, rfl⟩
  subst e
  refine xs_seq ?_
  refine xs_for (is := [2]) (fun _ i ρ => ∃ kk, ∃ u2 u3 u4 u5 u6 u7 : DL.Slot, kk ≤ k + 26 + 40 * i ∧ ρ = [.pot a kk, .dat (.tup (qs.map frq)), u2, u3, u4, u5, u6, u7, .un]) (ei_range1 ?_)
  repeat walk_at "ev"
  refine ⟨by decide, by decide, ⟨kk, .un, .un, .un, .un, .un, .un, by omega, rfl⟩, fun i d ρ hd hI => ?_, fun ρ hI => ?_⟩
  · obtain ⟨kk, u2, u3, u4, u5, u6, u7, hk, rfl⟩ := hI
    obtain ⟨rfl, hi⟩ := ints_get hd
    have hi20 : i < 20 := hi
    refine eg_name ?_
    refine xs_mid (fun ρ => ∃ v u k2, Vc v ∧ Vc u ∧ k2 ≤ kk + 40 ∧ ρ = [.pot a k2, .dat (.tup (qs.map frq)), .dat (.int (0 + (i : Int))), .dat v, .dat u, u5, u6, u7, .un]) ?_ fun ρ ⟨v, u, k2, hv, hw, hk2, e⟩ => ?_
    · refine xs_asg (is := [3, 4]) (ev_tup ?_)
      refine ea_cons (ev_callP (Z := fun _ _ => False) Flies.none (fun _ => .nil) (by exact ⟨_, _, rfl⟩) ?_)
      refine ea_cons (ev_var rfl (ea_nil ⟨_, _, rfl, qs, rfl, hl, hS, by omega, fun v k3 hv hk3 => ?_⟩))
      refine ea_cons (ev_callP (Z := fun _ _ => False) Flies.none (fun _ => .nil) (by exact ⟨_, _, rfl⟩) ?_)
      refine ea_cons (ev_revT (ev_var rfl ⟨_, rfl, ea_nil ⟨_, _, rfl, qs.reverse, by rw [List.map_reverse]; rfl, by rw [List.length_reverse]; exact hl, fun q hq => hS q (List.mem_reverse.mp hq), by omega, fun u k4 hw hk4 => ?_⟩⟩))
      refine ea_nil ⟨Nat.le_of_ble_eq_true rfl, ?_⟩
      refine eg_tup rfl (egs_cons (is := [3]) (js := [4]) (eg_name (egs_cons (is := [4]) (js := []) (eg_name (egs_nil ?_)))))
      exact ⟨v, u, k4, hv, hw, by omega, rfl⟩
    subst e
    obtain ⟨xv, sv⟩ := hv.shows
    obtain ⟨xw, sw⟩ := hw.shows
    have tv := hv.ty3
    have tw := hw.ty3
    -- what the call tells
    refine xs_mid (fun ρ => ∃ c, ((areF v = false ∧ c = .exc C_BadFractions v) ∨ (areF v = true ∧ (∃ xs, v = .tup xs ∧ u ≠ .non ∧ (areF u = false ∨ ∃ ys, u = .tup ys ∧ areF u = true ∧ ys.length ≠ xs.length)) ∧ c = .exc C_BadFractions u) ∨
        (areF v = true ∧ (u = .non ∨ (∃ xs ys, v = .tup xs ∧ u = .tup ys ∧ areF u = true ∧ ys.length = xs.length)) ∧ c = .non)) ∧ ρ = [.pot a k2, .dat (.tup (qs.map frq)), .dat (.int (0 + (i : Int))), .dat v, .dat u, .dat c, u6, u7, .un]) ?_ fun ρ ⟨c, hc, e⟩ => ?_
    · rcases two_cases hv hw with h1 | ⟨xs, rfl, h1, h2, h3⟩ | ⟨ps, rfl, h1, h2⟩
      · refine xs_set (ev_op (ev_heard (R := fun _ => False) (Z := fun C db => C = C_BadFractions ∧ db = v) hT hN (fun G2 H2 E2 hE => ?_) (fun d hd => hd.elim) (fun Cl db hz => ?_)))
        · refine ev_call hE (fun _ => .nil) (ea_cons (ev_var rfl (ea_cons (ev_var rfl (ea_nil ?_)))))
          exact ⟨v, u, rfl, tv, tw, .inl ⟨h1, rfl, rfl⟩⟩
        · obtain ⟨rfl, rfl⟩ := hz
          refine ⟨em, ?_⟩
          repeat walk_at "ar"
          refine ix_tupl ⟨0, rfl, rfl⟩ ?_
          exact ⟨_, .inl ⟨h1, rfl⟩, rfl⟩
      · refine xs_set (ev_op (ev_heard (R := fun _ => False) (Z := fun C db => C = C_BadFractions ∧ db = u) hT hN (fun G2 H2 E2 hE => ?_) (fun d hd => hd.elim) (fun Cl db hz => ?_)))
        · refine ev_call hE (fun _ => .nil) (ea_cons (ev_var rfl (ea_cons (ev_var rfl (ea_nil ?_)))))
          exact ⟨_, u, rfl, tv, tw, .inr (.inl ⟨xs, rfl, h1, h2, h3, rfl, rfl⟩)⟩
        · obtain ⟨rfl, rfl⟩ := hz
          refine ⟨em, ?_⟩
          repeat walk_at "ar"
          refine ix_tupl ⟨0, rfl, rfl⟩ ?_
          exact ⟨_, .inr (.inl ⟨h1, ⟨xs, rfl, h2, h3⟩, rfl⟩), rfl⟩
      · refine xs_set (ev_op (ev_heard (R := fun _ => True) (Z := fun _ _ => False) hT hN (fun G2 H2 E2 hE => ?_) (fun d hd => ?_) (fun Cl db hz => hz.elim)))
        · refine ev_call hE (fun _ => .nil) (ea_cons (ev_var rfl (ea_cons (ev_var rfl (ea_nil ?_)))))
          exact ⟨_, u, rfl, tv, tw, .inr (.inr ⟨ps, rfl, h1, h2, trivial⟩)⟩
        · repeat walk_at "ar"
          refine ix_tupl ⟨0, rfl, rfl⟩ ?_
          refine ⟨_, .inr (.inr ⟨areF_frA ps, ?_, rfl⟩), rfl⟩
          rcases h1 with ⟨e, _⟩ | rfl
          · exact .inl e
          · exact .inr ⟨_, _, rfl, rfl, areF_frB ps, by rw [List.length_map, List.length_map]⟩
    subst e
    -- whether the first one is right
    refine xs_mid (fun ρ => ρ = [.pot a k2, .dat (.tup (qs.map frq)), .dat (.int (0 + (i : Int))), .dat v, .dat u, .dat c, .dat (.bl (areF v)), u7, .un]) ?_ fun ρ e => ?_
    · refine xs_set ?_
      repeat walk_at "ar"
      refine isa_tup rfl tv.1 ?_
      refine ⟨_, rfl, fun h => ?_, fun h => by rw [areF_not h]; rfl⟩
      obtain ⟨xs, rfl⟩ := isT_inv h
      refine ev_call (Z := fun _ _ => False) Flies.none (fun _ => .nil) ?_
      repeat walk_at "ar"
      refine ⟨_, _, rfl, tv, ?_⟩
      have e0 : (areF (.tup xs) && lenIs (xs.length : Int) (.tup xs)) = areF (.tup xs) := by
        rw [show lenIs (xs.length : Int) (.tup xs) = true from beq_self_eq_true _, Bool.and_true]
      exact congrArg (fun b => [Slot.pot a k2, .dat (.tup (qs.map frq)), .dat (.int (0 + (i : Int))), .dat (.tup xs), .dat u, .dat c, .dat (.bl b), u7, .un]) e0
    subst e
    refine xs_mid (fun ρ => ρ = [.pot a k2, .dat (.tup (qs.map frq)), .dat (.int (0 + (i : Int))), .dat v, .dat u, .dat c, .dat (.bl (areF v)), .dat (.bl true), .un]) ?_ fun ρ e => ?_
    · rcases hc with ⟨h1, rfl⟩ | ⟨h1, ⟨xs, rfl, h2, h3⟩, rfl⟩ | ⟨h1, h2, rfl⟩
      · rw [h1]
        repeat walk_at "ar"
        refine ⟨_, rfl, fun _ => ?_, fun h => (nomatch h)⟩
        refine xs_set ?_
        repeat walk_at "ar"
        refine rc_isX rfl x_BadFractions (.own _) kk_BadFractions ?_
        refine ⟨true, rfl, fun _ => ?_, fun h => (nomatch h)⟩
        repeat walk_at "ar"
        refine ev_xv (ev_var rfl ⟨C_BadFractions, v, rfl, xf_BadFractions, v_BadFractions, ea_nil ?_⟩)
        refine rc_reprA rfl sv ?_
        repeat walk_at "ar"
        refine rc_reprA rfl sv ?_
        refine eq_str rfl ?_
        rw [decide_eq_true rfl]
        rfl
      · rw [h1]
        repeat walk_at "ar"
        refine ⟨_, rfl, fun h => (nomatch h), fun _ => ?_⟩
        repeat walk_at "ar"
        refine rd_isN (b := false) (fun G v h => isN_ne h tw.1 h2) ?_
        refine ⟨false, rfl, fun h => (nomatch h), fun _ => ?_⟩
        repeat walk_at "ar"
        refine ev_call (Z := fun _ _ => False) Flies.none (fun _ => .nil) ?_
        repeat walk_at "ar"
        refine ⟨u, _, rfl, tw, ?_⟩
        have e0 : (areF u && lenIs (xs.length : Int) u) = false := by
          rcases h3 with h3 | ⟨ys, rfl, h3, h4⟩
          · rw [h3]
            rfl
          · show (areF (.tup ys) && ((ys.length : Int) == (xs.length : Int))) = false
            rw [show ((ys.length : Int) == (xs.length : Int)) = false from beq_eq_false_iff_ne.mpr (by omega), Bool.and_false]
        refine ⟨false, congrArg D.bl e0, fun h => (nomatch h), fun _ => ?_⟩
        refine xs_set ?_
        repeat walk_at "ar"
        refine rc_isX rfl x_BadFractions (.own _) kk_BadFractions ?_
        refine ⟨true, rfl, fun _ => ?_, fun h => (nomatch h)⟩
        repeat walk_at "ar"
        refine ev_xv (ev_var rfl ⟨C_BadFractions, u, rfl, xf_BadFractions, v_BadFractions, ea_nil ?_⟩)
        refine rc_reprA rfl sw ?_
        repeat walk_at "ar"
        refine rc_reprA rfl sw ?_
        refine eq_str rfl ?_
        rw [decide_eq_true rfl]
        rfl
      · rw [h1]
        repeat walk_at "ar"
        refine ⟨_, rfl, fun h => (nomatch h), fun _ => ?_⟩
        repeat walk_at "ar"
        rcases h2 with rfl | ⟨xs, ys, rfl, rfl, h3, h4⟩
        · refine rd_isN (b := true) (fun G v h => isN_non h) ?_
          refine ⟨true, rfl, fun _ => ⟨fun _ => ?_, fun h => (nomatch h)⟩, fun h => (nomatch h)⟩
          refine xs_set ?_
          repeat walk_at "ar"
          refine rd_isN (b := true) (fun G v h => isN_non h) ?_
          rfl
        · refine rd_isN (b := false) (fun G v h => isN_tup h) ?_
          refine ⟨false, rfl, fun h => (nomatch h), fun _ => ?_⟩
          repeat walk_at "ar"
          refine ev_call (Z := fun _ _ => False) Flies.none (fun _ => .nil) ?_
          repeat walk_at "ar"
          refine ⟨_, _, rfl, tw, ?_⟩
          have e0 : (areF (.tup ys) && lenIs (xs.length : Int) (.tup ys)) = true := by
            show (areF (.tup ys) && ((ys.length : Int) == (xs.length : Int))) = true
            rw [h3, h4]
            exact beq_self_eq_true _
          refine ⟨true, congrArg D.bl e0, fun _ => ?_, fun h => (nomatch h)⟩
          refine xs_set ?_
          repeat walk_at "ar"
          refine rd_isN (b := true) (fun G v h => isN_non h) ?_
          rfl
    subst e
    repeat walk_at "ar"
    refine ⟨true, rfl, fun h => (nomatch h), fun _ => ?_⟩
    refine xs_next ?_
    -- without weights
    refine xs_mid (fun ρ => ∃ c2, ((areF v = false ∧ c2 = .exc C_BadFractions v) ∨ (areF v = true ∧ c2 = .non)) ∧ ρ = [.pot a k2, .dat (.tup (qs.map frq)), .dat (.int (0 + (i : Int))), .dat v, .dat u, .dat c2, .dat (.bl (areF v)), .dat (.bl true), .un]) ?_ fun ρ ⟨c2, hc2, e⟩ => ?_
    · cases h1 : areF v with
      | false =>
        refine xs_set (ev_op (ev_heard (R := fun _ => False) (Z := fun C db => C = C_BadFractions ∧ db = v) hT hN (fun G2 H2 E2 hE => ?_) (fun d hd => hd.elim) (fun Cl db hz => ?_)))
        · refine ev_call hE (fun _ => .cons .non .nil) (ea_cons (ev_var rfl (ea_nil ?_)))
          exact ⟨v, .non, rfl, tv, ⟨⟨_, rfl⟩, fun _ e => nomatch e⟩, .inl ⟨h1, rfl, rfl⟩⟩
        · obtain ⟨rfl, rfl⟩ := hz
          refine ⟨em, ?_⟩
          repeat walk_at "ar"
          refine ix_tupl ⟨0, rfl, rfl⟩ ?_
          exact ⟨_, .inl ⟨rfl, rfl⟩, rfl⟩
      | true =>
        obtain ⟨ps, rfl, p1, p2⟩ := one_case hv h1
        refine xs_set (ev_op (ev_heard (R := fun _ => True) (Z := fun _ _ => False) hT hN (fun G2 H2 E2 hE => ?_) (fun d hd => ?_) (fun Cl db hz => hz.elim)))
        · refine ev_call hE (fun _ => .cons .non .nil) (ea_cons (ev_var rfl (ea_nil ?_)))
          exact ⟨_, .non, rfl, tv, ⟨⟨_, rfl⟩, fun _ e => nomatch e⟩, .inr (.inr ⟨ps, rfl, .inl ⟨rfl, p1⟩, p2, trivial⟩)⟩
        · repeat walk_at "ar"
          refine ix_tupl ⟨0, rfl, rfl⟩ ?_
          exact ⟨_, .inr ⟨rfl, rfl⟩, rfl⟩
    subst e
    rcases hc2 with ⟨h1, rfl⟩ | ⟨h1, rfl⟩
    · rw [h1]
      repeat walk_at "ar"
      refine rd_isN (b := false) (fun G v h => isN_exc h) ?_
      repeat walk_at "ar"
      refine ne_bl rfl ?_
      refine ⟨false, rfl, fun h => (nomatch h), fun _ => ?_⟩
      repeat walk_at "ar"
      refine rd_notN (b := false) (fun G v h => isN_exc h) ?_
      refine ⟨true, rfl, fun _ => ?_, fun h => (nomatch h)⟩
      repeat walk_at "ar"
      refine rc_isX rfl x_BadFractions (.own _) kk_BadFractions ?_
      refine ⟨true, rfl, fun h => (nomatch h), fun _ => ?_⟩
      refine xs_next ?_
      exact ⟨k2, _, _, _, _, _, _, by omega, rfl⟩
    · rw [h1]
      repeat walk_at "ar"
      refine rd_isN (b := true) (fun G v h => isN_non h) ?_
      repeat walk_at "ar"
      refine ne_bl rfl ?_
      refine ⟨false, rfl, fun h => (nomatch h), fun _ => ?_⟩
      repeat walk_at "ar"
      refine rd_notN (b := true) (fun G v h => isN_non h) ?_
      refine ⟨false, rfl, fun h => (nomatch h), fun _ => ⟨fun h => (nomatch h), fun _ => ?_⟩⟩
      refine xs_next ?_
      exact ⟨k2, _, _, _, _, _, _, by omega, rfl⟩
  · obtain ⟨kk, u2, u3, u4, u5, u6, u7, hk, rfl⟩ := hI
    rw [ints_len] at hk
    refine xs_ret ?_
    repeat walk_at "ar"
    exact ⟨_, rfl, hf _ (by omega)⟩
end
end K03
open LamX
namespace K03
variable [TabT]
abbrev s_law : Stmt := topS 25
abbrev n_law : List Str := ["_law_script", "_law_place", "_law_pot_here", "_law_lap"]
abbrev p_law : List Str := ["_law_script"]
theorem sc_law : FnScope n_law p_law (defScope s_law) := ⟨rfl, rfl, rfl, by decide +kernel, rfl, by decide +kernel, by decide +kernel⟩

section
variable {P : Program} {w : World} {K : PySem.W.Frag} {mg : Str → Option Value} {base : Heap}
def fs_law : FS := fun ds R _ => ∃ ns, ds = [.scr ns] ∧ R (.bl true)
theorem ok_law {f : Addr} {fd : FuncData} (B : Bt mg) (c_l_cells : Cal P w K mg base CX0 1 "_law_cells" p_l_cells [] (spD K fs_cells)) (c_l_pot : Cal P w K mg base CX0 1 "_law_pot" p_l_pot [] (spN K fn_pot)) (c_l_right : Cal P w K mg base CX0 8 "_law_right" p_l_right [] (spPT K fp_right)) (F : Fun K "law" "law" s_law f fd) : FnG P w K mg base CX0 9 f fd p_law (spDT K fs_law) := by
  refine okG F sc_law (spDT_len fun ds R Z ⟨ns, e, _⟩ => by rw [e]; rfl) (fun cdv A outer s H vs Q E gd hr ⟨hT, G, ds, R, Z, hN, le, kd, hf, hq, hz⟩ => ?_)
  obtain ⟨ns, rfl, hf⟩ := hf
  refine ⟨_, PSs.nox ((pss_cons (ps_for PassesOwn.never rfl (pi_list (pe_cal c_l_cells gd (hr.mono (by first | decide | omega)) pass0 (pa_cons (pv 0) (pa_cons pe_int pa_nil)))) (pg_name (i := 1) sc_law.nd rfl (by first | exact Or.inl rfl | exact Or.inr rfl))
      (pss_cons (ps_set (i := 2) sc_law.nd rfl (by first | exact Or.inl rfl | exact Or.inr rfl) (pe_cal c_l_pot gd (hr.mono (by first | decide | omega)) pass0 (pa_cons (pv 0) (pa_cons (pv 1) pa_nil))))
      (pss_one (ps_if (pt_not (pt_val (pe_callB (cr_all rfl) rfl B.b_all bt_all (pa_cons (pe_lc (own := [("_law_lap", 3)]) (g := (gName 3)) (tt := tYes) rfl sc_law.nd (pi_range1 rfl B.b_range (pa_cons pe_int pa_nil)) (blkOk_by (N := n_law) (sc := defScope s_law) (by decide +kernel)) (fun _ _ _ _ _ => (pg_name (i := 3) sc_law.nd rfl (by first | exact Or.inl rfl | exact Or.inr rfl))) (fun _ _ _ _ _ => pts_nil) (fun _ _ _ _ _ => (pe_cal c_l_right gd (hr.mono (by first | decide | omega)) pass0 (pa_cons (pv 2) pa_nil)))) pa_nil))))
      (pss_one (ps_ret pe_bl))
      pss_nil))))
      (pss_one (ps_ret pe_bl)))), fin_D le kd hq ?_⟩
  refine xs_seq ?_
  refine xs_for (is := [1]) (fun _ i ρ => ∃ u1 u2 : DL.Slot, ρ = [.dat (.scr ns), u1, u2, .un]) (ei_list (ev_call (Z := fun _ _ => False) Flies.none (fun _ => .nil) ?_))
  repeat walk_at "ev"
  refine ⟨ns, 5, rfl, by decide, by decide, fun n hn => ?_⟩
  refine ⟨_, rfl, ⟨.un, .un, rfl⟩, fun i d ρ hd hI => ?_, fun ρ hI => ?_⟩
  · obtain ⟨u1, u2, rfl⟩ := hI
    obtain ⟨rfl, hi⟩ := ints_get hd
    refine eg_name ?_
    refine xs_seq (xs_pot (eq_call ?_))
    repeat walk_at "ev"
    refine ⟨⟨ns, _, rfl, by omega, by omega⟩, fun p => ?_⟩
    refine xs_if (et_not (et_B (ev_cb (ea_cons (EvN.ev (en_lc (is := [3]) (fun ds j acc ρ => ds.length = 3 ∧ acc = List.replicate j (.bl true) ∧ ∃ kk, kk ≤ 10000 * j ∧ ρ = [.dat (.scr ns), .dat (.int (0 + (i : Int))), .pot p kk, .un]) (by decide) (ei_range1 ?_)))))))
    repeat walk_at "ev"
    refine ⟨by decide, by decide, ?_⟩
    refine ⟨by decide, ⟨rfl, rfl, 0, by decide, rfl⟩, fun j d acc ρ hd hI => ?_, fun acc ρ hl2 hI => ?_⟩
    · obtain ⟨hds, rfl, kk, hk, e⟩ := hI
      obtain ⟨rfl, hj⟩ := ints_get hd
      have hj3 : j < 3 := hj
      rw [e]
      refine eg_name (et_yes ⟨fun _ => ?_, fun h => nomatch h⟩)
      refine ev_callPT (Z := fun _ _ => False) hT hN Flies.none (fun _ => .nil) (by exact ⟨_, _, rfl⟩) ?_
      repeat walk_at "ar"
      refine ⟨_, _, rfl, rfl, by omega, fun k' hk' => ?_⟩
      exact ⟨hds, by rw [List.replicate_succ'], k', by omega, rfl⟩
    · obtain ⟨hds, rfl, kk, hk, e⟩ := hI
      rw [e]
      refine ea_nil (rc_k (r := rAll) rfl ?_)
      refine (rc_all (bs := [true, true, true]) ?_ : RC1 _ _ _ _)
      refine ⟨true, rfl, fun h => (nomatch h), fun _ => ?_⟩
      refine xs_next ?_
      exact ⟨_, _, rfl⟩
  · obtain ⟨u1, u2, rfl⟩ := hI
    refine xs_ret ?_
    repeat walk_at "ar"
    exact hf
end
end K03
namespace K03
open PySem PySem.Spec PyProof.Rows L2 DL LamX
variable [TabT]
set_option maxRecDepth 100000 in
theorem all_mk {l : PySem.W.OpenLaw} {w : World} {K : PySem.W.Frag} {h : Heap} {mg : Str → Option Value} {fa PM : Addr} (X : K.In h) (G : h.Ns mainGlobals mg) (hfa : mg "law" = some (.ref fa)) (hmT : (PM, ("_law_right.<locals>.<lambda>" : Str)) ∈ TabT.T) (hu_T : ∀ p ∈ TabT.T, p.1 = PM → p.2 = ("_law_right.<locals>.<lambda>" : Str))
    {T_ONE : Addr} {td_ONE : Option Addr} {tn_ONE : Nat} {tsl_ONE : Array (Option Value)} {tt1_ONE tt2_ONE : Tok}
    {f_l_heard : Addr} {od_l_heard an_l_heard : Option Addr} {sl_l_heard : Array (Option Value)} {oc_l_heard kV_l_heard dc_l_heard pm_l_heard cd_l_heard ct_l_heard : Value}
    {f_l_pot : Addr} {od_l_pot an_l_pot : Option Addr} {sl_l_pot : Array (Option Value)} {oc_l_pot kV_l_pot dc_l_pot pm_l_pot cd_l_pot ct_l_pot : Value}
    {f_l_take : Addr} {od_l_take an_l_take : Option Addr} {sl_l_take : Array (Option Value)} {oc_l_take kV_l_take dc_l_take pm_l_take cd_l_take ct_l_take : Value}
    {f_l_of : Addr} {od_l_of an_l_of : Option Addr} {sl_l_of : Array (Option Value)} {oc_l_of kV_l_of dc_l_of pm_l_of cd_l_of ct_l_of : Value}
    {f_l_odd : Addr} {od_l_odd an_l_odd : Option Addr} {sl_l_odd : Array (Option Value)} {oc_l_odd kV_l_odd dc_l_odd pm_l_odd cd_l_odd ct_l_odd : Value}
    {f_l_bent : Addr} {od_l_bent an_l_bent : Option Addr} {sl_l_bent : Array (Option Value)} {oc_l_bent kV_l_bent dc_l_bent pm_l_bent cd_l_bent ct_l_bent : Value}
    {f_l_gcd : Addr} {od_l_gcd an_l_gcd : Option Addr} {sl_l_gcd : Array (Option Value)} {oc_l_gcd kV_l_gcd dc_l_gcd pm_l_gcd cd_l_gcd ct_l_gcd : Value}
    {f_l_fraction : Addr} {od_l_fraction an_l_fraction : Option Addr} {sl_l_fraction : Array (Option Value)} {oc_l_fraction kV_l_fraction dc_l_fraction pm_l_fraction cd_l_fraction ct_l_fraction : Value}
    {f_l_drawn_fraction : Addr} {od_l_drawn_fraction an_l_drawn_fraction : Option Addr} {sl_l_drawn_fraction : Array (Option Value)} {oc_l_drawn_fraction kV_l_drawn_fraction dc_l_drawn_fraction pm_l_drawn_fraction cd_l_drawn_fraction ct_l_drawn_fraction : Value}
    {f_l_is_fraction : Addr} {od_l_is_fraction an_l_is_fraction : Option Addr} {sl_l_is_fraction : Array (Option Value)} {oc_l_is_fraction kV_l_is_fraction dc_l_is_fraction pm_l_is_fraction cd_l_is_fraction ct_l_is_fraction : Value}
    {f_l_are_fractions : Addr} {od_l_are_fractions an_l_are_fractions : Option Addr} {sl_l_are_fractions : Array (Option Value)} {oc_l_are_fractions kV_l_are_fractions dc_l_are_fractions pm_l_are_fractions cd_l_are_fractions ct_l_are_fractions : Value}
    {f_l_cells : Addr} {od_l_cells an_l_cells : Option Addr} {sl_l_cells : Array (Option Value)} {oc_l_cells kV_l_cells dc_l_cells pm_l_cells cd_l_cells ct_l_cells : Value}
    {f_l_near : Addr} {od_l_near an_l_near : Option Addr} {sl_l_near : Array (Option Value)} {oc_l_near kV_l_near dc_l_near pm_l_near cd_l_near ct_l_near : Value}
    {f_is_fraction : Addr} {od_is_fraction an_is_fraction : Option Addr} {sl_is_fraction : Array (Option Value)} {oc_is_fraction kV_is_fraction dc_is_fraction pm_is_fraction cd_is_fraction ct_is_fraction : Value}
    {f_are_fractions : Addr} {od_are_fractions an_are_fractions : Option Addr} {sl_are_fractions : Array (Option Value)} {oc_are_fractions kV_are_fractions dc_are_fractions pm_are_fractions cd_are_fractions ct_are_fractions : Value}
    {f_cut : Addr} {od_cut an_cut : Option Addr} {sl_cut : Array (Option Value)} {oc_cut kV_cut dc_cut pm_cut cd_cut ct_cut : Value}
    {f_total : Addr} {od_total an_total : Option Addr} {sl_total : Array (Option Value)} {oc_total kV_total dc_total pm_total cd_total ct_total : Value}
    {D_total : Addr} {oD_total : Value} {dD_total : Option Addr} {nD_total : Nat} {sD_total : Array (Option Value)}
    {f_l_right : Addr} {od_l_right an_l_right : Option Addr} {sl_l_right : Array (Option Value)} {oc_l_right kV_l_right dc_l_right pm_l_right ct_l_right : Value} {cM_l_right : Addr}
    {f_law : Addr} {od_law an_law : Option Addr} {sl_law : Array (Option Value)} {oc_law kV_law dc_law pm_law cd_law ct_law : Value}
    {C_TieError : Addr}
    {C_BadFractions : Addr}
    {f_init : Addr} {od_init an_init : Option Addr} {sl_init : Array (Option Value)} {oc_init kV_init dc_init pm_init cd_init ct_init : Value}
    (z_len : PySem.W.nsIn K mainGlobals "len" = some none)
    (z_abs : PySem.W.nsIn K mainGlobals "abs" = some none)
    (z_max : PySem.W.nsIn K mainGlobals "max" = some none)
    (z_min : PySem.W.nsIn K mainGlobals "min" = some none)
    (z_all : PySem.W.nsIn K mainGlobals "all" = some none)
    (z_any : PySem.W.nsIn K mainGlobals "any" = some none)
    (z_isinstance : PySem.W.nsIn K mainGlobals "isinstance" = some none)
    (z_repr : PySem.W.nsIn K mainGlobals "repr" = some none)
    (z_int : PySem.W.nsIn K mainGlobals "int" = some none)
    (z_bool : PySem.W.nsIn K mainGlobals "bool" = some none)
    (z_str : PySem.W.nsIn K mainGlobals "str" = some none)
    (z_tuple : PySem.W.nsIn K mainGlobals "tuple" = some none)
    (z_list : PySem.W.nsIn K mainGlobals "list" = some none)
    (z_dict : PySem.W.nsIn K mainGlobals "dict" = some none)
    (z_range : PySem.W.nsIn K mainGlobals "range" = some none)
    (z_zip : PySem.W.nsIn K mainGlobals "zip" = some none)
    (z_enumerate : PySem.W.nsIn K mainGlobals "enumerate" = some none)
    (z_set : PySem.W.nsIn K mainGlobals "set" = some none)
    (z_sorted : PySem.W.nsIn K mainGlobals "sorted" = some none)
    (z_sum : PySem.W.nsIn K mainGlobals "sum" = some none)
    (g_gcd : PySem.W.nsIn K mainGlobals "gcd" = some (some (.builtin "math.gcd")))
    (g_ONE : PySem.W.nsIn K mainGlobals "ONE" = some (some (.ref T_ONE)))
    (t_ONE : K.lookup T_ONE = some ⟨.type "tuple", td_ONE, .seq #[.int 1 tt1_ONE, .int 1 tt2_ONE] tn_ONE, tsl_ONE⟩)
    (a_l_heard : PySem.W.nsIn K mainGlobals "_law_heard" = some (some (.ref f_l_heard)))
    (l_l_heard : K.lookup f_l_heard = some ⟨oc_l_heard, od_l_heard, .func (PySem.W.fnOf "_law_heard" "_law_heard" (defArgs s_l_heard) (defBody s_l_heard) (defScope s_l_heard) .none kV_l_heard dc_l_heard pm_l_heard an_l_heard cd_l_heard ct_l_heard), sl_l_heard⟩)
    (c_l_heard : PySem.W.codeIn K cd_l_heard "_law_heard" = true)
    (k_l_heard : PySem.W.keepIn K (.ref f_l_heard) = true)
    (a_l_pot : PySem.W.nsIn K mainGlobals "_law_pot" = some (some (.ref f_l_pot)))
    (l_l_pot : K.lookup f_l_pot = some ⟨oc_l_pot, od_l_pot, .func (PySem.W.fnOf "_law_pot" "_law_pot" (defArgs s_l_pot) (defBody s_l_pot) (defScope s_l_pot) .none kV_l_pot dc_l_pot pm_l_pot an_l_pot cd_l_pot ct_l_pot), sl_l_pot⟩)
    (c_l_pot : PySem.W.codeIn K cd_l_pot "_law_pot" = true)
    (k_l_pot : PySem.W.keepIn K (.ref f_l_pot) = true)
    (a_l_take : PySem.W.nsIn K mainGlobals "_law_take" = some (some (.ref f_l_take)))
    (l_l_take : K.lookup f_l_take = some ⟨oc_l_take, od_l_take, .func (PySem.W.fnOf "_law_take" "_law_take" (defArgs s_l_take) (defBody s_l_take) (defScope s_l_take) .none kV_l_take dc_l_take pm_l_take an_l_take cd_l_take ct_l_take), sl_l_take⟩)
    (c_l_take : PySem.W.codeIn K cd_l_take "_law_take" = true)
    (k_l_take : PySem.W.keepIn K (.ref f_l_take) = true)
    (a_l_of : PySem.W.nsIn K mainGlobals "_law_of" = some (some (.ref f_l_of)))
    (l_l_of : K.lookup f_l_of = some ⟨oc_l_of, od_l_of, .func (PySem.W.fnOf "_law_of" "_law_of" (defArgs s_l_of) (defBody s_l_of) (defScope s_l_of) .none kV_l_of dc_l_of pm_l_of an_l_of cd_l_of ct_l_of), sl_l_of⟩)
    (c_l_of : PySem.W.codeIn K cd_l_of "_law_of" = true)
    (k_l_of : PySem.W.keepIn K (.ref f_l_of) = true)
    (a_l_odd : PySem.W.nsIn K mainGlobals "_law_odd" = some (some (.ref f_l_odd)))
    (l_l_odd : K.lookup f_l_odd = some ⟨oc_l_odd, od_l_odd, .func (PySem.W.fnOf "_law_odd" "_law_odd" (defArgs s_l_odd) (defBody s_l_odd) (defScope s_l_odd) .none kV_l_odd dc_l_odd pm_l_odd an_l_odd cd_l_odd ct_l_odd), sl_l_odd⟩)
    (c_l_odd : PySem.W.codeIn K cd_l_odd "_law_odd" = true)
    (k_l_odd : PySem.W.keepIn K (.ref f_l_odd) = true)
    (a_l_bent : PySem.W.nsIn K mainGlobals "_law_bent" = some (some (.ref f_l_bent)))
    (l_l_bent : K.lookup f_l_bent = some ⟨oc_l_bent, od_l_bent, .func (PySem.W.fnOf "_law_bent" "_law_bent" (defArgs s_l_bent) (defBody s_l_bent) (defScope s_l_bent) .none kV_l_bent dc_l_bent pm_l_bent an_l_bent cd_l_bent ct_l_bent), sl_l_bent⟩)
    (c_l_bent : PySem.W.codeIn K cd_l_bent "_law_bent" = true)
    (k_l_bent : PySem.W.keepIn K (.ref f_l_bent) = true)
    (a_l_gcd : PySem.W.nsIn K mainGlobals "_law_gcd" = some (some (.ref f_l_gcd)))
    (l_l_gcd : K.lookup f_l_gcd = some ⟨oc_l_gcd, od_l_gcd, .func (PySem.W.fnOf "_law_gcd" "_law_gcd" (defArgs s_l_gcd) (defBody s_l_gcd) (defScope s_l_gcd) .none kV_l_gcd dc_l_gcd pm_l_gcd an_l_gcd cd_l_gcd ct_l_gcd), sl_l_gcd⟩)
    (c_l_gcd : PySem.W.codeIn K cd_l_gcd "_law_gcd" = true)
    (k_l_gcd : PySem.W.keepIn K (.ref f_l_gcd) = true)
    (a_l_fraction : PySem.W.nsIn K mainGlobals "_law_fraction" = some (some (.ref f_l_fraction)))
    (l_l_fraction : K.lookup f_l_fraction = some ⟨oc_l_fraction, od_l_fraction, .func (PySem.W.fnOf "_law_fraction" "_law_fraction" (defArgs s_l_fraction) (defBody s_l_fraction) (defScope s_l_fraction) .none kV_l_fraction dc_l_fraction pm_l_fraction an_l_fraction cd_l_fraction ct_l_fraction), sl_l_fraction⟩)
    (c_l_fraction : PySem.W.codeIn K cd_l_fraction "_law_fraction" = true)
    (k_l_fraction : PySem.W.keepIn K (.ref f_l_fraction) = true)
    (a_l_drawn_fraction : PySem.W.nsIn K mainGlobals "_law_drawn_fraction" = some (some (.ref f_l_drawn_fraction)))
    (l_l_drawn_fraction : K.lookup f_l_drawn_fraction = some ⟨oc_l_drawn_fraction, od_l_drawn_fraction, .func (PySem.W.fnOf "_law_drawn_fraction" "_law_drawn_fraction" (defArgs s_l_drawn_fraction) (defBody s_l_drawn_fraction) (defScope s_l_drawn_fraction) .none kV_l_drawn_fraction dc_l_drawn_fraction pm_l_drawn_fraction an_l_drawn_fraction cd_l_drawn_fraction ct_l_drawn_fraction), sl_l_drawn_fraction⟩)
    (c_l_drawn_fraction : PySem.W.codeIn K cd_l_drawn_fraction "_law_drawn_fraction" = true)
    (k_l_drawn_fraction : PySem.W.keepIn K (.ref f_l_drawn_fraction) = true)
    (a_l_is_fraction : PySem.W.nsIn K mainGlobals "_law_is_fraction" = some (some (.ref f_l_is_fraction)))
    (l_l_is_fraction : K.lookup f_l_is_fraction = some ⟨oc_l_is_fraction, od_l_is_fraction, .func (PySem.W.fnOf "_law_is_fraction" "_law_is_fraction" (defArgs s_l_is_fraction) (defBody s_l_is_fraction) (defScope s_l_is_fraction) .none kV_l_is_fraction dc_l_is_fraction pm_l_is_fraction an_l_is_fraction cd_l_is_fraction ct_l_is_fraction), sl_l_is_fraction⟩)
    (c_l_is_fraction : PySem.W.codeIn K cd_l_is_fraction "_law_is_fraction" = true)
    (k_l_is_fraction : PySem.W.keepIn K (.ref f_l_is_fraction) = true)
    (a_l_are_fractions : PySem.W.nsIn K mainGlobals "_law_are_fractions" = some (some (.ref f_l_are_fractions)))
    (l_l_are_fractions : K.lookup f_l_are_fractions = some ⟨oc_l_are_fractions, od_l_are_fractions, .func (PySem.W.fnOf "_law_are_fractions" "_law_are_fractions" (defArgs s_l_are_fractions) (defBody s_l_are_fractions) (defScope s_l_are_fractions) .none kV_l_are_fractions dc_l_are_fractions pm_l_are_fractions an_l_are_fractions cd_l_are_fractions ct_l_are_fractions), sl_l_are_fractions⟩)
    (c_l_are_fractions : PySem.W.codeIn K cd_l_are_fractions "_law_are_fractions" = true)
    (k_l_are_fractions : PySem.W.keepIn K (.ref f_l_are_fractions) = true)
    (a_l_cells : PySem.W.nsIn K mainGlobals "_law_cells" = some (some (.ref f_l_cells)))
    (l_l_cells : K.lookup f_l_cells = some ⟨oc_l_cells, od_l_cells, .func (PySem.W.fnOf "_law_cells" "_law_cells" (defArgs s_l_cells) (defBody s_l_cells) (defScope s_l_cells) .none kV_l_cells dc_l_cells pm_l_cells an_l_cells cd_l_cells ct_l_cells), sl_l_cells⟩)
    (c_l_cells : PySem.W.codeIn K cd_l_cells "_law_cells" = true)
    (k_l_cells : PySem.W.keepIn K (.ref f_l_cells) = true)
    (a_l_near : PySem.W.nsIn K mainGlobals "_law_near" = some (some (.ref f_l_near)))
    (l_l_near : K.lookup f_l_near = some ⟨oc_l_near, od_l_near, .func (PySem.W.fnOf "_law_near" "_law_near" (defArgs s_l_near) (defBody s_l_near) (defScope s_l_near) .none kV_l_near dc_l_near pm_l_near an_l_near cd_l_near ct_l_near), sl_l_near⟩)
    (c_l_near : PySem.W.codeIn K cd_l_near "_law_near" = true)
    (k_l_near : PySem.W.keepIn K (.ref f_l_near) = true)
    (a_is_fraction : PySem.W.nsIn K mainGlobals "is_fraction" = some (some (.ref f_is_fraction)))
    (l_is_fraction : K.lookup f_is_fraction = some ⟨oc_is_fraction, od_is_fraction, .func (PySem.W.fnOf "is_fraction" "is_fraction" (defArgs s_is_fraction) (defBody s_is_fraction) (defScope s_is_fraction) .none kV_is_fraction dc_is_fraction pm_is_fraction an_is_fraction cd_is_fraction ct_is_fraction), sl_is_fraction⟩)
    (c_is_fraction : PySem.W.codeIn K cd_is_fraction "is_fraction" = true)
    (k_is_fraction : PySem.W.keepIn K (.ref f_is_fraction) = true)
    (a_are_fractions : PySem.W.nsIn K mainGlobals "are_fractions" = some (some (.ref f_are_fractions)))
    (l_are_fractions : K.lookup f_are_fractions = some ⟨oc_are_fractions, od_are_fractions, .func (PySem.W.fnOf "are_fractions" "are_fractions" (defArgs s_are_fractions) (defBody s_are_fractions) (defScope s_are_fractions) .none kV_are_fractions dc_are_fractions pm_are_fractions an_are_fractions cd_are_fractions ct_are_fractions), sl_are_fractions⟩)
    (c_are_fractions : PySem.W.codeIn K cd_are_fractions "are_fractions" = true)
    (k_are_fractions : PySem.W.keepIn K (.ref f_are_fractions) = true)
    (a_cut : PySem.W.nsIn K mainGlobals "cut" = some (some (.ref f_cut)))
    (l_cut : K.lookup f_cut = some ⟨oc_cut, od_cut, .func (PySem.W.fnOf "cut" "cut" (defArgs s_cut) (defBody s_cut) (defScope s_cut) .none kV_cut dc_cut pm_cut an_cut cd_cut ct_cut), sl_cut⟩)
    (c_cut : PySem.W.codeIn K cd_cut "cut" = true)
    (k_cut : PySem.W.keepIn K (.ref f_cut) = true)
    (a_total : PySem.W.nsIn K mainGlobals "total" = some (some (.ref f_total)))
    (l_total : K.lookup f_total = some ⟨oc_total, od_total, .func (PySem.W.fnOf "total" "total" (defArgs s_total) (defBody s_total) (defScope s_total) (.ref D_total) kV_total dc_total pm_total an_total cd_total ct_total), sl_total⟩)
    (c_total : PySem.W.codeIn K cd_total "total" = true)
    (k_total : PySem.W.keepIn K (.ref f_total) = true)
    (d_total : K.lookup D_total = some ⟨oD_total, dD_total, .seq #[.none] nD_total, sD_total⟩)
    (a_l_right : PySem.W.nsIn K mainGlobals "_law_right" = some (some (.ref f_l_right)))
    (l_l_right : K.lookup f_l_right = some ⟨oc_l_right, od_l_right, .func (PySem.W.fnOf "_law_right" "_law_right" (defArgs s_l_right) (defBody s_l_right) (defScope s_l_right) .none kV_l_right dc_l_right pm_l_right an_l_right (.ref cM_l_right) ct_l_right), sl_l_right⟩)
    (c_l_right : PySem.W.codeIn K (.ref cM_l_right) "_law_right" = true)
    (k_l_right : PySem.W.keepIn K (.ref f_l_right) = true)
    (a_law : PySem.W.nsIn K mainGlobals "law" = some (some (.ref f_law)))
    (l_law : K.lookup f_law = some ⟨oc_law, od_law, .func (PySem.W.fnOf "law" "law" (defArgs s_law) (defBody s_law) (defScope s_law) .none kV_law dc_law pm_law an_law cd_law ct_law), sl_law⟩)
    (c_law : PySem.W.codeIn K cd_law "law" = true)
    (k_law : PySem.W.keepIn K (.ref f_law) = true)
    (g_TieError : PySem.W.nsIn K mainGlobals "TieError" = some (some (.ref C_TieError)))
    (sb_TieError : PySem.W.subIn K (.ref C_TieError) (.type "BaseException") = some true)
    (hd_TieError : PySem.W.hasDictIn K C_TieError = true)
    (ty_TieError : PySem.W.typeIn K (.ref C_TieError) = some (.type "type"))
    (g_BadFractions : PySem.W.nsIn K mainGlobals "BadFractions" = some (some (.ref C_BadFractions)))
    (sb_BadFractions : PySem.W.subIn K (.ref C_BadFractions) (.type "BaseException") = some true)
    (hd_BadFractions : PySem.W.hasDictIn K C_BadFractions = true)
    (ty_BadFractions : PySem.W.typeIn K (.ref C_BadFractions) = some (.type "type"))
    (oc_BadFractions : ∃ nm q N bs bm sn sub ab col dd k0 k1 k2 k3 k5, K.lookup C_BadFractions = some (excClassObj nm q C_BadFractions N bs bm true sn sub ab col dd k0 k1 k2 k3 k5 "ValueError.__new__") ∧ PySem.HandSPX.refsVE bm = true)
    (sa_BadFractions : PySem.W.findIn K (.ref C_BadFractions) "__setattr__" = some (some (.builtin "object.__setattr__")))
    (ga_BadFractions : PySem.W.findIn K (.ref C_BadFractions) "__getattribute__" = some (some (.builtin "BaseException.__getattribute__")))
    (gg_BadFractions : PySem.W.findIn K (.ref C_BadFractions) "__getattr__" = some none)
    (ha_BadFractions : PySem.W.findIn K (.ref C_BadFractions) "__class__" = some (some (.builtin "object.__class__")))
    (v_BadFractions : PySem.W.findIn K (.ref C_BadFractions) "value" = some none)
    (i_BadFractions : PySem.W.findIn K (.ref C_BadFractions) "__init__" = some (some (.ref f_init)))
    (hm_BadFractions : PySem.W.mroIn K C_BadFractions (.type "object") = some true)
    (kp_BadFractions : PySem.W.keepIn K (.ref C_BadFractions) = true)
    (te_BadFractions : PySem.W.subIn K (.ref C_BadFractions) (.ref C_TieError) = some true)
    (hn_cls : PySem.W.specialIn K (.builtin "object.__class__") "__get__" = some (some (.builtin "getset_descriptor.__get__")))
    (ht_cls : PySem.W.takesIn K (.builtin "object.__class__") = some true)
    (z_VE : PySem.W.nsIn K mainGlobals "ValueError" = some none)
    (vV : PySem.W.findCls K (.type "ValueError") (.type "type") "__init__" = some (.val (.builtin "ValueError.__init__")))
    (l_init : K.lookup f_init = some ⟨oc_init, od_init, .func (PySem.W.fnOf "__init__" "TieError.__init__" (defArgs s_init) (defBody s_init) (defScope s_init) .none kV_init dc_init pm_init an_init cd_init ct_init), sl_init⟩)
    (c_init : PySem.W.codeIn K cd_init "TieError.__init__" = true)
    (k_init : PySem.W.keepIn K (.ref f_init) = true)
    (ti_init : PySem.W.typeIn K (.ref f_init) = some (.type "function")) :
    ∃ fd : FuncData, (∀ (s : Shared) (v : Value), BindsTo s fd ⟨[v], []⟩ [("_law_script", v)]) ∧ ∀ base : Heap, K.In base → base.Ns mainGlobals mg → TabB base mg cM_l_right PM → FnG l.prog w K mg base CX0 9 fa fd ["_law_script"] (spDT K fs_law) := by
  have e := hfa.symm.trans (PySem.W.mg_of X G a_law)
  cases e
  refine ⟨PySem.W.fnOf "law" "law" (defArgs s_law) (defBody s_law) (defScope s_law) .none kV_law dc_law pm_law an_law cd_law ct_law, fun s v => .of_eq rfl, fun base _ _ TB => ?_⟩
  have B : Bt mg := ⟨PySem.W.mg_none_of X G z_len, PySem.W.mg_none_of X G z_abs, PySem.W.mg_none_of X G z_max, PySem.W.mg_none_of X G z_min, PySem.W.mg_none_of X G z_all, PySem.W.mg_none_of X G z_any, PySem.W.mg_none_of X G z_isinstance, PySem.W.mg_none_of X G z_repr, PySem.W.mg_none_of X G z_int, PySem.W.mg_none_of X G z_bool, PySem.W.mg_none_of X G z_str, PySem.W.mg_none_of X G z_tuple, PySem.W.mg_none_of X G z_list, PySem.W.mg_none_of X G z_dict, PySem.W.mg_none_of X G z_range, PySem.W.mg_none_of X G z_zip, PySem.W.mg_none_of X G z_enumerate, PySem.W.mg_none_of X G z_set, PySem.W.mg_none_of X G z_sorted, PySem.W.mg_none_of X G z_sum⟩
  have m_gcd : mg "gcd" = some (.builtin "math.gcd") := PySem.W.mg_of X G g_gcd
  have m_ONE := PySem.W.mg_of X G g_ONE
  have d_ONE : ∀ G, Is K G (.ref T_ONE) (frq 1) := fun G => .tup (vs := [.int 1, .int 1]) (.inr ⟨_, _, _, t_ONE, rfl, rfl, (show 2 ≤ sizeLine by decide), .cons ⟨_, rfl⟩ (.cons ⟨_, rfl⟩ .nil)⟩) (.cons (.int 1) (.cons (.int 1) .nil))
  have m_TieError := PySem.W.mg_of X G g_TieError
  have m_BadFractions := PySem.W.mg_of X G g_BadFractions
  have T_BadFractions : OexC K C_BadFractions := ⟨oc_BadFractions, sa_BadFractions, sb_BadFractions, ty_BadFractions, kp_BadFractions⟩
  have xf_BadFractions : XfC K C_BadFractions := ⟨ga_BadFractions, gg_BadFractions, sb_BadFractions, hd_BadFractions⟩
  have x_BadFractions : ExcC K C_BadFractions := ⟨ga_BadFractions, gg_BadFractions, sb_BadFractions, hd_BadFractions, ha_BadFractions, hn_cls, ht_cls, hm_BadFractions⟩
  have kk_BadFractions : PySem.W.kitOne K (.ref C_BadFractions) (.ref C_BadFractions) = some true := by simp [PySem.W.kitOne]
  have em_BadFractions : PySem.W.exmOne K (.ref C_BadFractions) (.ref C_TieError) = some true := PySem.W.exm_ref sb_TieError hd_TieError ty_TieError te_BadFractions
  have F0_init := fun_mk (st := s_init) l_init c_init k_init
  have F_init : FnG l.prog w K mg base CX0 1 f_init _ ["self", "value"] (spInit K) := ok_init (PySem.W.mg_none_of X G z_VE) vV F0_init
  have b_init := F0_init.binds (ps := ["self", "value"]) (fun _ _ _ _ _ _ us hl => match us, hl with | [_, _], _ => rfl)
  have F_l_heard := fun_mk (st := s_l_heard) l_l_heard c_l_heard k_l_heard
  have F_l_pot := fun_mk (st := s_l_pot) l_l_pot c_l_pot k_l_pot
  have G_l_pot : FnG l.prog w K mg base CX0 1 f_l_pot _ p_l_pot (spN K fn_pot) := ok_pot B F_l_pot
  have cl_pot_ : Cal l.prog w K mg base CX0 1 "_law_pot" p_l_pot [] (spN K fn_pot) := ⟨_, _, _, G_l_pot, PySem.W.mg_of X G a_l_pot, F_l_pot.kp, F_l_pot.binds (ps := p_l_pot) (fun _ _ _ _ _ _ us hl => match us, hl with | [_, _], _ => rfl), .nil⟩
  have F_l_take := fun_mk (st := s_l_take) l_l_take c_l_take k_l_take
  have G_l_take : FnG l.prog w K mg base CX0 1 f_l_take _ p_l_take (spP K fp_take) := ok_take B F_l_take
  have cl_take_ : Cal l.prog w K mg base CX0 1 "_law_take" p_l_take [] (spP K fp_take) := ⟨_, _, _, G_l_take, PySem.W.mg_of X G a_l_take, F_l_take.kp, F_l_take.binds (ps := p_l_take) (fun _ _ _ _ _ _ us hl => match us, hl with | [_, _], _ => rfl), .nil⟩
  have F_l_of := fun_mk (st := s_l_of) l_l_of c_l_of k_l_of
  have G_l_of : FnG l.prog w K mg base CX0 2 f_l_of _ p_l_of (spP K fp_of) := ok_of B cl_take_ F_l_of
  have cl_of_ : Cal l.prog w K mg base CX0 2 "_law_of" p_l_of [] (spP K fp_of) := ⟨_, _, _, G_l_of, PySem.W.mg_of X G a_l_of, F_l_of.kp, F_l_of.binds (ps := p_l_of) (fun _ _ _ _ _ _ us hl => match us, hl with | [_, _], _ => rfl), .nil⟩
  have F_l_odd := fun_mk (st := s_l_odd) l_l_odd c_l_odd k_l_odd
  have G_l_odd : FnG l.prog w K mg base CX0 3 f_l_odd _ p_l_odd (spP K fp_odd) := ok_odd B cl_of_ F_l_odd
  have cl_odd_ : Cal l.prog w K mg base CX0 3 "_law_odd" p_l_odd [] (spP K fp_odd) := ⟨_, _, _, G_l_odd, PySem.W.mg_of X G a_l_odd, F_l_odd.kp, F_l_odd.binds (ps := p_l_odd) (fun _ _ _ _ _ _ us hl => match us, hl with | [_], _ => rfl), .nil⟩
  have F_l_bent := fun_mk (st := s_l_bent) l_l_bent c_l_bent k_l_bent
  have cl_bent_ : Cal l.prog w K mg base CX0 6 "_law_bent" p_l_bent [] (spP K (fp_bent 26 5 2)) := all_bent (by decide) (by decide) (by decide) B cl_take_ cl_of_ cl_odd_ F_l_bent (PySem.W.mg_of X G a_l_bent) F_l_bent.kp (F_l_bent.binds (ps := p_l_bent) (fun _ _ _ _ _ _ us hl => match us, hl with | [_, _], _ => rfl)) 3 (by decide)
  have F_l_gcd := fun_mk (st := s_l_gcd) l_l_gcd c_l_gcd k_l_gcd
  have G_l_gcd : FnG l.prog w K mg base CX0 1 f_l_gcd _ p_l_gcd (spD K fs_gcd) := ok_gcd B F_l_gcd
  have cl_gcd_ : Cal l.prog w K mg base CX0 1 "_law_gcd" p_l_gcd [] (spD K fs_gcd) := ⟨_, _, _, G_l_gcd, PySem.W.mg_of X G a_l_gcd, F_l_gcd.kp, F_l_gcd.binds (ps := p_l_gcd) (fun _ _ _ _ _ _ us hl => match us, hl with | [_], _ => rfl), .nil⟩
  have G_l_gcdT : FnG l.prog w K mg base CX0 1 f_l_gcd _ p_l_gcd (spD K fs_gcdT) := ok_gcdT B F_l_gcd
  have cl_gcdT_ : Cal l.prog w K mg base CX0 1 "_law_gcd" p_l_gcd [] (spD K fs_gcdT) := ⟨_, _, _, G_l_gcdT, PySem.W.mg_of X G a_l_gcd, F_l_gcd.kp, F_l_gcd.binds (ps := p_l_gcd) (fun _ _ _ _ _ _ us hl => match us, hl with | [_], _ => rfl), .nil⟩
  have F_l_fraction := fun_mk (st := s_l_fraction) l_l_fraction c_l_fraction k_l_fraction
  have G_l_fraction : FnG l.prog w K mg base CX0 2 f_l_fraction _ p_l_fraction (spD K fs_lfraction) := ok_lfraction B cl_gcd_ F_l_fraction
  have cl_fraction_ : Cal l.prog w K mg base CX0 2 "_law_fraction" p_l_fraction [] (spD K fs_lfraction) := ⟨_, _, _, G_l_fraction, PySem.W.mg_of X G a_l_fraction, F_l_fraction.kp, F_l_fraction.binds (ps := p_l_fraction) (fun _ _ _ _ _ _ us hl => match us, hl with | [_, _], _ => rfl), .nil⟩
  have F_l_drawn_fraction := fun_mk (st := s_l_drawn_fraction) l_l_drawn_fraction c_l_drawn_fraction k_l_drawn_fraction
  have G_l_drawn_fraction : FnG l.prog w K mg base CX0 3 f_l_drawn_fraction _ p_l_drawn_fraction (spP K fp_drawn) := ok_drawn B cl_take_ cl_of_ cl_fraction_ F_l_drawn_fraction
  have cl_drawn_fraction_ : Cal l.prog w K mg base CX0 3 "_law_drawn_fraction" p_l_drawn_fraction [] (spP K fp_drawn) := ⟨_, _, _, G_l_drawn_fraction, PySem.W.mg_of X G a_l_drawn_fraction, F_l_drawn_fraction.kp, F_l_drawn_fraction.binds (ps := p_l_drawn_fraction) (fun _ _ _ _ _ _ us hl => match us, hl with | [_], _ => rfl), .nil⟩
  have F_l_is_fraction := fun_mk (st := s_l_is_fraction) l_l_is_fraction c_l_is_fraction k_l_is_fraction
  have G_l_is_fraction : FnG l.prog w K mg base CX0 2 f_l_is_fraction _ p_l_is_fraction (spD K fs_lisfr) := ok_lisfr B cl_gcdT_ F_l_is_fraction
  have cl_is_fraction_ : Cal l.prog w K mg base CX0 2 "_law_is_fraction" p_l_is_fraction [] (spD K fs_lisfr) := ⟨_, _, _, G_l_is_fraction, PySem.W.mg_of X G a_l_is_fraction, F_l_is_fraction.kp, F_l_is_fraction.binds (ps := p_l_is_fraction) (fun _ _ _ _ _ _ us hl => match us, hl with | [_], _ => rfl), .nil⟩
  have F_l_are_fractions := fun_mk (st := s_l_are_fractions) l_l_are_fractions c_l_are_fractions k_l_are_fractions
  have G_l_are_fractions : FnG l.prog w K mg base CX0 3 f_l_are_fractions _ p_l_are_fractions (spD K fs_laref) := ok_laref B cl_is_fraction_ F_l_are_fractions
  have cl_are_fractions_ : Cal l.prog w K mg base CX0 3 "_law_are_fractions" p_l_are_fractions [] (spD K fs_laref) := ⟨_, _, _, G_l_are_fractions, PySem.W.mg_of X G a_l_are_fractions, F_l_are_fractions.kp, F_l_are_fractions.binds (ps := p_l_are_fractions) (fun _ _ _ _ _ _ us hl => match us, hl with | [_, _], _ => rfl), .nil⟩
  have F_l_cells := fun_mk (st := s_l_cells) l_l_cells c_l_cells k_l_cells
  have G_l_cells : FnG l.prog w K mg base CX0 1 f_l_cells _ p_l_cells (spD K fs_cells) := ok_cells B F_l_cells
  have cl_cells_ : Cal l.prog w K mg base CX0 1 "_law_cells" p_l_cells [] (spD K fs_cells) := ⟨_, _, _, G_l_cells, PySem.W.mg_of X G a_l_cells, F_l_cells.kp, F_l_cells.binds (ps := p_l_cells) (fun _ _ _ _ _ _ us hl => match us, hl with | [_, _], _ => rfl), .nil⟩
  have F_l_near := fun_mk (st := s_l_near) l_l_near c_l_near k_l_near
  have G_l_near : FnG l.prog w K mg base CX0 7 f_l_near _ p_l_near (spP K fp_near) := ok_near B cl_take_ cl_of_ cl_odd_ cl_bent_ F_l_near
  have cl_near_ : Cal l.prog w K mg base CX0 7 "_law_near" p_l_near [] (spP K fp_near) := ⟨_, _, _, G_l_near, PySem.W.mg_of X G a_l_near, F_l_near.kp, F_l_near.binds (ps := p_l_near) (fun _ _ _ _ _ _ us hl => match us, hl with | [_, _], _ => rfl), .nil⟩
  have F_is_fraction := fun_mk (st := s_is_fraction) l_is_fraction c_is_fraction k_is_fraction
  have G_is_fraction : FnG l.prog w K mg base CX0 2 f_is_fraction _ p_is_fraction (spD K fs_isfr) := ok_isfr B m_gcd F_is_fraction
  have cis_fraction_ : Cal l.prog w K mg base CX0 2 "is_fraction" p_is_fraction [] (spD K fs_isfr) := ⟨_, _, _, G_is_fraction, PySem.W.mg_of X G a_is_fraction, F_is_fraction.kp, F_is_fraction.binds (ps := p_is_fraction) (fun _ _ _ _ _ _ us hl => match us, hl with | [_], _ => rfl), .nil⟩
  have F_are_fractions := fun_mk (st := s_are_fractions) l_are_fractions c_are_fractions k_are_fractions
  have G_are_fractions : FnG l.prog w K mg base CX0 3 f_are_fractions _ p_are_fractions (spD K fs_aref) := ok_aref B cis_fraction_ F_are_fractions
  have care_fractions_ : Cal l.prog w K mg base CX0 3 "are_fractions" p_are_fractions [] (spD K fs_aref) := ⟨_, _, _, G_are_fractions, PySem.W.mg_of X G a_are_fractions, F_are_fractions.kp, F_are_fractions.binds (ps := p_are_fractions) (fun _ _ _ _ _ _ us hl => match us, hl with | [_], _ => rfl), .nil⟩
  have F_cut := fun_mk (st := s_cut) l_cut c_cut k_cut
  have G_cut : FnG l.prog w K mg base CX0 1 f_cut _ p_cut (spD K fs_cut) := ok_cut B m_gcd F_cut
  have ccut_ : Cal l.prog w K mg base CX0 1 "cut" p_cut [] (spD K fs_cut) := ⟨_, _, _, G_cut, PySem.W.mg_of X G a_cut, F_cut.kp, F_cut.binds (ps := p_cut) (fun _ _ _ _ _ _ us hl => match us, hl with | [_, _], _ => rfl), .nil⟩
  have F_total : FunD K "total" "total" (defArgs s_total) (defBody s_total) (defScope s_total) [.non] [] f_total _ := ⟨⟨_, _, _, _, _, _, _, _, _, _, rfl, l_total, c_total, .inr ⟨by simp, D_total, _, [.none], _, rfl, d_total, rfl, .cons rfl .nil⟩, .inl rfl⟩, k_total⟩
  have G_total : FnG l.prog w K mg base (L2.CX l.prog w) 4 f_total _ p_total (spD K (fs_total C_BadFractions)) := ok_total (v_ONE := .ref T_ONE) B m_ONE rfl d_ONE m_BadFractions T_BadFractions v_BadFractions i_BadFractions ti_init F_init b_init care_fractions_ ccut_ F_total
  have ctotal_1 : Cal l.prog w K mg base (L2.CX l.prog w) 4 "total" p_total [.non] (spD K (fs_total C_BadFractions)) := by
      obtain ⟨ds, h1, h2⟩ := F_total.binds1 (ps := p_total) 1 0 (by simp) rfl (fun T kV doc pm an cdv ct us its hl hi => match us, hl, its, hi with | [_], _, [_], _ => ⟨_, rfl, rfl⟩)
      exact ⟨_, _, ds, G_total, PySem.W.mg_of X G a_total, F_total.kp, h2, h1⟩
  have ctotal_2 : Cal l.prog w K mg base (L2.CX l.prog w) 4 "total" p_total [] (spD K (fs_total C_BadFractions)) := by
      obtain ⟨ds, h1, h2⟩ := F_total.binds1 (ps := p_total) 2 1 (by simp) rfl (fun T kV doc pm an cdv ct us its hl hi => match us, hl, its, hi with | [_, _], _, [_], _ => ⟨_, rfl, rfl⟩)
      exact ⟨_, _, ds, G_total, PySem.W.mg_of X G a_total, F_total.kp, h2, h1⟩
  have m_l_heard := PySem.W.mg_of X G a_l_heard
  have G_l_right := ok_right (P := l.prog) (w := w) (base := base) B C_BadFractions m_BadFractions m_TieError m_l_heard k_l_heard l_l_heard c_l_heard (F_l_heard.binds (ps := ["_law_call"]) (fun _ _ _ _ _ _ us hl => match us, hl with | [_], _ => rfl)) x_BadFractions xf_BadFractions v_BadFractions kk_BadFractions em_BadFractions TB hmT hu_T cl_take_ cl_drawn_fraction_ cl_near_ cl_are_fractions_ ctotal_2 ctotal_1 l_l_right c_l_right
  have F_l_right := fun_mk (st := s_l_right) l_l_right c_l_right k_l_right
  have cl_right_ : Cal l.prog w K mg base CX0 8 "_law_right" p_l_right [] (spPT K fp_right) := ⟨_, _, _, G_l_right, PySem.W.mg_of X G a_l_right, F_l_right.kp, F_l_right.binds (ps := p_l_right) (fun _ _ _ _ _ _ us hl => match us, hl with | [_], _ => rfl), .nil⟩
  have F_law := fun_mk (st := s_law) l_law c_law k_law
  have G_law : FnG l.prog w K mg base CX0 9 fa _ p_law (spDT K fs_law) := ok_law B cl_cells_ cl_pot_ cl_right_ F_law
  exact G_law
end K03
open PySem PySem.W PyProof.Rows
set_option maxHeartbeats 0 in
theorem PySem.Challenge.cw_tiesums_k03_fractions_and_weights_refuse_holds : PySem.Challenge.rw_tiesums_k03_fractions_and_weights_refuse.Holds := by
  w_on; o_law; k_head; (case hw => w_witness2)
  k_fill
  letI : DL.TabT := ⟨[(191, "_law_right.<locals>.<lambda>")]⟩
  refine DL.walk_gT (l := PySem.Challenge.rw_tiesums_k03_fractions_and_weights_refuse) (n := 63) (k := 9) (x := "_law_script") (CX := fun _ => L2.CX0) rfl (by decide) rfl ⟨rfl, by decide, by decide⟩ (fun w h Y => PySem.W.km_in_of Y) ?F (fun _ _ _ _ _ h => h)
  case F =>
    intro w mg fa h Y KX G hmg
    obtain ⟨fd, hb, hF⟩ := K03.all_mk (l := PySem.Challenge.rw_tiesums_k03_fractions_and_weights_refuse) (w := w) (PM := 191) KX G hmg (List.mem_cons_self) (fun p hp _ => by rw [List.mem_singleton.mp hp]) (by first | k_is | exact ⟨_, _, _, _, _, _, _, _, _, _, _, _, _, _, _, by k_is, by rfl⟩) (by first | k_is | exact ⟨_, _, _, _, _, _, _, _, _, _, _, _, _, _, _, by k_is, by rfl⟩) (by first | k_is | exact ⟨_, _, _, _, _, _, _, _, _, _, _, _, _, _, _, by k_is, by rfl⟩) (by first | k_is | exact ⟨_, _, _, _, _, _, _, _, _, _, _, _, _, _, _, by k_is, by rfl⟩) (by first | k_is | exact ⟨_, _, _, _, _, _, _, _, _, _, _, _, _, _, _, by k_is, by rfl⟩) (by first | k_is | exact ⟨_, _, _, _, _, _, _, _, _, _, _, _, _, _, _, by k_is, by rfl⟩) (by first | k_is | exact ⟨_, _, _, _, _, _, _, _, _, _, _, _, _, _, _, by k_is, by rfl⟩) (by first | k_is | exact ⟨_, _, _, _, _, _, _, _, _, _, _, _, _, _, _, by k_is, by rfl⟩) (by first | k_is | exact ⟨_, _, _, _, _, _, _, _, _, _, _, _, _, _, _, by k_is, by rfl⟩) (by first | k_is | exact ⟨_, _, _, _, _, _, _, _, _, _, _, _, _, _, _, by k_is, by rfl⟩) (by first | k_is | exact ⟨_, _, _, _, _, _, _, _, _, _, _, _, _, _, _, by k_is, by rfl⟩) (by first | k_is | exact ⟨_, _, _, _, _, _, _, _, _, _, _, _, _, _, _, by k_is, by rfl⟩) (by first | k_is | exact ⟨_, _, _, _, _, _, _, _, _, _, _, _, _, _, _, by k_is, by rfl⟩) (by first | k_is | exact ⟨_, _, _, _, _, _, _, _, _, _, _, _, _, _, _, by k_is, by rfl⟩) (by first | k_is | exact ⟨_, _, _, _, _, _, _, _, _, _, _, _, _, _, _, by k_is, by rfl⟩) (by first | k_is | exact ⟨_, _, _, _, _, _, _, _, _, _, _, _, _, _, _, by k_is, by rfl⟩) (by first | k_is | exact ⟨_, _, _, _, _, _, _, _, _, _, _, _, _, _, _, by k_is, by rfl⟩) (by first | k_is | exact ⟨_, _, _, _, _, _, _, _, _, _, _, _, _, _, _, by k_is, by rfl⟩) (by first | k_is | exact ⟨_, _, _, _, _, _, _, _, _, _, _, _, _, _, _, by k_is, by rfl⟩) (by first | k_is | exact ⟨_, _, _, _, _, _, _, _, _, _, _, _, _, _, _, by k_is, by rfl⟩) (by first | k_is | exact ⟨_, _, _, _, _, _, _, _, _, _, _, _, _, _, _, by k_is, by rfl⟩) (by first | k_is | exact ⟨_, _, _, _, _, _, _, _, _, _, _, _, _, _, _, by k_is, by rfl⟩) (by first | k_is | exact ⟨_, _, _, _, _, _, _, _, _, _, _, _, _, _, _, by k_is, by rfl⟩) (by first | k_is | exact ⟨_, _, _, _, _, _, _, _, _, _, _, _, _, _, _, by k_is, by rfl⟩) (by first | k_is | exact ⟨_, _, _, _, _, _, _, _, _, _, _, _, _, _, _, by k_is, by rfl⟩) (by first | k_is | exact ⟨_, _, _, _, _, _, _, _, _, _, _, _, _, _, _, by k_is, by rfl⟩) (by first | k_is | exact ⟨_, _, _, _, _, _, _, _, _, _, _, _, _, _, _, by k_is, by rfl⟩) (by first | k_is | exact ⟨_, _, _, _, _, _, _, _, _, _, _, _, _, _, _, by k_is, by rfl⟩) (by first | k_is | exact ⟨_, _, _, _, _, _, _, _, _, _, _, _, _, _, _, by k_is, by rfl⟩) (by first | k_is | exact ⟨_, _, _, _, _, _, _, _, _, _, _, _, _, _, _, by k_is, by rfl⟩) (by first | k_is | exact ⟨_, _, _, _, _, _, _, _, _, _, _, _, _, _, _, by k_is, by rfl⟩) (by first | k_is | exact ⟨_, _, _, _, _, _, _, _, _, _, _, _, _, _, _, by k_is, by rfl⟩) (by first | k_is | exact ⟨_, _, _, _, _, _, _, _, _, _, _, _, _, _, _, by k_is, by rfl⟩) (by first | k_is | exact ⟨_, _, _, _, _, _, _, _, _, _, _, _, _, _, _, by k_is, by rfl⟩) (by first | k_is | exact ⟨_, _, _, _, _, _, _, _, _, _, _, _, _, _, _, by k_is, by rfl⟩) (by first | k_is | exact ⟨_, _, _, _, _, _, _, _, _, _, _, _, _, _, _, by k_is, by rfl⟩) (by first | k_is | exact ⟨_, _, _, _, _, _, _, _, _, _, _, _, _, _, _, by k_is, by rfl⟩) (by first | k_is | exact ⟨_, _, _, _, _, _, _, _, _, _, _, _, _, _, _, by k_is, by rfl⟩) (by first | k_is | exact ⟨_, _, _, _, _, _, _, _, _, _, _, _, _, _, _, by k_is, by rfl⟩) (by first | k_is | exact ⟨_, _, _, _, _, _, _, _, _, _, _, _, _, _, _, by k_is, by rfl⟩) (by first | k_is | exact ⟨_, _, _, _, _, _, _, _, _, _, _, _, _, _, _, by k_is, by rfl⟩) (by first | k_is | exact ⟨_, _, _, _, _, _, _, _, _, _, _, _, _, _, _, by k_is, by rfl⟩) (by first | k_is | exact ⟨_, _, _, _, _, _, _, _, _, _, _, _, _, _, _, by k_is, by rfl⟩) (by first | k_is | exact ⟨_, _, _, _, _, _, _, _, _, _, _, _, _, _, _, by k_is, by rfl⟩) (by first | k_is | exact ⟨_, _, _, _, _, _, _, _, _, _, _, _, _, _, _, by k_is, by rfl⟩) (by first | k_is | exact ⟨_, _, _, _, _, _, _, _, _, _, _, _, _, _, _, by k_is, by rfl⟩) (by first | k_is | exact ⟨_, _, _, _, _, _, _, _, _, _, _, _, _, _, _, by k_is, by rfl⟩) (by first | k_is | exact ⟨_, _, _, _, _, _, _, _, _, _, _, _, _, _, _, by k_is, by rfl⟩) (by first | k_is | exact ⟨_, _, _, _, _, _, _, _, _, _, _, _, _, _, _, by k_is, by rfl⟩) (by first | k_is | exact ⟨_, _, _, _, _, _, _, _, _, _, _, _, _, _, _, by k_is, by rfl⟩) (by first | k_is | exact ⟨_, _, _, _, _, _, _, _, _, _, _, _, _, _, _, by k_is, by rfl⟩) (by first | k_is | exact ⟨_, _, _, _, _, _, _, _, _, _, _, _, _, _, _, by k_is, by rfl⟩) (by first | k_is | exact ⟨_, _, _, _, _, _, _, _, _, _, _, _, _, _, _, by k_is, by rfl⟩) (by first | k_is | exact ⟨_, _, _, _, _, _, _, _, _, _, _, _, _, _, _, by k_is, by rfl⟩) (by first | k_is | exact ⟨_, _, _, _, _, _, _, _, _, _, _, _, _, _, _, by k_is, by rfl⟩) (by first | k_is | exact ⟨_, _, _, _, _, _, _, _, _, _, _, _, _, _, _, by k_is, by rfl⟩) (by first | k_is | exact ⟨_, _, _, _, _, _, _, _, _, _, _, _, _, _, _, by k_is, by rfl⟩) (by first | k_is | exact ⟨_, _, _, _, _, _, _, _, _, _, _, _, _, _, _, by k_is, by rfl⟩) (by first | k_is | exact ⟨_, _, _, _, _, _, _, _, _, _, _, _, _, _, _, by k_is, by rfl⟩) (by first | k_is | exact ⟨_, _, _, _, _, _, _, _, _, _, _, _, _, _, _, by k_is, by rfl⟩) (by first | k_is | exact ⟨_, _, _, _, _, _, _, _, _, _, _, _, _, _, _, by k_is, by rfl⟩) (by first | k_is | exact ⟨_, _, _, _, _, _, _, _, _, _, _, _, _, _, _, by k_is, by rfl⟩) (by first | k_is | exact ⟨_, _, _, _, _, _, _, _, _, _, _, _, _, _, _, by k_is, by rfl⟩) (by first | k_is | exact ⟨_, _, _, _, _, _, _, _, _, _, _, _, _, _, _, by k_is, by rfl⟩) (by first | k_is | exact ⟨_, _, _, _, _, _, _, _, _, _, _, _, _, _, _, by k_is, by rfl⟩) (by first | k_is | exact ⟨_, _, _, _, _, _, _, _, _, _, _, _, _, _, _, by k_is, by rfl⟩) (by first | k_is | exact ⟨_, _, _, _, _, _, _, _, _, _, _, _, _, _, _, by k_is, by rfl⟩) (by first | k_is | exact ⟨_, _, _, _, _, _, _, _, _, _, _, _, _, _, _, by k_is, by rfl⟩) (by first | k_is | exact ⟨_, _, _, _, _, _, _, _, _, _, _, _, _, _, _, by k_is, by rfl⟩) (by first | k_is | exact ⟨_, _, _, _, _, _, _, _, _, _, _, _, _, _, _, by k_is, by rfl⟩) (by first | k_is | exact ⟨_, _, _, _, _, _, _, _, _, _, _, _, _, _, _, by k_is, by rfl⟩) (by first | k_is | exact ⟨_, _, _, _, _, _, _, _, _, _, _, _, _, _, _, by k_is, by rfl⟩) (by first | k_is | exact ⟨_, _, _, _, _, _, _, _, _, _, _, _, _, _, _, by k_is, by rfl⟩) (by first | k_is | exact ⟨_, _, _, _, _, _, _, _, _, _, _, _, _, _, _, by k_is, by rfl⟩) (by first | k_is | exact ⟨_, _, _, _, _, _, _, _, _, _, _, _, _, _, _, by k_is, by rfl⟩) (by first | k_is | exact ⟨_, _, _, _, _, _, _, _, _, _, _, _, _, _, _, by k_is, by rfl⟩) (by first | k_is | exact ⟨_, _, _, _, _, _, _, _, _, _, _, _, _, _, _, by k_is, by rfl⟩) (by first | k_is | exact ⟨_, _, _, _, _, _, _, _, _, _, _, _, _, _, _, by k_is, by rfl⟩) (by first | k_is | exact ⟨_, _, _, _, _, _, _, _, _, _, _, _, _, _, _, by k_is, by rfl⟩) (by first | k_is | exact ⟨_, _, _, _, _, _, _, _, _, _, _, _, _, _, _, by k_is, by rfl⟩) (by first | k_is | exact ⟨_, _, _, _, _, _, _, _, _, _, _, _, _, _, _, by k_is, by rfl⟩) (by first | k_is | exact ⟨_, _, _, _, _, _, _, _, _, _, _, _, _, _, _, by k_is, by rfl⟩) (by first | k_is | exact ⟨_, _, _, _, _, _, _, _, _, _, _, _, _, _, _, by k_is, by rfl⟩) (by first | k_is | exact ⟨_, _, _, _, _, _, _, _, _, _, _, _, _, _, _, by k_is, by rfl⟩) (by first | k_is | exact ⟨_, _, _, _, _, _, _, _, _, _, _, _, _, _, _, by k_is, by rfl⟩) (by first | k_is | exact ⟨_, _, _, _, _, _, _, _, _, _, _, _, _, _, _, by k_is, by rfl⟩) (by first | k_is | exact ⟨_, _, _, _, _, _, _, _, _, _, _, _, _, _, _, by k_is, by rfl⟩) (by first | k_is | exact ⟨_, _, _, _, _, _, _, _, _, _, _, _, _, _, _, by k_is, by rfl⟩) (by first | k_is | exact ⟨_, _, _, _, _, _, _, _, _, _, _, _, _, _, _, by k_is, by rfl⟩) (by first | k_is | exact ⟨_, _, _, _, _, _, _, _, _, _, _, _, _, _, _, by k_is, by rfl⟩) (by first | k_is | exact ⟨_, _, _, _, _, _, _, _, _, _, _, _, _, _, _, by k_is, by rfl⟩) (by first | k_is | exact ⟨_, _, _, _, _, _, _, _, _, _, _, _, _, _, _, by k_is, by rfl⟩) (by first | k_is | exact ⟨_, _, _, _, _, _, _, _, _, _, _, _, _, _, _, by k_is, by rfl⟩) (by first | k_is | exact ⟨_, _, _, _, _, _, _, _, _, _, _, _, _, _, _, by k_is, by rfl⟩) (by first | k_is | exact ⟨_, _, _, _, _, _, _, _, _, _, _, _, _, _, _, by k_is, by rfl⟩) (by first | k_is | exact ⟨_, _, _, _, _, _, _, _, _, _, _, _, _, _, _, by k_is, by rfl⟩) (by first | k_is | exact ⟨_, _, _, _, _, _, _, _, _, _, _, _, _, _, _, by k_is, by rfl⟩) (by first | k_is | exact ⟨_, _, _, _, _, _, _, _, _, _, _, _, _, _, _, by k_is, by rfl⟩) (by first | k_is | exact ⟨_, _, _, _, _, _, _, _, _, _, _, _, _, _, _, by k_is, by rfl⟩) (by first | k_is | exact ⟨_, _, _, _, _, _, _, _, _, _, _, _, _, _, _, by k_is, by rfl⟩) (by first | k_is | exact ⟨_, _, _, _, _, _, _, _, _, _, _, _, _, _, _, by k_is, by rfl⟩) (by first | k_is | exact ⟨_, _, _, _, _, _, _, _, _, _, _, _, _, _, _, by k_is, by rfl⟩) (by first | k_is | exact ⟨_, _, _, _, _, _, _, _, _, _, _, _, _, _, _, by k_is, by rfl⟩) (by first | k_is | exact ⟨_, _, _, _, _, _, _, _, _, _, _, _, _, _, _, by k_is, by rfl⟩) (by first | k_is | exact ⟨_, _, _, _, _, _, _, _, _, _, _, _, _, _, _, by k_is, by rfl⟩) (by first | k_is | exact ⟨_, _, _, _, _, _, _, _, _, _, _, _, _, _, _, by k_is, by rfl⟩) (by first | k_is | exact ⟨_, _, _, _, _, _, _, _, _, _, _, _, _, _, _, by k_is, by rfl⟩) (by first | k_is | exact ⟨_, _, _, _, _, _, _, _, _, _, _, _, _, _, _, by k_is, by rfl⟩) (by first | k_is | exact ⟨_, _, _, _, _, _, _, _, _, _, _, _, _, _, _, by k_is, by rfl⟩) (by first | k_is | exact ⟨_, _, _, _, _, _, _, _, _, _, _, _, _, _, _, by k_is, by rfl⟩) (by first | k_is | exact ⟨_, _, _, _, _, _, _, _, _, _, _, _, _, _, _, by k_is, by rfl⟩) (by first | k_is | exact ⟨_, _, _, _, _, _, _, _, _, _, _, _, _, _, _, by k_is, by rfl⟩) (by first | k_is | exact ⟨_, _, _, _, _, _, _, _, _, _, _, _, _, _, _, by k_is, by rfl⟩) (by first | k_is | exact ⟨_, _, _, _, _, _, _, _, _, _, _, _, _, _, _, by k_is, by rfl⟩) (by first | k_is | exact ⟨_, _, _, _, _, _, _, _, _, _, _, _, _, _, _, by k_is, by rfl⟩) (by first | k_is | exact ⟨_, _, _, _, _, _, _, _, _, _, _, _, _, _, _, by k_is, by rfl⟩) (by first | k_is | exact ⟨_, _, _, _, _, _, _, _, _, _, _, _, _, _, _, by k_is, by rfl⟩) (by first | k_is | exact ⟨_, _, _, _, _, _, _, _, _, _, _, _, _, _, _, by k_is, by rfl⟩) (by first | k_is | exact ⟨_, _, _, _, _, _, _, _, _, _, _, _, _, _, _, by k_is, by rfl⟩) (by first | k_is | exact ⟨_, _, _, _, _, _, _, _, _, _, _, _, _, _, _, by k_is, by rfl⟩) (by first | k_is | exact ⟨_, _, _, _, _, _, _, _, _, _, _, _, _, _, _, by k_is, by rfl⟩) (by first | k_is | exact ⟨_, _, _, _, _, _, _, _, _, _, _, _, _, _, _, by k_is, by rfl⟩) (by first | k_is | exact ⟨_, _, _, _, _, _, _, _, _, _, _, _, _, _, _, by k_is, by rfl⟩) (by first | k_is | exact ⟨_, _, _, _, _, _, _, _, _, _, _, _, _, _, _, by k_is, by rfl⟩) (by first | k_is | exact ⟨_, _, _, _, _, _, _, _, _, _, _, _, _, _, _, by k_is, by rfl⟩) (by first | k_is | exact ⟨_, _, _, _, _, _, _, _, _, _, _, _, _, _, _, by k_is, by rfl⟩)
    refine ⟨fd, [(_, 191)], DL.spDT _ K03.fs_law, fun p hp => ?_, fun p hp => ?_, fun p hp => ?_, hb, fun H a ns hl hT hS => ?_, fun base k1 k2 TB => hF base k1 k2 (TB _ List.mem_cons_self)⟩
    · rw [List.mem_singleton.mp hp]
      exact PySem.W.km_tabs_of Y 191 List.mem_cons_self
    · rw [List.mem_singleton.mp hp]
      rfl
    · rw [List.mem_singleton.mp hp]
      exact PySem.W.codeHd_of_K KX (by rfl)
    · refine DL.spDT_start (fun p hp => ?_) hS ⟨ns, rfl, rfl⟩
      rw [List.mem_singleton.mp hp]
      exact LamX.TabS.nil (hT _ List.mem_cons_self)
