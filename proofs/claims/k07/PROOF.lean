import PyProof.Rows.All
import Wide.All
import OpenK.AllK
import Wide.FinOn
import HandS.ForMost
import HandS.IsInst
import HandS.Gcd
import HandS.Wide
import HandS.Zip
import HandS.TupMul
import HandS.TupAny
import HandS.Star
import HandS.Deep
import PyProof.P3In
import PyProof.Rows.InDataRows
import HandS.TupLe
import HandS.SortInts
import HandS.Style
import KE.GoesMore
import PyProof.EnumMake
import HandS.Set
import PyProof.Rows.SetFrom
import HandS.Strs
import HandS.Conv
import PyProof.ReprRoads
import KE.KStateDown
import PySem.Challenge.RW_rowalone_k07_whole_boxes_as_their_points
set_option Elab.async false
set_option linter.all false
set_option maxRecDepth 100000
set_option maxHeartbeats 4000000
namespace DL
open PySem PySem.Spec PyProof.Rows L2

structure Wd where
  K : PySem.W.Frag
  kc : List Str → Addr

mutual
def Im (W : Wd) (N : Addr → Prop) (H : Hp) : PyData → V → Prop
  | .none, v => v = .non
  | .bool b, v => v = .bl b
  | .int i, v => v = .int i
  | .str x, v => v = .str x
  | .list ds, v => ∃ a xs, v = .ref a ∧ H a = some (.lst xs) ∧ ¬ N a ∧ ImA W N H ds xs
  | .tuple ds, v => ∃ a xs, v = .ref a ∧ SqT W.K H a xs ∧ ImA W N H ds xs
  | .dict kvs, v => ∃ a dx fs, v = .ref a ∧ H a = some (.ins (W.kc (fs.map (·.1))) dx fs) ∧ ¬ N a ∧ ImF W N H kvs fs
def ImA (W : Wd) (N : Addr → Prop) (H : Hp) : List PyData → List V → Prop
  | [], vs => vs = []
  | d :: ds, vs => ∃ v r, vs = v :: r ∧ Im W N H d v ∧ ImA W N H ds r
def ImF (W : Wd) (N : Addr → Prop) (H : Hp) : List (PyData × PyData) → List (Str × V) → Prop
  | [], fs => fs = []
  | (k, d) :: ks, fs => ∃ x v r, fs = (x, v) :: r ∧ k = .str x ∧ Im W N H d v ∧ ImF W N H ks r
end

/-- all objects but those of M stand; tuples stand -/
structure Keep (M : Addr → Prop) (H H' : Hp) : Prop where
  ob : ∀ a o, H a = some o → ¬ M a → H' a = some o
  tp : ∀ a xs, H a = some (.tup xs) → H' a = some (.tup xs)
  fz : ∀ a o u, H a = some (.frz o u) → H' a = some (.frz o u)
theorem Keep.refl {M : Addr → Prop} (H : Hp) : Keep M H H := ⟨fun _ _ h _ => h, fun _ _ h => h, fun _ _ _ h => h⟩
theorem Keep.trans {M : Addr → Prop} {H H1 H2 : Hp} (a : Keep M H H1) (b : Keep M H1 H2) : Keep M H H2 :=
  ⟨fun c o h n => b.ob c o (a.ob c o h n) n, fun c xs h => b.tp c xs (a.tp c xs h), fun c o u h => b.fz c o u (a.fz c o u h)⟩
theorem Keep.mono {M M' : Addr → Prop} {H H' : Hp} (k : Keep M H H') (h : ∀ a, M a → M' a) : Keep M' H H' := ⟨fun a o e n => k.ob a o e fun z => n (h a z), k.tp, k.fz⟩
theorem Keep.new {M : Addr → Prop} {H : Hp} {p : Addr} {o : HO} (h : H p = none) : Keep M H (upd H p o) :=
  ⟨fun a u e _ => by rw [upd_ne (ne_of_none e h)]; exact e, fun a u e => by rw [upd_ne (ne_of_none e h)]; exact e, fun a u w e => by rw [upd_ne (ne_of_none e h)]; exact e⟩
theorem Keep.set {M : Addr → Prop} {H : Hp} {p : Addr} {o : HO} {xs : List V} (h : H p = some (.lst xs)) (m : M p) : Keep M H (upd H p o) :=
  ⟨fun a u e n => by rw [upd_ne (show a ≠ p from fun z => n (by rw [z]; exact m))]; exact e, fun a u e => by rw [upd_ne (fun z => by rw [z, h] at e; cases e)]; exact e,
   fun a u w e => by rw [upd_ne (fun z => by rw [z, h] at e; cases e)]; exact e⟩
theorem Keep.rd {M : Addr → Prop} {H H' : Hp} (k : Keep M H H') {a : Addr} {u : HO} (h : Rd H a u) (n : ¬ M a) : Rd H' a u := by
  rcases h with h | ⟨o, h⟩
  · exact .inl (k.ob a _ h n)
  · exact .inr ⟨o, k.fz a _ _ h⟩
theorem Keep.sqt {M : Addr → Prop} {K : PySem.W.Frag} {H H' : Hp} (k : Keep M H H') {a : Addr} {xs : List V} (h : SqT K H a xs) : SqT K H' a xs := by
  rcases h with (h | ⟨o, h⟩) | h
  · exact .inl (.inl (k.tp a _ h))
  · exact .inl (.inr ⟨o, k.fz a _ _ h⟩)
  · exact .inr h
section
variable {W : Wd} {N N' : Addr → Prop} {H H' : Hp}
mutual
theorem Im.keep (k : Keep N H H') : ∀ (d : PyData) (v : V), Im W N H d v → Im W N H' d v
  | .none, _, h => h
  | .bool _, _, h => h
  | .int _, _, h => h
  | .str _, _, h => h
  | .list ds, v, h => by
    obtain ⟨a, xs, e, r, n, q⟩ := h
    exact ⟨a, xs, e, k.ob a _ r n, n, ImA.keep k ds xs q⟩
  | .tuple ds, v, h => by
    obtain ⟨a, xs, e, r, q⟩ := h
    exact ⟨a, xs, e, k.sqt r, ImA.keep k ds xs q⟩
  | .dict ks, v, h => by
    obtain ⟨a, dx, fs, e, r, n, q⟩ := h
    exact ⟨a, dx, fs, e, k.ob a _ r n, n, ImF.keep k ks fs q⟩
theorem ImA.keep (k : Keep N H H') : ∀ (ds : List PyData) (vs : List V), ImA W N H ds vs → ImA W N H' ds vs
  | [], _, h => h
  | d :: ds, _, h => by
    obtain ⟨v, r, e, q1, q2⟩ := h
    exact ⟨v, r, e, Im.keep k d v q1, ImA.keep k ds r q2⟩
theorem ImF.keep (k : Keep N H H') : ∀ (ds : List (PyData × PyData)) (vs : List (Str × V)), ImF W N H ds vs → ImF W N H' ds vs
  | [], _, h => h
  | (_, d) :: ds, _, h => by
    obtain ⟨x, v, r, e, e2, q1, q2⟩ := h
    exact ⟨x, v, r, e, e2, Im.keep k d v q1, ImF.keep k ds r q2⟩
end
mutual
theorem Im.avoid (f : ∀ a o, H a = some o → N' a → N a) : ∀ (d : PyData) (v : V), Im W N H d v → Im W N' H d v
  | .none, _, h => h
  | .bool _, _, h => h
  | .int _, _, h => h
  | .str _, _, h => h
  | .list ds, v, h => by
    obtain ⟨a, xs, e, r, n, q⟩ := h
    exact ⟨a, xs, e, r, fun z => n (f a _ r z), ImA.avoid f ds xs q⟩
  | .tuple ds, v, h => by
    obtain ⟨a, xs, e, r, q⟩ := h
    exact ⟨a, xs, e, r, ImA.avoid f ds xs q⟩
  | .dict ks, v, h => by
    obtain ⟨a, dx, fs, e, r, n, q⟩ := h
    exact ⟨a, dx, fs, e, r, fun z => n (f a _ r z), ImF.avoid f ks fs q⟩
theorem ImA.avoid (f : ∀ a o, H a = some o → N' a → N a) : ∀ (ds : List PyData) (vs : List V), ImA W N H ds vs → ImA W N' H ds vs
  | [], _, h => h
  | d :: ds, _, h => by
    obtain ⟨v, r, e, q1, q2⟩ := h
    exact ⟨v, r, e, Im.avoid f d v q1, ImA.avoid f ds r q2⟩
theorem ImF.avoid (f : ∀ a o, H a = some o → N' a → N a) : ∀ (ds : List (PyData × PyData)) (vs : List (Str × V)), ImF W N H ds vs → ImF W N' H ds vs
  | [], _, h => h
  | (_, d) :: ds, _, h => by
    obtain ⟨x, v, r, e, e2, q1, q2⟩ := h
    exact ⟨x, v, r, e, e2, Im.avoid f d v q1, ImF.avoid f ds r q2⟩
end
mutual
def plainD : PyData → Bool
  | .list ds => plainA ds
  | .tuple ds => plainA ds
  | .dict _ => false
  | _ => true
def plainA : List PyData → Bool
  | [] => true
  | d :: ds => plainD d && plainA ds
end
mutual
theorem Im.dp : ∀ (d : PyData) (v : V), plainD d = true → Im W N H d v → Dp W.K H v d
  | .none, _, _, h => by cases h; exact .non
  | .bool _, _, _, h => by cases h; exact .bl _
  | .int _, _, _, h => by cases h; exact .int _
  | .str _, _, _, h => by cases h; exact .str _
  | .list ds, v, p, h => by
    obtain ⟨a, xs, rfl, r, n, q⟩ := h
    exact .lst (.inl (.inl r)) (ImA.dp ds xs p q)
  | .tuple ds, v, p, h => by
    obtain ⟨a, xs, rfl, r, q⟩ := h
    exact .tup r (ImA.dp ds xs p q)
  | .dict ks, v, p, h => by cases p
theorem ImA.dp : ∀ (ds : List PyData) (vs : List V), plainA ds = true → ImA W N H ds vs → DpAll W.K H vs ds
  | [], _, _, h => by cases h; exact .nil
  | d :: ds, _, p, h => by
    obtain ⟨v, r, rfl, q1, q2⟩ := h
    have p' : (plainD d && plainA ds) = true := p
    rw [Bool.and_eq_true] at p'
    exact .cons (Im.dp d v p'.1 q1) (ImA.dp ds r p'.2 q2)
end
theorem ImA.length : ∀ {ds : List PyData} {vs : List V}, ImA W N H ds vs → vs.length = ds.length
  | [], _, h => by cases h; rfl
  | d :: ds, _, h => by
    obtain ⟨v, r, rfl, q1, q2⟩ := h
    rw [List.length_cons, List.length_cons, ImA.length q2]
theorem ImA.get : ∀ {ds : List PyData} {vs : List V} {i : Nat} {d : PyData}, ImA W N H ds vs → ds[i]? = some d → ∃ v, vs[i]? = some v ∧ Im W N H d v
  | [], _, _, _, _, h => by simp at h
  | d :: ds, _, 0, e, h, he => by
    obtain ⟨v, r, rfl, q1, q2⟩ := h
    have : d = e := by simpa using he
    subst this
    exact ⟨v, rfl, q1⟩
  | d :: ds, _, i + 1, e, h, he => by
    obtain ⟨v, r, rfl, q1, q2⟩ := h
    obtain ⟨w, h1, h2⟩ := ImA.get (i := i) q2 (by simpa using he)
    exact ⟨w, by simpa using h1, h2⟩
theorem ImA.append : ∀ {ds es : List PyData} {vs ws : List V}, ImA W N H ds vs → ImA W N H es ws → ImA W N H (ds ++ es) (vs ++ ws)
  | [], _, _, _, h, h' => by cases h; exact h'
  | d :: ds, _, _, _, h, h' => by
    obtain ⟨v, r, rfl, q1, q2⟩ := h
    exact ⟨v, r ++ _, rfl, q1, ImA.append q2 h'⟩
theorem ImA.one {d : PyData} {v : V} (h : Im W N H d v) : ImA W N H [d] [v] := ⟨v, [], rfl, h, rfl⟩
theorem ImA.take : ∀ {ds : List PyData} {vs : List V} (n : Nat), ImA W N H ds vs → ImA W N H (ds.take n) (vs.take n)
  | [], _, n, h => by cases h; rw [List.take_nil, List.take_nil]; rfl
  | d :: ds, _, 0, h => rfl
  | d :: ds, _, n + 1, h => by
    obtain ⟨v, r, rfl, q1, q2⟩ := h
    exact ⟨v, r.take n, rfl, q1, ImA.take n q2⟩
theorem ImA.drop : ∀ {ds : List PyData} {vs : List V} (n : Nat), ImA W N H ds vs → ImA W N H (ds.drop n) (vs.drop n)
  | [], _, n, h => by cases h; rw [List.drop_nil, List.drop_nil]; rfl
  | d :: ds, _, 0, h => h
  | d :: ds, _, n + 1, h => by
    obtain ⟨v, r, rfl, q1, q2⟩ := h
    exact ImA.drop n q2
theorem ImA.set : ∀ {ds : List PyData} {vs : List V} {d : PyData} {v : V} (i : Nat), ImA W N H ds vs → Im W N H d v → ImA W N H (ds.set i d) (vs.set i v)
  | [], _, _, _, _, h, _ => by cases h; rfl
  | e :: ds, _, d, v, 0, h, q => by
    obtain ⟨u, r, rfl, q1, q2⟩ := h
    exact ⟨v, r, rfl, q, q2⟩
  | e :: ds, _, d, v, i + 1, h, q => by
    obtain ⟨u, r, rfl, q1, q2⟩ := h
    exact ⟨u, r.set i v, rfl, q1, ImA.set i q2 q⟩
theorem ImA.ints : ∀ {ns : List Int} {vs : List V}, ImA W N H (ns.map .int) vs → vs = ns.map V.int
  | [], _, h => h
  | n :: ns, _, h => by
    obtain ⟨v, r, rfl, q1, q2⟩ := h
    rw [ImA.ints q2, show v = .int n from q1]
    rfl
theorem ImA.of_ints : ∀ (ns : List Int), ImA W N H (ns.map .int) (ns.map V.int)
  | [] => rfl
  | n :: ns => ⟨.int n, _, rfl, rfl, ImA.of_ints ns⟩
theorem ImA.bools : ∀ {ns : List Bool} {vs : List V}, ImA W N H (ns.map .bool) vs → vs = ns.map V.bl
  | [], _, h => h
  | n :: ns, _, h => by
    obtain ⟨v, r, rfl, q1, q2⟩ := h
    rw [ImA.bools q2, show v = .bl n from q1]
    rfl
theorem ImA.strs : ∀ {ns : List Str} {vs : List V}, ImA W N H (ns.map .str) vs → vs = ns.map V.str
  | [], _, h => h
  | n :: ns, _, h => by
    obtain ⟨v, r, rfl, q1, q2⟩ := h
    rw [ImA.strs q2, show v = .str n from q1]
    rfl
theorem ImA.of_strs : ∀ (ns : List Str), ImA W N H (ns.map .str) (ns.map V.str)
  | [] => rfl
  | n :: ns => ⟨.str n, _, rfl, rfl, ImA.of_strs ns⟩
end

structure Res where
  M : Addr → Prop
  I : Hp → Prop
  b : Addr
  st : ∀ H H', I H → (∀ a o, M a → H a = some o → H' a = some o) → I H'
  al : ∀ H a, I H → M a → ∃ o, H a = some o
def Res.none : Res := ⟨fun _ => False, fun _ => True, 0, fun _ _ _ _ => True.intro, fun _ _ _ h => h.elim⟩

/-- what a slot is known to hold -/
inductive Ent where
  | d (x : PyData) | o (xs : List PyData) | m | u | s (ns : List Int)
abbrev Ev := List Ent
def nth : Ev → Nat → Ent
  | [], _ => .u
  | e :: _, 0 => e
  | _ :: r, i + 1 => nth r i
def put : Ev → Nat → Ent → Ev
  | [], _, _ => []
  | _ :: r, 0, e => e :: r
  | x :: r, i + 1, e => x :: put r i e
theorem nth_put_same : ∀ {ρ : Ev} {i : Nat} {e : Ent}, i < ρ.length → nth (put ρ i e) i = e
  | [], _, _, h => absurd h (Nat.not_lt_zero _)
  | _ :: _, 0, _, _ => rfl
  | _ :: r, i + 1, e, h => nth_put_same (ρ := r) (Nat.lt_of_succ_lt_succ h)
theorem nth_put_ne : ∀ {ρ : Ev} {i j : Nat} {e : Ent}, j ≠ i → nth (put ρ i e) j = nth ρ j
  | [], _, _, _, _ => rfl
  | _ :: _, 0, 0, _, h => absurd rfl h
  | _ :: _, 0, j + 1, _, _ => rfl
  | _ :: _, i + 1, 0, _, _ => rfl
  | _ :: r, i + 1, j + 1, e, h => nth_put_ne (ρ := r) fun z => h (by rw [z])
theorem put_len : ∀ {ρ : Ev} {i : Nat} {e : Ent}, (put ρ i e).length = ρ.length
  | [], _, _ => rfl
  | _ :: _, 0, _ => rfl
  | _ :: r, i + 1, e => by show (put r i e).length + 1 = r.length + 1; rw [put_len]
theorem nth_out : ∀ {ρ : Ev} {i : Nat}, ρ.length ≤ i → nth ρ i = .u
  | [], _, _ => rfl
  | _ :: _, 0, h => absurd h (Nat.not_succ_le_zero _)
  | _ :: r, i + 1, h => nth_out (ρ := r) (Nat.le_of_succ_le_succ h)

theorem put_out : ∀ {ρ : Ev} {i : Nat} {e : Ent}, ρ.length ≤ i → put ρ i e = ρ
  | [], _, _, _ => rfl
  | _ :: _, 0, _, h => absurd h (Nat.not_succ_le_zero _)
  | x :: r, i + 1, e, h => by show x :: put r i e = x :: r; rw [put_out (Nat.le_of_succ_le_succ h)]
/-- the script: locked, or an object of the module -/
def SqS (K : PySem.W.Frag) (H : Hp) (a : Addr) (xs : List V) : Prop := (∃ o, H a = some (.frz o (.lst xs))) ∨
  ∃ (o : Obj) (its : Array Value) (n : Nat), K.lookup a = some o ∧ o.cls = .type "list" ∧ o.dict = none ∧ o.data = .seq its n ∧ its.size ≤ sizeLine ∧ Vals xs its.toList
theorem SqS.sql {K : PySem.W.Frag} {H : Hp} {a : Addr} {xs : List V} (h : SqS K H a xs) : SqL K H a xs := by
  rcases h with ⟨o, h⟩ | h
  · exact .inl (.inr ⟨o, h⟩)
  · exact .inr h
theorem SqS.keep {M : Addr → Prop} {K : PySem.W.Frag} {H H' : Hp} {a : Addr} {xs : List V} (h : SqS K H a xs) (k : Keep M H H') : SqS K H' a xs := by
  rcases h with ⟨o, h⟩ | h
  · exact .inl ⟨o, k.fz a o _ h⟩
  · exact .inr h
structure Gx where
  W : Wd
  R : Res
  A : Addr → Prop
  H0 : Hp
def Nv (A : Addr → Prop) (O : Nat → Option Addr) (a : Addr) : Prop := A a ∨ ∃ i, O i = some a
def EntOk (G : Gx) (O : Nat → Option Addr) (σ : L2.St) (H : Hp) (i : Nat) : Ent → Prop
  | .u => True
  | .d x => ∃ v, σ[i]? = some (some v) ∧ Im G.W (Nv G.A O) H x v
  | .o xs => ∃ p vs, σ[i]? = some (some (.ref p)) ∧ O i = some p ∧ H p = some (.lst vs) ∧ ImA G.W (Nv G.A O) H xs vs
  | .m => σ[i]? = some (some (.ref G.R.b))
  | .s ns => ∃ a, σ[i]? = some (some (.ref a)) ∧ SqS G.W.K H a (ns.map V.int)
structure Sta (G : Gx) (an : List (PyData × V)) (O : Nat → Option Addr) (σ : L2.St) (H : Hp) (ρ : Ev) : Prop where
  inv : G.R.I H
  kp : Keep G.R.M G.H0 H
  al : ∀ a, G.A a → ∃ o, G.H0 a = some o
  ra : ∀ a, G.R.M a → G.A a
  fr : ∀ i p, O i = some p → G.H0 p = none ∧ ∃ xs, H p = some (.lst xs)
  oi : ∀ i j p, O i = some p → O j = some p → i = j
  ob : ∃ b, ∀ i, b ≤ i → O i = none
  oe : ∀ i p, O i = some p → ρ.length ≤ i ∨ ∃ ds, nth ρ i = .o ds
  len : σ.length = ρ.length
  en : ∀ i, EntOk G O σ H i (nth ρ i)
  as : ∀ p ∈ an, Im G.W (Nv G.A O) H p.1 p.2
section
variable {G : Gx} {an : List (PyData × V)} {O : Nat → Option Addr} {σ : L2.St} {H H' : Hp} {ρ : Ev}
theorem nv_r (al : ∀ a, G.A a → ∃ o, G.H0 a = some o) (S : Sta G an O σ H ρ) {a : Addr} (h : Nv G.A O a) (hn : ¬ G.R.M a) : (G.A a ∨ ∃ i, O i = some a) := h
/-- the expression-level step: all but the drawn state stands -/
theorem Sta.keep (S : Sta G an O σ H ρ) (k : Keep G.R.M H H') (hi : G.R.I H') : Sta G an O σ H' ρ := by
  have own : ∀ i p, O i = some p → ¬ G.R.M p := fun i p e m => by
    obtain ⟨o, q⟩ := S.al p (S.ra p m)
    rw [(S.fr i p e).1] at q
    cases q
  have kN : Keep (Nv G.A O) H H' := k.mono fun a m => .inl (S.ra a m)
  refine ⟨hi, S.kp.trans k, S.al, S.ra, fun i p e => ⟨(S.fr i p e).1, ?_⟩, S.oi, S.ob, S.oe, S.len, fun i => ?_, fun p hp => Im.keep kN _ _ (S.as p hp)⟩
  · obtain ⟨xs, q⟩ := (S.fr i p e).2
    exact ⟨xs, k.ob p _ q (own i p e)⟩
  · have h := S.en i
    cases hx : nth ρ i with
    | u => trivial
    | d x =>
      rw [hx] at h
      obtain ⟨v, e, q⟩ := h
      exact ⟨v, e, Im.keep kN _ _ q⟩
    | o xs =>
      rw [hx] at h
      obtain ⟨p, vs, e1, e2, e3, q⟩ := h
      exact ⟨p, vs, e1, e2, k.ob p _ e3 (own i p e2), ImA.keep kN _ _ q⟩
    | m => rw [hx] at h; exact h
    | s ns =>
      rw [hx] at h
      obtain ⟨a, e1, e2⟩ := h
      exact ⟨a, e1, e2.keep k⟩
end
end DL

namespace DL
open PySem PySem.Spec PyProof.Rows L2

abbrev WE := Ev → (PyData → Prop) → Prop
abbrev WT := Ev → (Bool → Prop) → Prop
abbrev WA := Ev → (List PyData → Prop) → Prop
structure WX where
  nx : Ev → Prop
  rt : PyData → Prop
  bk : Ev → Prop
  ct : Ev → Prop
abbrev WS := WX → Ev → Prop

def Nn (G : Gx) (O : Nat → Option Addr) (s : Bool) : Addr → Prop := if s = true then Nv G.A O else G.A
theorem nn_t {G : Gx} {O : Nat → Option Addr} : Nn G O true = Nv G.A O := rfl
theorem nn_f {G : Gx} {O : Nat → Option Addr} : Nn G O false = G.A := rfl
theorem nn_a {G : Gx} {O : Nat → Option Addr} {s : Bool} {a : Addr} (h : G.A a) : Nn G O s a := by
  cases s with
  | true => exact .inl h
  | false => exact h
theorem nn_v {G : Gx} {O : Nat → Option Addr} {s : Bool} {a : Addr} (h : Nn G O s a) : Nv G.A O a := by
  cases s with
  | true => exact h
  | false => exact .inl h

def up (G : Gx) (s : Bool) (we : WE) : TE := fun σ H Q => ∃ (an : List (PyData × V)) (O : Nat → Option Addr) (ρ : Ev) (Φ : PyData → Prop), Sta G an O σ H ρ ∧ we ρ Φ ∧
  ∀ v H' d, Φ d → Im G.W (Nn G O s) H' d v → Keep G.R.M H H' → G.R.I H' → Q v H'
def upT (G : Gx) (wt : WT) : TT := fun σ H Q => ∃ (an : List (PyData × V)) (O : Nat → Option Addr) (ρ : Ev) (Φ : Bool → Prop), Sta G an O σ H ρ ∧ wt ρ Φ ∧
  ∀ b H', Φ b → Keep G.R.M H H' → G.R.I H' → Q b H'
def upA (G : Gx) (s : Bool) (wa : WA) : TA := fun σ H Q => ∃ (an : List (PyData × V)) (O : Nat → Option Addr) (ρ : Ev) (Φ : List PyData → Prop), Sta G an O σ H ρ ∧ wa ρ Φ ∧
  ∀ vs H' ds, Φ ds → ImA G.W (Nn G O s) H' ds vs → Keep G.R.M H H' → G.R.I H' → Q vs H'
def upS (G : Gx) (ws : WS) : TS := fun D σ H => ∃ (an : List (PyData × V)) (O : Nat → Option Addr) (ρ : Ev) (Wx : WX), Sta G an O σ H ρ ∧ ws Wx ρ ∧
  (∀ O' σ' H' ρ', Sta G an O' σ' H' ρ' → Wx.nx ρ' → D.nx σ' H') ∧
  (∀ v H' d, Wx.rt d → Im G.W G.A H' d v → Keep G.R.M G.H0 H' → G.R.I H' → D.rt v H') ∧
  (∀ O' σ' H' ρ', Sta G an O' σ' H' ρ' → Wx.bk ρ' → D.bk σ' H') ∧
  (∀ O' σ' H' ρ', Sta G an O' σ' H' ρ' → Wx.ct ρ' → D.ct σ' H')

section
variable {X : Cx} {G : Gx} {e a b : Expr} {t t' : TE} {pos : Pos}
theorem pe_weak (h : PE X e t) (k : ∀ σ H Q, t' σ H Q → t σ H Q) : PE X e t' := ⟨fun pins s σ H Q I q => h.run pins s σ H Q I (k σ H Q q)⟩
theorem pt_weak {t t' : TT} (h : PT X e t) (k : ∀ σ H Q, t' σ H Q → t σ H Q) : PT X e t' := ⟨fun pins s σ H Q I q => h.run pins s σ H Q I (k σ H Q q)⟩
theorem pw_weak {t t' : TT} (h : PW X e t) (k : ∀ σ H Q, t' σ H Q → t σ H Q) : PW X e t' := ⟨fun wh pins s σ H Q I q => h.run wh pins s σ H Q I (k σ H Q q)⟩
theorem pa_weak {es : List Expr} {t t' : TA} (h : PA X es t) (k : ∀ σ H Q, t' σ H Q → t σ H Q) : PA X es t' := ⟨fun pos pins s σ H Q I q => h.run pos pins s σ H Q I (k σ H Q q)⟩
theorem ps_weak {st : Stmt} {t t' : TS} (h : PS X st t) (k : ∀ D σ H, t' D σ H → t D σ H) : PS X st t' := ⟨fun pins s σ H D I q => h.run pins s σ H D I (k D σ H q)⟩
theorem pss_weak {st : List Stmt} {t t' : TS} (h : PSs X st t) (k : ∀ D σ H, t' D σ H → t D σ H) : PSs X st t' := ⟨fun pins s σ H D I q => h.run pins s σ H D I (k D σ H q)⟩
end
section
variable {G : Gx} {an : List (PyData × V)} {O : Nat → Option Addr} {σ : L2.St} {H H' : Hp} {ρ : Ev} {s s1 s2 : Bool}
theorem Sta.there (S : Sta G an O σ H ρ) {a : Addr} (h : Nv G.A O a) : ∃ o, H a = some o := by
  rcases h with h | ⟨i, h⟩
  · obtain ⟨o, q⟩ := S.al a h
    by_cases m : G.R.M a
    · obtain ⟨xs, z⟩ := G.R.al H a S.inv m
      exact ⟨_, z⟩
    · exact ⟨o, S.kp.ob a o q m⟩
  · obtain ⟨_, xs, q⟩ := S.fr i a h
    exact ⟨_, q⟩
theorem Sta.fresh (S : Sta G an O σ H ρ) {p : Addr} (h : H p = none) : ¬ Nn G O s p := fun z => by
  obtain ⟨o, q⟩ := S.there (nn_v z)
  rw [h] at q
  cases q
theorem Sta.fresh0 (S : Sta G an O σ H ρ) {p : Addr} (h : H p = none) : G.H0 p = none := by
  cases q : G.H0 p with
  | none => rfl
  | some o =>
    by_cases m : G.R.M p
    · obtain ⟨xs, z⟩ := G.R.al H p S.inv m
      rw [h] at z
      cases z
    · rw [S.kp.ob p o q m] at h
      cases h
theorem Sta.ka (S : Sta G an O σ H ρ) (k : Keep G.R.M H H') : Keep (Nn G O s) H H' := k.mono fun a m => nn_a (S.ra a m)
theorem Sta.im (S : Sta G an O σ H ρ) (k : Keep G.R.M H H') {d : PyData} {v : V} (h : Im G.W (Nn G O s) H d v) : Im G.W (Nn G O s) H' d v := Im.keep (S.ka k) d v h
theorem Sta.ima (S : Sta G an O σ H ρ) (k : Keep G.R.M H H') {d : List PyData} {v : List V} (h : ImA G.W (Nn G O s) H d v) : ImA G.W (Nn G O s) H' d v := ImA.keep (S.ka k) d v h
theorem Sta.newI (S : Sta G an O σ H ρ) {p : Addr} {o : HO} (h : H p = none) : G.R.I (upd H p o) := G.R.st _ _ S.inv fun a u m e => by rw [upd_ne (ne_of_none e h)]; exact e
/-- a new list, a new tuple -/
theorem Sta.lst (S : Sta G an O σ H ρ) {p : Addr} {ds : List PyData} {vs : List V} (h : H p = none) (q : ImA G.W (Nn G O s) H ds vs) : Im G.W (Nn G O s) (upd H p (.lst vs)) (.list ds) (.ref p) :=
  ⟨p, vs, rfl, upd_same, S.fresh h, ImA.keep (Keep.new h) ds vs q⟩
theorem Sta.tup (S : Sta G an O σ H ρ) {p : Addr} {ds : List PyData} {vs : List V} (h : H p = none) (q : ImA G.W (Nn G O s) H ds vs) : Im G.W (Nn G O s) (upd H p (.tup vs)) (.tuple ds) (.ref p) :=
  ⟨p, vs, rfl, .inl (.inl upd_same), ImA.keep (Keep.new h) ds vs q⟩
theorem loose {d : PyData} {v : V} (h : Im G.W (Nn G O s) H d v) : Im G.W (Nn G O false) H d v := Im.avoid (fun a o e z => nn_a z) d v h
theorem looseA {d : List PyData} {v : List V} (h : ImA G.W (Nn G O s) H d v) : ImA G.W (Nn G O false) H d v := ImA.avoid (fun a o e z => nn_a z) d v h
end

def wVar (i : Nat) : WE := fun ρ Φ => match nth ρ i with | .d x => Φ x | _ => False
def wOwn (i : Nat) : WE := fun ρ Φ => match nth ρ i with | .d x => Φ x | .o xs => Φ (.list xs) | _ => False
def wC (d : PyData) : WE := fun _ Φ => Φ d
section
variable {X : Cx} {G : Gx} {pos : Pos} {s s1 s2 : Bool}
theorem de_var (i : Nat) {x : Str} (hN : X.N[i]? = some x := by rfl) (hv : Vis X.env.scope x := by first | exact Or.inl rfl | exact Or.inr (Or.inl rfl) | exact Or.inr (Or.inr rfl)) (hd : (x == ("__debug__" : Str)) = false := by decide)
    (hcd : (x == ("__classdict__" : Str)) = false := by decide) : PE X (.Name x pos) (up G true (wVar i)) := pe_weak (pe_var hN hv hd hcd) fun σ H Q ⟨an, O, ρ, Φ, S, h, q⟩ => by
  have en := S.en i
  unfold wVar at h
  cases hx : nth ρ i with
  | d x =>
    rw [hx] at en h
    obtain ⟨v, e, im⟩ := en
    exact ⟨v, e, q v H x h im (Keep.refl H) S.inv⟩
  | o xs => rw [hx] at h; exact h.elim
  | m => rw [hx] at h; exact h.elim
  | u => rw [hx] at h; exact h.elim
  | s ns => rw [hx] at h; exact h.elim
theorem de_own (i : Nat) {x : Str} (hN : X.N[i]? = some x := by rfl) (hv : Vis X.env.scope x := by first | exact Or.inl rfl | exact Or.inr (Or.inl rfl) | exact Or.inr (Or.inr rfl)) (hd : (x == ("__debug__" : Str)) = false := by decide)
    (hcd : (x == ("__classdict__" : Str)) = false := by decide) : PE X (.Name x pos) (up G false (wOwn i)) := pe_weak (pe_var hN hv hd hcd) fun σ H Q ⟨an, O, ρ, Φ, S, h, q⟩ => by
  have en := S.en i
  unfold wOwn at h
  cases hx : nth ρ i with
  | d x =>
    rw [hx] at en h
    obtain ⟨v, e, im⟩ := en
    exact ⟨v, e, q v H x h (loose (s := true) im) (Keep.refl H) S.inv⟩
  | o xs =>
    rw [hx] at en h
    obtain ⟨p, vs, e1, e2, e3, im⟩ := en
    refine ⟨.ref p, e1, q _ H _ h ⟨p, vs, rfl, e3, fun z => ?_, looseA (s := true) im⟩ (Keep.refl H) S.inv⟩
    obtain ⟨o, z2⟩ := S.al p z
    rw [(S.fr i p e2).1] at z2
    cases z2
  | m => rw [hx] at h; exact h.elim
  | u => rw [hx] at h; exact h.elim
  | s ns => rw [hx] at h; exact h.elim
theorem de_int {i : Int} {j : Nat} : PE X (.Constant (.int i) j pos) (up G s (wC (.int i))) := pe_weak pe_int fun σ H Q ⟨an, O, ρ, Φ, S, h, q⟩ => q _ H _ h rfl (Keep.refl H) S.inv
theorem de_bl {i : Bool} {j : Nat} : PE X (.Constant (.bool i) j pos) (up G s (wC (.bool i))) := pe_weak pe_bl fun σ H Q ⟨an, O, ρ, Φ, S, h, q⟩ => q _ H _ h rfl (Keep.refl H) S.inv
theorem de_non {j : Nat} : PE X (.Constant .none j pos) (up G s (wC .none)) := pe_weak pe_non fun σ H Q ⟨an, O, ρ, Φ, S, h, q⟩ => q _ H _ h rfl (Keep.refl H) S.inv
theorem de_str {i : Str} {j : Nat} : PE X (.Constant (.str i) j pos) (up G s (wC (.str i))) := pe_weak pe_str fun σ H Q ⟨an, O, ρ, Φ, S, h, q⟩ => q _ H _ h rfl (Keep.refl H) S.inv
/-- a module's name of a plain value -/
theorem de_glob {x : Str} {v : V} {d : PyData} {u : Value} (hg : Gl X x) (hm : X.mg x = some u) (r : RelV v u) (hd : ∀ N H, Im G.W N H d v) (hdb : (x == ("__debug__" : Str)) = false := by decide) : PE X (.Name x pos) (up G s (wC d)) :=
  pe_weak (pe_glob hg hm r hdb) fun σ H Q ⟨an, O, ρ, Φ, S, h, q⟩ => q _ H _ h (hd _ _) (Keep.refl H) S.inv
/-- a use where all may be read -/
theorem de_loose {e : Expr} {we : WE} (h : PE X e (up G s we)) : PE X e (up G false we) := pe_weak h fun σ H Q ⟨an, O, ρ, Φ, S, hw, q⟩ => ⟨an, O, ρ, Φ, S, hw, fun v H' d p im k i => q v H' d p (loose im) k i⟩

/-- a two-place operation by data -/
def OpD (G : Gx) (s s1 s2 : Bool) (r : R2) (f : PyData → PyData → (PyData → Prop) → Prop) : Prop :=
  ∀ (an : List (PyData × V)) (O : Nat → Option Addr) (σ : L2.St) (ρ : Ev) (H : Hp) (x y : V) (d e : PyData) (Φ : PyData → Prop) (Q : VK), Sta G an O σ H ρ → Im G.W (Nn G O s1) H d x → Im G.W (Nn G O s2) H e y → f d e Φ →
    (∀ v H' z, Φ z → Im G.W (Nn G O s) H' z v → Keep G.R.M H H' → G.R.I H' → Q v H') → r x y H Q
def wOp (f : PyData → PyData → (PyData → Prop) → Prop) (wa wb : WE) : WE := fun ρ Φ => wa ρ fun x => wb ρ fun y => f x y Φ
theorem up_op {r : R2} {f : PyData → PyData → (PyData → Prop) → Prop} {wa wb : WE} (hf : OpD G s s1 s2 r f) (σ : L2.St) (H : Hp) (Q : VK) (h : up G s (wOp f wa wb) σ H Q) : tOp r (up G s1 wa) (up G s2 wb) σ H Q := by
  obtain ⟨an, O, ρ, Φ, S, h, q⟩ := h
  refine ⟨an, O, ρ, _, S, h, fun v H1 d h1 im k1 i1 => ?_⟩
  refine ⟨an, O, ρ, _, S.keep k1 i1, h1, fun v2 H2 d2 h2 im2 k2 i2 => ?_⟩
  have S2 := (S.keep k1 i1).keep k2 i2
  exact hf an O σ ρ H2 v v2 d d2 Φ Q S2 ((S.keep k1 i1).im k2 im) im2 h2 fun w H3 z hz imz k3 i3 => q w H3 z hz imz ((k1.trans k2).trans k3) i3
theorem de_op {op : Operator} {a b : Expr} {r : R2} {f : PyData → PyData → (PyData → Prop) → Prop} {wa wb : WE} (ho : OpR X (binaryOp op) r) (hf : OpD G s s1 s2 r f) (ha : PE X a (up G s1 wa)) (hb : PE X b (up G s2 wb)) :
    PE X (.BinOp a op b pos) (up G s (wOp f wa wb)) := pe_weak (pe_op ho ha hb) (up_op hf)
theorem de_cmp {op : CmpOp} {a b : Expr} {r : R2} {f : PyData → PyData → (PyData → Prop) → Prop} {wa wb : WE} (ho : OpR X (compareOp op) r) (hf : OpD G s s1 s2 r f) (ha : PE X a (up G s1 wa)) (hb : PE X b (up G s2 wb)) (hm : behindInMarks op b = false) :
    PE X (.Compare a [op] [b] pos) (up G s (wOp f wa wb)) := pe_weak (pe_cmpR ho ha hb hm) (up_op hf)
/-- a truth value as a test -/
def wTest (we : WE) : WT := fun ρ Φ => we ρ fun d => match d with | .bool b => Φ b | _ => False
theorem up_test {we : WE} (σ : L2.St) (H : Hp) (Q : Bool → Hp → Prop) (h : upT G (wTest we) σ H Q) : tTest (up G s we) σ H Q := by
  obtain ⟨an, O, ρ, Φ, S, h, q⟩ := h
  refine ⟨an, O, ρ, _, S, h, fun v H1 d h1 im k1 i1 => ?_⟩
  cases d with
  | bool b => exact ⟨b, im, q b H1 h1 k1 i1⟩
  | _ => exact h1.elim
theorem dt_cmp {op : CmpOp} {a b : Expr} {r : R2} {f : PyData → PyData → (PyData → Prop) → Prop} {wa wb : WE} (ho : OpR X (compareOp op) r) (hf : OpD G true s1 s2 r f) (ha : PE X a (up G s1 wa)) (hb : PE X b (up G s2 wb)) (hm : behindInMarks op b = false) :
    PT X (.Compare a [op] [b] pos) (upT G (wTest (wOp f wa wb))) := by
  refine pt_weak (pt_cmpR ho ha hb hm) fun σ H Q h => ?_
  have := up_test (s := true) σ H Q h
  obtain ⟨an, O, ρ, Φ, S, h, q⟩ := this
  exact up_op hf σ H _ ⟨an, O, ρ, Φ, S, h, fun v H' d p im k i => q v H' d p im k i⟩
theorem dt_val {e : Expr} {we : WE} (h : PE X e (up G s we)) (he : ∀ whole, isTrue e X.env whole = (do let v ← whole; standAt e.pos; holding [v] (truthy v)) := by intro _; rfl) : PT X e (upT G (wTest we)) :=
  pt_weak (pt_val h he) fun σ H Q h => by
    have := up_test (s := s) σ H Q h
    obtain ⟨an, O, ρ, Φ, S, h, q⟩ := this
    exact ⟨an, O, ρ, Φ, S, h, q⟩

def fII (C : Int → Int → Prop) (g : Int → Int → PyData) : PyData → PyData → (PyData → Prop) → Prop := fun x y Φ => match x, y with | .int i, .int j => C i j ∧ Φ (g i j) | _, _ => False
def fII0 (g : Int → Int → PyData) : PyData → PyData → (PyData → Prop) → Prop := fun x y Φ => match x, y with | .int i, .int j => Φ (g i j) | _, _ => False
theorem od_int {C : Int → Int → Prop} {g : Int → Int → V} {g' : Int → Int → PyData} (hg : ∀ i j N H, Im G.W N H (g' i j) (g i j)) : OpD G s s1 s2 (rI C g) (fII C g') := by
  intro an O σ ρ H x y d e Φ Q S hx hy hf q
  unfold fII at hf
  split at hf
  · rename_i i j
    exact ⟨i, j, hx, hy, hf.1, q _ H _ hf.2 (hg _ _ _ _) (Keep.refl H) S.inv⟩
  · exact hf.elim
theorem od_int0 {g : Int → Int → V} {g' : Int → Int → PyData} (hg : ∀ i j N H, Im G.W N H (g' i j) (g i j)) : OpD G s s1 s2 (rI0 g) (fII0 g') := by
  intro an O σ ρ H x y d e Φ Q S hx hy hf q
  unfold fII0 at hf
  split at hf
  · rename_i i j
    exact ⟨i, j, hx, hy, q _ H _ hf (hg _ _ _ _) (Keep.refl H) S.inv⟩
  · exact hf.elim
theorem OpD.or {r r' : R2} {f f' : PyData → PyData → (PyData → Prop) → Prop} (h : OpD G s s1 s2 r f) (h' : OpD G s s1 s2 r' f') : OpD G s s1 s2 (fun x y H Q => r x y H Q ∨ r' x y H Q) (fun x y Φ => f x y Φ ∨ f' x y Φ) := by
  intro an O σ ρ H x y d e Φ Q S hx hy hf q
  rcases hf with hf | hf
  · exact .inl (h an O σ ρ H x y d e Φ Q S hx hy hf q)
  · exact .inr (h' an O σ ρ H x y d e Φ Q S hx hy hf q)
theorem OpD.imp {r : R2} {f f' : PyData → PyData → (PyData → Prop) → Prop} (h : OpD G s s1 s2 r f) (k : ∀ x y Φ, f' x y Φ → f x y Φ) : OpD G s s1 s2 r f' :=
  fun an O σ ρ H x y d e Φ Q S hx hy hf q => h an O σ ρ H x y d e Φ Q S hx hy (k _ _ _ hf) q
theorem opR_or {f : Value → Value → Sem Value} {r r' : R2} (h : OpR X f r) (h' : OpR X f r') : OpR X f (fun x y H Q => r x y H Q ∨ r' x y H Q) := by
  intro pins s σ H x y v u Q I rx ry hq
  rcases hq with hq | hq
  · exact h pins s σ H x y v u Q I rx ry hq
  · exact h' pins s σ H x y v u Q I rx ry hq
end
end DL

namespace DL
open PySem PySem.Spec PyProof.Rows L2

mutual
def dOk : Nat → PyData → Bool
  | _, .none => true
  | _, .bool _ => true
  | _, .int _ => true
  | _, .str x => PyData.strOk x
  | 0, .list _ => false
  | 0, .tuple _ => false
  | n + 1, .list ds => dOkA n ds
  | n + 1, .tuple ds => dOkA n ds
  | _, .dict _ => false
def dOkA : Nat → List PyData → Bool
  | _, [] => true
  | n, d :: ds => dOk n d && dOkA n ds
end
mutual
theorem dOk.all : ∀ (n : Nat) (d : PyData), dOk n d = true → plainD d = true ∧ d.canLay0 = true ∧ d.depth ≤ n
  | n, .none, _ => ⟨rfl, by simp only [PyData.canLay0], by simp only [PyData.depth]; omega⟩
  | n, .bool _, _ => ⟨rfl, by simp only [PyData.canLay0], by simp only [PyData.depth]; omega⟩
  | n, .int _, _ => ⟨rfl, by simp only [PyData.canLay0], by simp only [PyData.depth]; omega⟩
  | n, .str x, h => ⟨rfl, by simp only [PyData.canLay0]; cases n <;> simpa [dOk] using h, by simp only [PyData.depth]; omega⟩
  | 0, .list _, h => by simp [dOk] at h
  | 0, .tuple _, h => by simp [dOk] at h
  | n + 1, .list ds, h => by
    have q := dOkA.all n ds (by simpa [dOk] using h)
    exact ⟨q.1, by simp only [PyData.canLay0]; exact q.2.1, by simp only [PyData.depth]; omega⟩
  | n + 1, .tuple ds, h => by
    have q := dOkA.all n ds (by simpa [dOk] using h)
    exact ⟨q.1, by simp only [PyData.canLay0]; exact q.2.1, by simp only [PyData.depth]; omega⟩
  | n, .dict _, h => by cases n <;> simp [dOk] at h
theorem dOkA.all : ∀ (n : Nat) (d : List PyData), dOkA n d = true → plainA d = true ∧ PyData.canLayAll0 d = true ∧ PyData.depthAll d ≤ n
  | n, [], _ => ⟨rfl, by simp only [PyData.canLayAll0], by simp only [PyData.depthAll]; omega⟩
  | n, d :: ds, h => by
    have h' : dOk n d = true ∧ dOkA n ds = true := by simpa [dOkA, Bool.and_eq_true] using h
    have q1 := dOk.all n d h'.1
    have q2 := dOkA.all n ds h'.2
    exact ⟨by show (plainD d && plainA ds) = true; rw [q1.1, q2.1]; rfl, by simp only [PyData.canLayAll0]; rw [q1.2.1, q2.2.1]; rfl, by simp only [PyData.depthAll]; omega⟩
end
theorem dOk.plain {n : Nat} {d : PyData} (h : dOk n d = true) : plainD d = true := (dOk.all n d h).1
theorem dOk.shaped {n : Nat} {d : PyData} (h : dOk n d = true) (hn : n ≤ 64 := by decide) : SeqAt.shaped d = true := by
  have q := dOk.all n d h
  unfold SeqAt.shaped
  rw [q.2.1, Bool.true_and]
  exact decide_eq_true (Nat.le_trans q.2.2 hn)
theorem dOkA_iff {n : Nat} : ∀ {ds : List PyData}, dOkA n ds = true ↔ ∀ d ∈ ds, dOk n d = true
  | [] => by simp [dOkA]
  | d :: ds => by simp [dOkA, Bool.and_eq_true, dOkA_iff (ds := ds)]
/-- fit for ==, in -/
def Fit (d : PyData) : Prop := dOk 20 d = true

def fAdd : PyData → PyData → (PyData → Prop) → Prop := fun x y Φ => match x, y with
  | .int i, .int j => Φ (.int (i + j))
  | .str a, .str b => a.length + b.length ≤ 100000 ∧ Φ (.str (a ++ b))
  | .list a, .list b => a.length + b.length ≤ 100000 ∧ Φ (.list (a ++ b))
  | .tuple a, .tuple b => a.length + b.length ≤ 100000 ∧ Φ (.tuple (a ++ b))
  | _, _ => False
def fSub : PyData → PyData → (PyData → Prop) → Prop := fII0 fun i j => .int (i - j)
def fMul : PyData → PyData → (PyData → Prop) → Prop := fun x y Φ => match x, y with
  | .int i, .int j => CMulW i j ∧ Φ (.int (i * j))
  | .list a, .int k => -1000 ≤ k ∧ k ≤ 1000 ∧ a.length ≤ 100 ∧ Φ (.list (List.replicate k.toNat a).flatten)
  | _, _ => False
def fDiv : PyData → PyData → (PyData → Prop) → Prop := fII (fun _ j => (j ≠ 0 ∧ j.natAbs < 1073741824) ∨ (0 < j ∧ j.natAbs.log2 < 9000)) fun i j => .int (i.fdiv j)
def fMod : PyData → PyData → (PyData → Prop) → Prop := fII (fun _ j => j ≠ 0) fun i j => .int (i.fmod j)
def fPow : PyData → PyData → (PyData → Prop) → Prop := fII CPow fun i j => .int (i ^ j.toNat)
def fLt : PyData → PyData → (PyData → Prop) → Prop := fun x y Φ => match x, y with
  | .int i, .int j => Φ (.bool (decide (i < j)))
  | .str a, .str b => Φ (.bool (decide (a.cps.toList < b.cps.toList)))
  | _, _ => False
def fLe : PyData → PyData → (PyData → Prop) → Prop := fII0 fun i j => .bool (decide (i ≤ j))
def fGt : PyData → PyData → (PyData → Prop) → Prop := fII0 fun i j => .bool (decide (j < i))
def fGe : PyData → PyData → (PyData → Prop) → Prop := fII0 fun i j => .bool (decide (j ≤ i))
def fEq : PyData → PyData → (PyData → Prop) → Prop := fun x y Φ => match x, y with
  | .str a, .str b => Φ (.bool (decide (a = b)))
  | x, y => Fit x ∧ Fit y ∧ Φ (.bool (PyData.eqv x y))
def fNe : PyData → PyData → (PyData → Prop) → Prop := fun x y Φ => match x, y with
  | .str a, .str b => Φ (.bool (!decide (a = b)))
  | x, y => Fit x ∧ Fit y ∧ Φ (.bool (!PyData.eqv x y))
def isNone : PyData → Bool
  | .none => true
  | _ => false
def fIs : PyData → PyData → (PyData → Prop) → Prop := fun x y Φ => match x, y with
  | x, .none => Φ (.bool (isNone x))
  | .bool a, .bool b => Φ (.bool (decide (a = b)))
  | _, _ => False
def fIsNot : PyData → PyData → (PyData → Prop) → Prop := fun x y Φ => match x, y with
  | x, .none => Φ (.bool (!isNone x))
  | .bool a, .bool b => Φ (.bool (!decide (a = b)))
  | _, _ => False
def memD (x : PyData) (ds : List PyData) : Bool := ds.any fun z => PyData.eqv z x
def fIn : PyData → PyData → (PyData → Prop) → Prop := fun x y Φ => match y with
  | .list ds => Fit x ∧ Fit (.list ds) ∧ Φ (.bool (memD x ds))
  | .tuple ds => Fit x ∧ Fit (.tuple ds) ∧ Φ (.bool (memD x ds))
  | _ => False
def fNotIn : PyData → PyData → (PyData → Prop) → Prop := fun x y Φ => match y with
  | .list ds => Fit x ∧ Fit (.list ds) ∧ Φ (.bool (!memD x ds))
  | .tuple ds => Fit x ∧ Fit (.tuple ds) ∧ Φ (.bool (!memD x ds))
  | _ => False

theorem line5 {n : Nat} (h : n ≤ 100000) : n ≤ sizeLine := Nat.le_trans h (by decide)
section
variable {X : Cx} {G : Gx} {pos : Pos} {s s1 s2 : Bool}
theorem im_none_iff {W : Wd} {N : Addr → Prop} {H : Hp} : ∀ {d : PyData} {v : V}, Im W N H d v → decide (v = .non) = isNone d
  | .none, _, h => by cases h; rfl
  | .bool _, _, h => by cases h; rfl
  | .int _, _, h => by cases h; rfl
  | .str _, _, h => by cases h; rfl
  | .list _, _, h => by obtain ⟨a, xs, rfl, _⟩ := h; rfl
  | .tuple _, _, h => by obtain ⟨a, xs, rfl, _⟩ := h; rfl
  | .dict _, _, h => by obtain ⟨a, xs, fs, rfl, _⟩ := h; rfl
theorem im_bool {W : Wd} {N : Addr → Prop} {H : Hp} {b : Bool} {v : V} (h : Im W N H (.bool b) v) : v = .bl b := h
theorem im_strict {G : Gx} {O : Nat → Option Addr} {s s' : Bool} {H : Hp} {vs : List V} {ds : List PyData} (h : ImA G.W (Nn G O s) H ds vs) (e : s = s' ∨ s' = false) : ImA G.W (Nn G O s') H ds vs := by
  rcases e with e | e
  · rw [← e]; exact h
  · rw [e]; exact looseA h

def rAddU (K : PySem.W.Frag) : R2 := fun x y H Q => (rI0 (fun i j => .int (i + j))) x y H Q ∨ (∃ i j, x = .str i ∧ y = .str j ∧ i.length + j.length ≤ sizeLine ∧ Q (.str (i ++ j)) H) ∨ rCat x y H Q ∨ rCatA K x y H Q
theorem op_addU : OpR X (binaryOp .Add) (rAddU X.K) := opR_or op_add (opR_or op_add_str (opR_or op_cat op_catA))
theorem od_add : OpD G s s s (rAddU G.W.K) fAdd := by
  intro an O σ ρ H x y d e Φ Q S hx hy hf q
  unfold fAdd at hf
  split at hf
  · exact .inl ⟨_, _, hx, hy, q _ H _ hf rfl (Keep.refl H) S.inv⟩
  · exact .inr (.inl ⟨_, _, hx, hy, line5 hf.1, q _ H _ hf.2 rfl (Keep.refl H) S.inv⟩)
  · obtain ⟨a, xs, rfl, h1, _, q1⟩ := hx
    obtain ⟨b, ys, rfl, h2, _, q2⟩ := hy
    have l1 := ImA.length q1
    have l2 := ImA.length q2
    refine .inr (.inr (.inl ⟨a, b, xs, ys, rfl, rfl, h1, h2, line5 (by omega), fun p hp => ?_⟩))
    exact q _ _ _ hf.2 (S.lst hp (ImA.append q1 q2)) (Keep.new hp) (S.newI hp)
  · rename_i as bs
    have hx' := hx
    have hy' := hy
    obtain ⟨a, xs, rfl, h1, q1⟩ := hx
    obtain ⟨b, ys, rfl, h2, q2⟩ := hy
    have l1 := ImA.length q1
    have l2 := ImA.length q2
    refine .inr (.inr (.inr ⟨a, b, xs, ys, rfl, rfl, h1, h2, line5 (by omega), fun e => ?_, fun _ e => ?_, fun _ _ p hp => ?_⟩))
    · subst e
      have e2 : as = [] := List.eq_nil_of_length_eq_zero (by rw [← l1]; rfl)
      subst e2
      exact q _ H _ hf.2 hy' (Keep.refl H) S.inv
    · subst e
      have e2 : bs = [] := List.eq_nil_of_length_eq_zero (by rw [← l2]; rfl)
      subst e2
      rw [List.append_nil] at hf
      exact q _ H _ hf.2 hx' (Keep.refl H) S.inv
    · exact q _ _ _ hf.2 (S.tup hp (ImA.append q1 q2)) (Keep.new hp) (S.newI hp)
  · exact hf.elim
theorem od_sub : OpD G s s1 s2 (rI0 fun i j => .int (i - j)) fSub := od_int0 fun _ _ _ _ => rfl
def rMulU : R2 := fun x y H Q => (rI CMulW fun i j => .int (i * j)) x y H Q ∨ rRep x y H Q
theorem op_mulU : OpR X (binaryOp .Mult) rMulU := opR_or op_mulW op_rep
theorem ImA.rep {W : Wd} {N : Addr → Prop} {H : Hp} {ds : List PyData} {vs : List V} (h : ImA W N H ds vs) : ∀ n : Nat, ImA W N H (List.replicate n ds).flatten (List.replicate n vs).flatten
  | 0 => rfl
  | n + 1 => by
    rw [List.replicate_succ, List.replicate_succ, List.flatten_cons, List.flatten_cons]
    exact ImA.append h (ImA.rep h n)
theorem od_mul : OpD G s s s2 rMulU fMul := by
  intro an O σ ρ H x y d e Φ Q S hx hy hf q
  unfold fMul at hf
  split at hf
  · exact .inl ⟨_, _, hx, hy, hf.1, q _ H _ hf.2 rfl (Keep.refl H) S.inv⟩
  · rename_i as k
    obtain ⟨a, xs, rfl, h1, _, q1⟩ := hx
    obtain ⟨k1, k2, k3, hf⟩ := hf
    have l1 := ImA.length q1
    refine .inr ⟨a, k, xs, rfl, hy, h1, by omega, by omega, line5 ?_, fun p hp => ?_⟩
    · have a1 : xs.length * k.toNat ≤ 100 * 1000 := Nat.mul_le_mul (by omega) (by omega)
      exact a1
    · exact q _ _ _ hf (S.lst hp (ImA.rep q1 _)) (Keep.new hp) (S.newI hp)
  · exact hf.elim
def rDivU : R2 := fun x y H Q => (rI CDivN fun i j => .int (i.fdiv j)) x y H Q ∨ (rI CDivW fun i j => .int (i / j)) x y H Q
theorem op_divU : OpR X (binaryOp .FloorDiv) rDivU := opR_or op_fdivN op_fdivW
theorem od_div : OpD G s s1 s2 rDivU fDiv := by
  intro an O σ ρ H x y d e Φ Q S hx hy hf q
  unfold fDiv fII at hf
  split at hf
  · rename_i i j
    rcases hf.1 with c | c
    · exact .inl ⟨i, j, hx, hy, c, q _ H _ hf.2 rfl (Keep.refl H) S.inv⟩
    · refine .inr ⟨i, j, hx, hy, c, q _ H _ hf.2 ?_ (Keep.refl H) S.inv⟩
      show V.int _ = V.int _
      rw [Int.fdiv_eq_ediv_of_nonneg i (Int.le_of_lt c.1)]
  · exact hf.elim
theorem od_mod : OpD G s s1 s2 (rI (fun _ j => j ≠ 0) fun i j => .int (i.fmod j)) fMod := od_int fun _ _ _ _ => rfl
theorem od_pow : OpD G s s1 s2 (rI CPow fun i j => .int (i ^ j.toNat)) fPow := od_int fun _ _ _ _ => rfl
def rLtU : R2 := fun x y H Q => (rI0 fun i j => .bl (decide (i < j))) x y H Q ∨ (∃ i j, x = .str i ∧ y = .str j ∧ Q (.bl (decide (i.cps.toList < j.cps.toList))) H)
theorem op_ltU : OpR X (compareOp .Lt) rLtU := opR_or op_lt op_lt_str
theorem od_lt : OpD G s s1 s2 rLtU fLt := by
  intro an O σ ρ H x y d e Φ Q S hx hy hf q
  unfold fLt at hf
  split at hf
  · exact .inl ⟨_, _, hx, hy, q _ H _ hf rfl (Keep.refl H) S.inv⟩
  · exact .inr ⟨_, _, hx, hy, q _ H _ hf rfl (Keep.refl H) S.inv⟩
  · exact hf.elim
theorem od_le : OpD G s s1 s2 (rI0 fun i j => .bl (decide (i ≤ j))) fLe := od_int0 fun _ _ _ _ => rfl
theorem od_gt : OpD G s s1 s2 (rI0 fun i j => .bl (decide (j < i))) fGt := od_int0 fun _ _ _ _ => rfl
theorem od_ge : OpD G s s1 s2 (rI0 fun i j => .bl (decide (j ≤ i))) fGe := od_int0 fun _ _ _ _ => rfl
def rEqU (K : PySem.W.Frag) : R2 := fun x y H Q => rEq x y H Q ∨ rEqD K x y H Q
def rNeU (K : PySem.W.Frag) : R2 := fun x y H Q => rNe x y H Q ∨ rNeD K x y H Q
theorem op_eqU (hu : X.A.units + 65 < cLine) : OpR X (compareOp .Eq) (rEqU X.K) := opR_or op_eq (op_eqD (by omega))
theorem op_neU (hu : X.A.units + 65 < cLine) : OpR X (compareOp .NotEq) (rNeU X.K) := opR_or op_ne (op_neD (by omega))
theorem od_eq : OpD G s s1 s2 (rEqU G.W.K) fEq := by
  intro an O σ ρ H x y d e Φ Q S hx hy hf q
  unfold fEq at hf
  split at hf
  · rename_i a b
    refine .inl ⟨?_, ?_⟩
    · rw [show x = .str a from hx, show y = .str b from hy]; rfl
    · rw [show x = .str a from hx, show y = .str b from hy]
      have e1 : decide (V.str a = V.str b) = decide (a = b) := by by_cases e : a = b <;> simp [e]
      rw [e1]
      exact q _ H _ hf rfl (Keep.refl H) S.inv
  · exact .inr ⟨d, e, Im.dp d x (dOk.plain hf.1) hx, Im.dp e y (dOk.plain hf.2.1) hy, (dOk.shaped hf.1), (dOk.shaped hf.2.1), q _ H _ hf.2.2 rfl (Keep.refl H) S.inv⟩
theorem od_ne : OpD G s s1 s2 (rNeU G.W.K) fNe := by
  intro an O σ ρ H x y d e Φ Q S hx hy hf q
  unfold fNe at hf
  split at hf
  · rename_i a b
    refine .inl ⟨?_, ?_⟩
    · rw [show x = .str a from hx, show y = .str b from hy]; rfl
    · rw [show x = .str a from hx, show y = .str b from hy]
      have e1 : decide (V.str a = V.str b) = decide (a = b) := by by_cases e : a = b <;> simp [e]
      rw [e1]
      exact q _ H _ hf rfl (Keep.refl H) S.inv
  · exact .inr ⟨d, e, Im.dp d x (dOk.plain hf.1) hx, Im.dp e y (dOk.plain hf.2.1) hy, (dOk.shaped hf.1), (dOk.shaped hf.2.1), q _ H _ hf.2.2 rfl (Keep.refl H) S.inv⟩
def rIsU : R2 := fun x y H Q => (y = .non ∧ Q (.bl (decide (x = .non))) H) ∨ (∃ a b, x = .bl a ∧ y = .bl b ∧ Q (.bl (decide (a = b))) H)
def rIsNotU : R2 := fun x y H Q => (y = .non ∧ Q (.bl (!decide (x = .non))) H) ∨ (∃ a b, x = .bl a ∧ y = .bl b ∧ Q (.bl (!decide (a = b))) H)
theorem od_is : OpD G s s1 s2 rIsU fIs := by
  intro an O σ ρ H x y d e Φ Q S hx hy hf q
  unfold fIs at hf
  split at hf
  · refine .inl ⟨hy, ?_⟩
    rw [im_none_iff hx]
    exact q _ H _ hf rfl (Keep.refl H) S.inv
  · exact .inr ⟨_, _, hx, hy, q _ H _ hf rfl (Keep.refl H) S.inv⟩
  · exact hf.elim
theorem od_isnot : OpD G s s1 s2 rIsNotU fIsNot := by
  intro an O σ ρ H x y d e Φ Q S hx hy hf q
  unfold fIsNot at hf
  split at hf
  · refine .inl ⟨hy, ?_⟩
    rw [im_none_iff hx]
    exact q _ H _ hf rfl (Keep.refl H) S.inv
  · exact .inr ⟨_, _, hx, hy, q _ H _ hf rfl (Keep.refl H) S.inv⟩
  · exact hf.elim
theorem op_isU : OpR X (compareOp .Is) rIsU := opR_or op_isN op_is_bl
theorem op_isnotU : OpR X (compareOp .IsNot) rIsNotU := opR_or op_notN op_isnot_bl
/-- x in a list, in a tuple, of data -/
def rInU (K : PySem.W.Frag) : R2 := fun x y H Q => ∃ d ds e, (e = .list ds ∨ e = .tuple ds) ∧ Dp K H x d ∧ Dp K H y e ∧ SeqAt.shaped d = true ∧ SeqAt.shaped e = true ∧ Q (.bl (memD d ds)) H
def rNotInU (K : PySem.W.Frag) : R2 := fun x y H Q => ∃ d ds e, (e = .list ds ∨ e = .tuple ds) ∧ Dp K H x d ∧ Dp K H y e ∧ SeqAt.shaped d = true ∧ SeqAt.shaped e = true ∧ Q (.bl (!memD d ds)) H
theorem op_inU (hu : X.A.units + 65 < cLine) : OpR X (compareOp .In) (rInU X.K) := by
  intro pins s σ H x y v u Q I rx ry h
  obtain ⟨d, ds, e, he, hd, h2, sd, se, q⟩ := h
  obtain ⟨as, r1⟩ := Dp.reads I d x v hd rx
  obtain ⟨bs, r2⟩ := Dp.reads I e y u h2 ry
  rcases he with rfl | rfl
  · exact SeqAt.in_list_reads r2 r1 (SeqAt.canLay_of_shaped se) (SeqAt.canLay_of_shaped sd) (room_in_shaped sd hu) ⟨.bl _, H, I, rfl, q⟩
  · exact SeqAt.in_tuple_reads r2 r1 (SeqAt.canLay_of_shaped se) (SeqAt.canLay_of_shaped sd) (room_in_shaped sd hu) ⟨.bl _, H, I, rfl, q⟩
theorem op_notinU (hu : X.A.units + 65 < cLine) : OpR X (compareOp .NotIn) (rNotInU X.K) := by
  intro pins s σ H x y v u Q I rx ry h
  obtain ⟨d, ds, e, he, hd, h2, sd, se, q⟩ := h
  obtain ⟨as, r1⟩ := Dp.reads I d x v hd rx
  obtain ⟨bs, r2⟩ := Dp.reads I e y u h2 ry
  rcases he with rfl | rfl
  · exact SeqAt.notIn_list_reads r2 r1 (SeqAt.canLay_of_shaped se) (SeqAt.canLay_of_shaped sd) (room_in_shaped sd hu) ⟨.bl _, H, I, rfl, q⟩
  · exact SeqAt.notIn_tuple_reads r2 r1 (SeqAt.canLay_of_shaped se) (SeqAt.canLay_of_shaped sd) (room_in_shaped sd hu) ⟨.bl _, H, I, rfl, q⟩
theorem od_in : OpD G s s1 s2 (rInU G.W.K) fIn := by
  intro an O σ ρ H x y d e Φ Q S hx hy hf q
  unfold fIn at hf
  split at hf
  · exact ⟨d, _, _, .inl rfl, Im.dp d x (dOk.plain hf.1) hx, Im.dp _ y (dOk.plain hf.2.1) hy, (dOk.shaped hf.1), (dOk.shaped hf.2.1), q _ H _ hf.2.2 rfl (Keep.refl H) S.inv⟩
  · exact ⟨d, _, _, .inr rfl, Im.dp d x (dOk.plain hf.1) hx, Im.dp _ y (dOk.plain hf.2.1) hy, (dOk.shaped hf.1), (dOk.shaped hf.2.1), q _ H _ hf.2.2 rfl (Keep.refl H) S.inv⟩
  · exact hf.elim
theorem od_notin : OpD G s s1 s2 (rNotInU G.W.K) fNotIn := by
  intro an O σ ρ H x y d e Φ Q S hx hy hf q
  unfold fNotIn at hf
  split at hf
  · exact ⟨d, _, _, .inl rfl, Im.dp d x (dOk.plain hf.1) hx, Im.dp _ y (dOk.plain hf.2.1) hy, (dOk.shaped hf.1), (dOk.shaped hf.2.1), q _ H _ hf.2.2 rfl (Keep.refl H) S.inv⟩
  · exact ⟨d, _, _, .inr rfl, Im.dp d x (dOk.plain hf.1) hx, Im.dp _ y (dOk.plain hf.2.1) hy, (dOk.shaped hf.1), (dOk.shaped hf.2.1), q _ H _ hf.2.2 rfl (Keep.refl H) S.inv⟩
  · exact hf.elim
end
end DL

namespace DL
open PySem PySem.Spec PyProof.Rows L2

def wNil : WA := fun _ Φ => Φ []
def wCons (wa : WE) (wr : WA) : WA := fun ρ Φ => wa ρ fun x => wr ρ fun xs => Φ (x :: xs)
def wStar (wa : WE) (wr : WA) : WA := fun ρ Φ => wa ρ fun x => match x with | .tuple ys => (wr ρ fun xs => Φ (ys ++ xs)) | .list ys => (wr ρ fun xs => Φ (ys ++ xs)) | _ => False
def wTup (wa : WA) : WE := fun ρ Φ => wa ρ fun xs => xs.length ≤ 100000 ∧ Φ (.tuple xs)
def wLst (wa : WA) : WE := fun ρ Φ => wa ρ fun xs => xs.length ≤ 100000 ∧ Φ (.list xs)
section
variable {X : Cx} {G : Gx} {pos : Pos} {s s1 s2 : Bool} {e a b : Expr} {es : List Expr} {wa wb wc : WE} {wr : WA}
theorem da_nil : PA X [] (upA G s wNil) := pa_weak pa_nil fun σ H Q ⟨an, O, ρ, Φ, S, h, q⟩ => q [] H [] h rfl (Keep.refl H) S.inv
theorem da_cons (ha : PE X e (up G s wa)) (hr : PA X es (upA G s wr)) (hs : starEach (e :: es) X.env = (false, eval e X.env) :: starEach es X.env := by rfl) : PA X (e :: es) (upA G s (wCons wa wr)) :=
  pa_weak (pa_cons ha hr hs) fun σ H Q ⟨an, O, ρ, Φ, S, h, q⟩ => by
    refine ⟨an, O, ρ, _, S, h, fun v H1 d h1 im k1 i1 => ?_⟩
    refine ⟨an, O, ρ, _, S.keep k1 i1, h1, fun vs H2 ds h2 im2 k2 i2 => ?_⟩
    exact q (v :: vs) H2 (d :: ds) h2 ⟨v, vs, rfl, (S.keep k1 i1).im k2 im, im2⟩ (k1.trans k2) i2
theorem da_star {p : Pos} (hK : X.K = G.W.K) (ha : PE X e (up G s wa)) (hr : PA X es (upA G s wr)) (hs : starEach (.Starred e p :: es) X.env = (true, eval e X.env) :: starEach es X.env := by rfl) : PA X (.Starred e p :: es) (upA G s (wStar wa wr)) :=
  pa_weak (StX.pa_star ha hr hs) fun σ H Q ⟨an, O, ρ, Φ, S, h, q⟩ => by
    refine ⟨an, O, ρ, _, S, h, fun v H1 d h1 im k1 i1 => ?_⟩
    have S1 := S.keep k1 i1
    cases d with
    | tuple ys =>
      obtain ⟨p, xs, e1, r, m⟩ := im
      refine ⟨p, xs, e1, .inl (by rw [hK]; exact r), an, O, ρ, _, S1, h1, fun vs H2 ds h2 im2 k2 i2 => ?_⟩
      exact q _ H2 _ h2 (ImA.append (S1.ima k2 m) im2) (k1.trans k2) i2
    | list ys =>
      obtain ⟨p, xs, e1, r, n, m⟩ := im
      refine ⟨p, xs, e1, .inr (.inl (.inl r)), an, O, ρ, _, S1, h1, fun vs H2 ds h2 im2 k2 i2 => ?_⟩
      exact q _ H2 _ h2 (ImA.append (S1.ima k2 m) im2) (k1.trans k2) i2
    | _ => exact h1.elim
theorem de_tup {x1} (h : PA X es (upA G s wr)) : PE X (.Tuple es x1 pos) (up G s (wTup wr)) := pe_weak (pe_tup h) fun σ H Q ⟨an, O, ρ, Φ, S, h, q⟩ => by
  refine ⟨an, O, ρ, _, S, h, fun vs H1 ds h1 im k1 i1 => ?_⟩
  refine ⟨line5 (by rw [ImA.length im]; exact h1.1), fun p hp => ?_⟩
  have S1 := S.keep k1 i1
  exact q _ _ _ h1.2 (S1.tup hp im) (k1.trans (Keep.new hp)) (S1.newI hp)
theorem de_lst (h : PA X es (upA G s wr)) : PE X (.List es pos) (up G s (wLst wr)) := pe_weak (pe_lst h) fun σ H Q ⟨an, O, ρ, Φ, S, h, q⟩ => by
  refine ⟨an, O, ρ, _, S, h, fun vs H1 ds h1 im k1 i1 => ?_⟩
  refine ⟨line5 (by rw [ImA.length im]; exact h1.1), fun p hp => ?_⟩
  have S1 := S.keep k1 i1
  exact q _ _ _ h1.2 (S1.lst hp im) (k1.trans (Keep.new hp)) (S1.newI hp)

def fIx : PyData → PyData → (PyData → Prop) → Prop := fun x y Φ => match x, y with
  | .list ds, .int i => ∃ d, atI ds i = some d ∧ Φ d
  | .tuple ds, .int i => ∃ d, atI ds i = some d ∧ Φ d
  | .str z, .int i => z.length ≤ 100000 ∧ ∃ c, atI z.cps.toList i = some c ∧ Φ (.str ⟨#[c]⟩)
  | _, _ => False
theorem ImA.at {W : Wd} {N : Addr → Prop} {H : Hp} {ds : List PyData} {vs : List V} {i : Int} {d : PyData} (h : ImA W N H ds vs) (e : atI ds i = some d) : ∃ v, atI vs i = some v ∧ Im W N H d v := by
  unfold atI at e ⊢
  rw [ImA.length h]
  cases q : ixN ds.length i with
  | none => rw [q] at e; cases e
  | some j =>
    rw [q] at e
    exact ImA.get h e
theorem od_ix : OpD G s s s2 (rIx G.W.K) fIx := by
  intro an O σ ρ H x y d e Φ Q S hx hy hf q
  unfold fIx at hf
  split at hf
  · obtain ⟨a, xs, rfl, r, n, m⟩ := hx
    obtain ⟨d1, e1, h1⟩ := hf
    obtain ⟨v, e2, m2⟩ := ImA.at m e1
    exact .inl ⟨a, xs, _, v, rfl, hy, .inl (.inl r), e2, q v H d1 h1 m2 (Keep.refl H) S.inv⟩
  · obtain ⟨a, xs, rfl, r, m⟩ := hx
    obtain ⟨d1, e1, h1⟩ := hf
    obtain ⟨v, e2, m2⟩ := ImA.at m e1
    exact .inr (.inl ⟨a, xs, _, v, rfl, hy, r, e2, q v H d1 h1 m2 (Keep.refl H) S.inv⟩)
  · obtain ⟨hz, c, e1, h1⟩ := hf
    exact .inr (.inr ⟨_, _, c, hx, hy, line5 hz, e1, q _ H _ h1 rfl (Keep.refl H) S.inv⟩)
  · exact hf.elim
theorem de_ix (hK : X.K = G.W.K) (ha : PE X a (up G s wa)) (hb : PE X b (up G s2 wb)) (hs : PlainIx b) : PE X (.Subscript a b pos) (up G s (wOp fIx wa wb)) :=
  pe_weak (pe_ix ix_seq ha hb hs) (by rw [hK]; exact up_op od_ix)
/-- an item of a list of one's own -/
def wIxO (i : Nat) (wb : WE) : WE := fun ρ Φ => match nth ρ i with | .o ds => (wb ρ fun y => match y with | .int k => (∃ d, atI ds k = some d ∧ Φ d) | _ => False) | _ => False
theorem de_ixo (i : Nat) {x : Str} {p1 : Pos} (hb : PE X b (up G s2 wb)) (hs : PlainIx b) (hN : X.N[i]? = some x := by rfl) (hv : Vis X.env.scope x := by first | exact Or.inl rfl | exact Or.inr (Or.inl rfl) | exact Or.inr (Or.inr rfl)) (hd : (x == ("__debug__" : Str)) = false := by decide)
    (hcd : (x == ("__classdict__" : Str)) = false := by decide) : PE X (.Subscript (.Name x p1) b pos) (up G true (wIxO i wb)) :=
  pe_weak (pe_ix ix_list (pe_var hN hv hd hcd) hb hs) fun σ H Q ⟨an, O, ρ, Φ, S, h, q⟩ => by
    have en := S.en i
    unfold wIxO at h
    cases hx : nth ρ i with
    | o ds =>
      rw [hx] at en h
      obtain ⟨p, vs, e1, e2, e3, im⟩ := en
      refine ⟨.ref p, e1, an, O, ρ, _, S, h, fun v H1 d h1 im1 k1 i1 => ?_⟩
      have nm : ¬ G.R.M p := fun m => by
        obtain ⟨o, z2⟩ := S.al p (S.ra p m)
        rw [(S.fr i p e2).1] at z2
        cases z2
      cases d with
      | int k =>
        obtain ⟨d2, a1, h2⟩ := h1
        obtain ⟨w, a2, m2⟩ := ImA.at im a1
        exact ⟨p, vs, k, w, rfl, im1, .inl (.inl (k1.ob p _ e3 nm)), a2, q w H1 d2 h2 (Im.keep (S.ka (s := true) k1) _ _ m2) k1 i1⟩
      | _ => exact h1.elim
    | d x => rw [hx] at h; exact h.elim
    | m => rw [hx] at h; exact h.elim
    | u => rw [hx] at h; exact h.elim
    | s ns => rw [hx] at h; exact h.elim

def wAndV (wa wb : WE) : WE := fun ρ Φ => wa ρ fun x => match x with | .bool c => (if c = true then wb ρ Φ else Φ (.bool false)) | _ => False
def wOrV (wa wb : WE) : WE := fun ρ Φ => wa ρ fun x => match x with | .bool c => (if c = true then Φ (.bool true) else wb ρ Φ) | _ => False
def wNeg (wa : WE) : WE := fun ρ Φ => wa ρ fun x => match x with | .int i => Φ (.int (-i)) | _ => False
def wNotV (wa : WE) : WE := fun ρ Φ => wa ρ fun x => match x with | .bool c => Φ (.bool (!c)) | _ => False
def wAnd (wa wb : WT) : WT := fun ρ Φ => wa ρ fun c => if c = true then wb ρ Φ else Φ false
def wOr (wa wb : WT) : WT := fun ρ Φ => wa ρ fun c => if c = true then Φ true else wb ρ Φ
def wNot (wa : WT) : WT := fun ρ Φ => wa ρ fun c => Φ (!c)
def wIfE (wt : WT) (wa wb : WE) : WE := fun ρ Φ => wt ρ fun c => if c = true then wa ρ Φ else wb ρ Φ
variable {rest : List Expr} {ta tb : WT}
theorem de_one {op} (h : PE X a (up G s wa)) : PE X (.BoolOp op [a] pos) (up G s wa) := pe_one h
theorem de_and (ha : PE X a (up G s wa)) (hb : PE X (.BoolOp .And (b :: rest) pos) (up G s wb)) : PE X (.BoolOp .And (a :: b :: rest) pos) (up G s (wAndV wa wb)) := pe_weak (pe_and ha hb) fun σ H Q ⟨an, O, ρ, Φ, S, h, q⟩ => by
  refine ⟨an, O, ρ, _, S, h, fun v H1 d h1 im k1 i1 => ?_⟩
  cases d with
  | bool c =>
    refine ⟨c, im, ?_⟩
    cases c with
    | true =>
      dsimp only at h1
      rw [if_pos rfl] at h1 ⊢
      exact ⟨an, O, ρ, Φ, S.keep k1 i1, h1, fun v2 H2 d2 p2 m2 k2 i2 => q v2 H2 d2 p2 m2 (k1.trans k2) i2⟩
    | false =>
      dsimp only at h1
      rw [if_neg Bool.false_ne_true] at h1 ⊢
      exact q _ H1 _ h1 rfl k1 i1
  | _ => exact h1.elim
theorem de_or (ha : PE X a (up G s wa)) (hb : PE X (.BoolOp .Or (b :: rest) pos) (up G s wb)) : PE X (.BoolOp .Or (a :: b :: rest) pos) (up G s (wOrV wa wb)) := pe_weak (pe_or ha hb) fun σ H Q ⟨an, O, ρ, Φ, S, h, q⟩ => by
  refine ⟨an, O, ρ, _, S, h, fun v H1 d h1 im k1 i1 => ?_⟩
  cases d with
  | bool c =>
    refine ⟨c, im, ?_⟩
    cases c with
    | true =>
      dsimp only at h1
      rw [if_pos rfl] at h1 ⊢
      exact q _ H1 _ h1 rfl k1 i1
    | false =>
      dsimp only at h1
      rw [if_neg Bool.false_ne_true] at h1 ⊢
      exact ⟨an, O, ρ, Φ, S.keep k1 i1, h1, fun v2 H2 d2 p2 m2 k2 i2 => q v2 H2 d2 p2 m2 (k1.trans k2) i2⟩
  | _ => exact h1.elim
theorem de_not (ha : PE X a (up G s wa)) : PE X (.UnaryOp .Not a pos) (up G s (wNotV wa)) := pe_weak (pe_not ha) fun σ H Q ⟨an, O, ρ, Φ, S, h, q⟩ => by
  refine ⟨an, O, ρ, _, S, h, fun v H1 d h1 im k1 i1 => ?_⟩
  cases d with
  | bool c => exact ⟨c, im, q _ H1 _ h1 rfl k1 i1⟩
  | _ => exact h1.elim
theorem de_neg (ha : PE X a (up G s wa)) : PE X (.UnaryOp .USub a pos) (up G s (wNeg wa)) := pe_weak (pe_un un_neg ha) fun σ H Q ⟨an, O, ρ, Φ, S, h, q⟩ => by
  refine ⟨an, O, ρ, _, S, h, fun v H1 d h1 im k1 i1 => ?_⟩
  cases d with
  | int c => exact ⟨c, im, q _ H1 _ h1 rfl k1 i1⟩
  | _ => exact h1.elim
theorem dt_not (ha : PT X a (upT G ta)) : PT X (.UnaryOp .Not a pos) (upT G (wNot ta)) := pt_weak (pt_not ha) fun σ H Q ⟨an, O, ρ, Φ, S, h, q⟩ =>
  ⟨an, O, ρ, _, S, h, fun b H1 h1 k1 i1 => q _ H1 h1 k1 i1⟩
theorem dw_and1 (ha : PT X a (upT G ta)) : PW X (.BoolOp .And [a] pos) (upT G ta) := pw_and1 ha
theorem dw_or1 (ha : PT X a (upT G ta)) : PW X (.BoolOp .Or [a] pos) (upT G ta) := pw_or1 ha
theorem dw_and (ha : PT X a (upT G ta)) (hb : PW X (.BoolOp .And (b :: rest) pos) (upT G tb)) : PW X (.BoolOp .And (a :: b :: rest) pos) (upT G (wAnd ta tb)) := pw_weak (pw_and ha hb) fun σ H Q ⟨an, O, ρ, Φ, S, h, q⟩ => by
  refine ⟨an, O, ρ, _, S, h, fun c H1 h1 k1 i1 => ?_⟩
  cases c with
  | true =>
    rw [if_pos rfl] at h1 ⊢
    exact ⟨an, O, ρ, Φ, S.keep k1 i1, h1, fun b2 H2 p2 k2 i2 => q b2 H2 p2 (k1.trans k2) i2⟩
  | false =>
    rw [if_neg Bool.false_ne_true] at h1 ⊢
    exact q _ H1 h1 k1 i1
theorem dw_or (ha : PT X a (upT G ta)) (hb : PW X (.BoolOp .Or (b :: rest) pos) (upT G tb)) : PW X (.BoolOp .Or (a :: b :: rest) pos) (upT G (wOr ta tb)) := pw_weak (pw_or ha hb) fun σ H Q ⟨an, O, ρ, Φ, S, h, q⟩ => by
  refine ⟨an, O, ρ, _, S, h, fun c H1 h1 k1 i1 => ?_⟩
  cases c with
  | true =>
    rw [if_pos rfl] at h1 ⊢
    exact q _ H1 h1 k1 i1
  | false =>
    rw [if_neg Bool.false_ne_true] at h1 ⊢
    exact ⟨an, O, ρ, Φ, S.keep k1 i1, h1, fun b2 H2 p2 k2 i2 => q b2 H2 p2 (k1.trans k2) i2⟩
theorem de_ife {c : Expr} (hc : PT X c (upT G ta)) (ha : PE X a (up G s wa)) (hb : PE X b (up G s wb)) : PE X (.IfExp c a b pos) (up G s (wIfE ta wa wb)) := pe_weak (pe_ifExp hc ha hb) fun σ H Q ⟨an, O, ρ, Φ, S, h, q⟩ => by
  refine ⟨an, O, ρ, _, S, h, fun c H1 h1 k1 i1 => ?_⟩
  cases c with
  | true =>
    rw [if_pos rfl] at h1 ⊢
    exact ⟨an, O, ρ, Φ, S.keep k1 i1, h1, fun v2 H2 d2 p2 m2 k2 i2 => q v2 H2 d2 p2 m2 (k1.trans k2) i2⟩
  | false =>
    rw [if_neg Bool.false_ne_true] at h1 ⊢
    exact ⟨an, O, ρ, Φ, S.keep k1 i1, h1, fun v2 H2 d2 p2 m2 k2 i2 => q v2 H2 d2 p2 m2 (k1.trans k2) i2⟩
/-- the truth of a value -/
def truthD : PyData → Option Bool
  | .none => some false
  | .bool b => some b
  | .int i => some (i != 0)
  | .str x => some ((x.length : Int) != 0)
  | .list ds => some (!ds.isEmpty)
  | .tuple ds => some (!ds.isEmpty)
  | .dict _ => Option.none
def wTru (we : WE) : WT := fun ρ Φ => we ρ fun d => match d with
  | .none => Φ false
  | .bool b => Φ b
  | .int i => Φ (i != 0)
  | .str x => x.length ≤ 100000 ∧ Φ ((x.length : Int) != 0)
  | .list ds => Φ (!ds.isEmpty)
  | .tuple ds => Φ (!ds.isEmpty)
  | .dict _ => False
theorem isEmptyA {W : Wd} {N : Addr → Prop} {H : Hp} {ds : List PyData} {vs : List V} (h : ImA W N H ds vs) : vs.isEmpty = ds.isEmpty := by
  have l := ImA.length h
  cases ds <;> cases vs <;> first | rfl | (simp at l)
theorem dt_tru (hK : X.K = G.W.K) (ha : PE X a (up G s wa)) (he : ∀ whole, isTrue a X.env whole = (do let v ← whole; standAt a.pos; holding [v] (truthy v)) := by intro _; rfl) : PT X a (upT G (wTru wa)) :=
  pt_weak (pt_truth ha he) fun σ H Q ⟨an, O, ρ, Φ, S, h, q⟩ => by
    rw [hK]
    refine ⟨an, O, ρ, _, S, h, fun v H1 d h1 im k1 i1 => ?_⟩
    cases d with
    | none => cases im; exact ⟨false, rfl, q _ H1 h1 k1 i1⟩
    | bool b => cases im; exact ⟨b, rfl, q _ H1 h1 k1 i1⟩
    | int b => cases im; exact ⟨_, rfl, q _ H1 h1 k1 i1⟩
    | str b => cases im; exact ⟨_, ⟨line5 h1.1, rfl⟩, q _ H1 h1.2 k1 i1⟩
    | list ds =>
      obtain ⟨p, xs, rfl, r, n, m⟩ := im
      exact ⟨_, .inl ⟨xs, .inl (.inl r), by rw [isEmptyA m]⟩, q _ H1 h1 k1 i1⟩
    | tuple ds =>
      obtain ⟨p, xs, rfl, r, m⟩ := im
      exact ⟨_, .inr (.inl ⟨xs, r, by rw [isEmptyA m]⟩), q _ H1 h1 k1 i1⟩
    | dict ds => exact h1.elim
end
end DL

namespace DL
open PySem PySem.Spec PyProof.Rows L2

abbrev WO := Ev → (Option Int → Prop) → Prop
def upO (G : Gx) (wo : WO) : TO := fun σ H Q => ∃ (an : List (PyData × V)) (O : Nat → Option Addr) (ρ : Ev) (Φ : Option Int → Prop), Sta G an O σ H ρ ∧ wo ρ Φ ∧
  ∀ o H', Φ o → Keep G.R.M H H' → G.R.I H' → Q o H'
def wNo : WO := fun _ Φ => Φ none
def wPart (we : WE) : WO := fun ρ Φ => we ρ fun d => match d with | .int i => Φ (some i) | _ => False
def cutG {α : Type} (xs : List α) (lo hi : Option Int) : List α := (xs.drop (HT.sIx xs.length 0 lo)).take (HT.sIx xs.length xs.length hi - HT.sIx xs.length 0 lo)
theorem ImA.cut {W : Wd} {N : Addr → Prop} {H : Hp} {ds : List PyData} {vs : List V} (h : ImA W N H ds vs) (lo hi : Option Int) : ImA W N H (cutG ds lo hi) (cutV vs lo hi) := by
  unfold cutG cutV
  rw [ImA.length h]
  exact ImA.take _ (ImA.drop _ h)
def fSl : PyData → Option Int → Option Int → (PyData → Prop) → Prop := fun x lo hi Φ => match x with
  | .list ds => Φ (.list (cutG ds lo hi))
  | .tuple ds => Φ (.tuple (cutG ds lo hi))
  | .str z => z.length ≤ 100000 ∧ Φ (.str (cutS z lo hi))
  | _ => False
def wSl (we : WE) (wl wh : WO) : WE := fun ρ Φ => we ρ fun x => wl ρ fun lo => wh ρ fun hi => fSl x lo hi Φ
section
variable {X : Cx} {G : Gx} {pos p2 : Pos} {s s1 s2 : Bool} {e a b : Expr} {es : List Expr} {we wa wb wc : WE} {wr : WA} {wl wh : WO} {lo hi : Option Expr}
theorem do_none : PO X none (upO G wNo) := ⟨fun pins s σ H Q I ⟨an, O, ρ, Φ, S, h, q⟩ => po_none.run pins s σ H Q I (q none H h (Keep.refl H) S.inv)⟩
theorem do_some (h : PE X e (up G s we)) : PO X (some e) (upO G (wPart we)) := ⟨fun pins sh σ H Q I ⟨an, O, ρ, Φ, S, hw, q⟩ => by
  refine (po_some h).run pins sh σ H Q I ⟨an, O, ρ, _, S, hw, fun v H1 d h1 im k1 i1 => ?_⟩
  cases d with
  | int i => exact ⟨i, im, q _ H1 h1 k1 i1⟩
  | _ => exact h1.elim⟩
def rSlU (K : PySem.W.Frag) : V → Option Int → Option Int → Hp → VK → Prop := fun x lo hi H Q => rSlL K x lo hi H Q ∨ rSlA K x lo hi H Q ∨ rSlS x lo hi H Q
theorem sl_U : SlR X (rSlU X.K) := SlR.or sl_list (SlR.or sl_tupA sl_str)
theorem cut_whole {α : Type} {xs : List α} {lo hi : Option Int} (h : HT.sIx xs.length 0 lo = 0 ∧ HT.sIx xs.length xs.length hi = xs.length) : cutG xs lo hi = xs := by
  unfold cutG
  rw [h.1, h.2, Nat.sub_zero, List.drop_zero, List.take_length]
theorem de_sl (hK : X.K = G.W.K) (he : PE X e (up G s we)) (hl : PO X lo (upO G wl)) (hh : PO X hi (upO G wh)) : PE X (.Subscript e (.Slice lo hi none p2) pos) (up G s (wSl we wl wh)) :=
  pe_weak (pe_slice sl_U he hl hh) fun σ H Q ⟨an, O, ρ, Φ, S, h, q⟩ => by
    refine ⟨an, O, ρ, _, S, h, fun v H1 d h1 im k1 i1 => ?_⟩
    have S1 := S.keep k1 i1
    refine ⟨an, O, ρ, _, S1, h1, fun lo H2 h2 k2 i2 => ?_⟩
    have S2 := S1.keep k2 i2
    refine ⟨an, O, ρ, _, S2, h2, fun hi H3 h3 k3 i3 => ?_⟩
    have S3 := S2.keep k3 i3
    have im3 := S2.im k3 (S1.im k2 im)
    have kk := (k1.trans k2).trans k3
    rw [hK]
    unfold fSl at h3
    split at h3
    · obtain ⟨a, xs, rfl, r, n, m⟩ := im3
      exact .inl ⟨a, xs, rfl, .inl (.inl r), fun p hp => q _ _ _ h3 (S3.lst hp (ImA.cut m _ _)) (kk.trans (Keep.new hp)) (S3.newI hp)⟩
    · rename_i ds
      have im4 := im3
      obtain ⟨a, xs, rfl, r, m⟩ := im3
      refine .inr (.inl ⟨a, xs, rfl, r, fun w => ?_, fun w p hp => q _ _ _ h3 (S3.tup hp (ImA.cut m _ _)) (kk.trans (Keep.new hp)) (S3.newI hp)⟩)
      rw [ImA.length m] at w
      rw [cut_whole w] at h3
      exact q _ H3 _ h3 im4 kk i3
    · exact .inr (.inr ⟨_, im3, line5 h3.1, q _ H3 _ h3.2 rfl kk i3⟩)
    · exact h3.elim
/-- the script: its length, an item, a part -/
def wSLen (i : Nat) : WE := fun ρ Φ => match nth ρ i with | .s ns => Φ (.int ns.length) | _ => False
def wSIx (i : Nat) (wb : WE) : WE := fun ρ Φ => match nth ρ i with | .s ns => (wb ρ fun y => match y with | .int k => (∃ d, atI ns k = some d ∧ Φ (.int d)) | _ => False) | _ => False
def wSSl (i : Nat) (wl wh : WO) : WE := fun ρ Φ => match nth ρ i with | .s ns => (wl ρ fun lo => wh ρ fun hi => Φ (.list ((cutG ns lo hi).map .int))) | _ => False
theorem s_slot {an : List (PyData × V)} {O : Nat → Option Addr} {σ : L2.St} {H : Hp} {ρ : Ev} {i : Nat} (S : Sta G an O σ H ρ) {α : Type} {P : List Int → Prop} (h : match nth ρ i with | .s ns => P ns | _ => False) :
    ∃ ns a, σ[i]? = some (some (.ref a)) ∧ SqS G.W.K H a (ns.map V.int) ∧ P ns := by
  have en := S.en i
  cases hx : nth ρ i with
  | s ns =>
    rw [hx] at en h
    obtain ⟨a, e1, e2⟩ := en
    exact ⟨ns, a, e1, e2, h⟩
  | _ => rw [hx] at h; exact h.elim
theorem atI_map {α β : Type} {f : α → β} {xs : List α} {i : Int} {d : α} (h : atI xs i = some d) : atI (xs.map f) i = some (f d) := by
  unfold atI at h ⊢
  rw [List.length_map]
  cases q : ixN xs.length i with
  | none => rw [q] at h; cases h
  | some j =>
    rw [q] at h
    have h : xs[j]? = some d := h
    show (xs.map f)[j]? = some (f d)
    rw [List.getElem?_map, h]
    rfl
theorem cut_map {α β : Type} {f : α → β} {xs : List α} {lo hi : Option Int} : (cutG xs lo hi).map f = cutG (xs.map f) lo hi := by
  unfold cutG
  rw [List.map_take, List.map_drop, List.length_map]
theorem cutV_cutG {xs : List V} {lo hi : Option Int} : cutV xs lo hi = cutG xs lo hi := rfl

def CallD (G : Gx) (s s1 : Bool) (r : List V → Hp → VK → Prop) (f : List PyData → (PyData → Prop) → Prop) : Prop :=
  ∀ (an : List (PyData × V)) (O : Nat → Option Addr) (σ : L2.St) (ρ : Ev) (H : Hp) (vs : List V) (ds : List PyData) (Φ : PyData → Prop) (Q : VK), Sta G an O σ H ρ → ImA G.W (Nn G O s1) H ds vs → f ds Φ →
    (∀ v H' z, Φ z → Im G.W (Nn G O s) H' z v → Keep G.R.M H H' → G.R.I H' → Q v H') → r vs H Q
def wCall (f : List PyData → (PyData → Prop) → Prop) (wa : WA) : WE := fun ρ Φ => wa ρ fun ds => f ds Φ
theorem up_call {r : List V → Hp → VK → Prop} {f : List PyData → (PyData → Prop) → Prop} (hf : CallD G s s1 r f) (σ : L2.St) (H : Hp) (Q : VK) (h : up G s (wCall f wr) σ H Q) : tCB r (upA G s1 wr) σ H Q := by
  obtain ⟨an, O, ρ, Φ, S, h, q⟩ := h
  refine ⟨an, O, ρ, _, S, h, fun vs H1 ds h1 im k1 i1 => ?_⟩
  exact hf an O σ ρ H1 vs ds Φ Q (S.keep k1 i1) im h1 fun w H3 z hz imz k3 i3 => q w H3 z hz imz (k1.trans k3) i3
theorem de_callB {x : Str} {p : Pos} {id : String} {r : List V → Hp → VK → Prop} {f : List PyData → (PyData → Prop) → Prop} (hc : CallR X (.builtin id) r) (hf : CallD G s s1 r f) (hg : Gl X x) (hm : X.mg x = none) (hv : bootBuiltins x = some (.builtin id)) (ha : PA X (e :: es) (upA G s1 wr))
    (hn : x ≠ "__name__" := by decide) (hdb : (x == ("__debug__" : Str)) = false := by decide) (he : starEach (e :: es) X.env = (false, eval e X.env) :: starEach es X.env := by rfl) (hpl : (backTo pos (starEach es X.env)).any (·.1) = false := by rfl) :
    PE X (.Call (.Name x p) (e :: es) [] pos) (up G s (wCall f wr)) := pe_weak (pe_callB hc hg hm hv ha hn hdb he hpl) (up_call hf)
theorem de_callT {x : Str} {p : Pos} {T : String} {r : List V → Hp → VK → Prop} {f : List PyData → (PyData → Prop) → Prop} (hc : CallR X (.type T) r) (hf : CallD G s s1 r f) (hg : Gl X x) (hm : X.mg x = none) (hv : bootBuiltins x = some (.type T)) (ha : PA X (e :: es) (upA G s1 wr))
    (hn : x ≠ "__name__" := by decide) (hdb : (x == ("__debug__" : Str)) = false := by decide) (he : starEach (e :: es) X.env = (false, eval e X.env) :: starEach es X.env := by rfl) (hpl : (backTo pos (starEach es X.env)).any (·.1) = false := by rfl) :
    PE X (.Call (.Name x p) (e :: es) [] pos) (up G s (wCall f wr)) := pe_weak (pe_callTy hc hg hm hv ha hn hdb he hpl) (up_call hf)
theorem callR_or {f : Value} {r r' : List V → Hp → VK → Prop} (h : CallR X f r) (h' : CallR X f r') : CallR X f (fun vs H Q => r vs H Q ∨ r' vs H Q) := by
  intro pins s σ H vs us Q I rv hq
  rcases hq with hq | hq
  · exact h pins s σ H vs us Q I rv hq
  · exact h' pins s σ H vs us Q I rv hq
theorem im1 {W : Wd} {N : Addr → Prop} {H : Hp} {d : PyData} {vs : List V} (h : ImA W N H [d] vs) : ∃ v, vs = [v] ∧ Im W N H d v := by
  obtain ⟨v, r, e, q, z⟩ := h
  cases z
  exact ⟨v, e, q⟩
theorem im2 {W : Wd} {N : Addr → Prop} {H : Hp} {d d' : PyData} {vs : List V} (h : ImA W N H [d, d'] vs) : ∃ v v', vs = [v, v'] ∧ Im W N H d v ∧ Im W N H d' v' := by
  obtain ⟨v, r, e, q, z⟩ := h
  obtain ⟨v', rfl, q'⟩ := im1 z
  exact ⟨v, v', e, q, q'⟩
def fAbs : List PyData → (PyData → Prop) → Prop := fun ds Φ => match ds with | [.int i] => Φ (.int (if i < 0 then -i else i)) | _ => False
theorem cd_abs : CallD G s s1 (fun xs H Q => ∃ i, xs = [.int i] ∧ Q (.int (if i < 0 then -i else i)) H) fAbs := by
  intro an O σ ρ H vs ds Φ Q S hv hf q
  unfold fAbs at hf
  split at hf
  · obtain ⟨v, rfl, im⟩ := im1 hv
    cases im
    exact ⟨_, rfl, q _ H _ hf rfl (Keep.refl H) S.inv⟩
  · exact hf.elim
def fInt : List PyData → (PyData → Prop) → Prop := fun ds Φ => match ds with | [.int i] => Φ (.int i) | [.bool b] => Φ (.int (if b then 1 else 0)) | _ => False
theorem cd_int : CallD G s s1 (fun xs H Q => (∃ i, xs = [.int i] ∧ Q (.int i) H) ∨ ∃ k, xs = [.bl k] ∧ Q (.int (if k then 1 else 0)) H) fInt := by
  intro an O σ ρ H vs ds Φ Q S hv hf q
  unfold fInt at hf
  split at hf
  · obtain ⟨v, rfl, im⟩ := im1 hv
    cases im
    exact .inl ⟨_, rfl, q _ H _ hf rfl (Keep.refl H) S.inv⟩
  · obtain ⟨v, rfl, im⟩ := im1 hv
    cases im
    exact .inr ⟨_, rfl, q _ H _ hf rfl (Keep.refl H) S.inv⟩
  · exact hf.elim
def fLen : List PyData → (PyData → Prop) → Prop := fun ds Φ => match ds with | [.list xs] => Φ (.int xs.length) | [.tuple xs] => Φ (.int xs.length) | [.str z] => z.length ≤ 100000 ∧ Φ (.int z.length) | _ => False
theorem cd_len : CallD G s s1 (fun xs H Q => ∃ x n, xs = [x] ∧ LenV G.W.K x H n ∧ Q (.int n) H) fLen := by
  intro an O σ ρ H vs ds Φ Q S hv hf q
  unfold fLen at hf
  split at hf
  · obtain ⟨v, rfl, im⟩ := im1 hv
    obtain ⟨p, xs, rfl, r, n, m⟩ := im
    exact ⟨_, _, rfl, .inl ⟨xs, .inl (.inl r), rfl⟩, q _ H _ hf (by rw [ImA.length m]; rfl) (Keep.refl H) S.inv⟩
  · obtain ⟨v, rfl, im⟩ := im1 hv
    obtain ⟨p, xs, rfl, r, m⟩ := im
    exact ⟨_, _, rfl, .inr ⟨xs, r, rfl⟩, q _ H _ hf (by rw [ImA.length m]; rfl) (Keep.refl H) S.inv⟩
  · obtain ⟨v, rfl, im⟩ := im1 hv
    cases im
    exact ⟨_, _, rfl, ⟨line5 hf.1, rfl⟩, q _ H _ hf.2 rfl (Keep.refl H) S.inv⟩
  · exact hf.elim
def fTuple : List PyData → (PyData → Prop) → Prop := fun ds Φ => match ds with | [.list xs] => Φ (.tuple xs) | [.tuple xs] => Φ (.tuple xs) | _ => False
theorem cd_tuple : CallD G s s (fun xs H Q => ∃ p ys, xs = [.ref p] ∧ ((SqL G.W.K H p ys ∧ ∀ l, H l = none → Q (.ref l) (upd H l (.tup ys))) ∨ (SqT G.W.K H p ys ∧ Q (.ref p) H))) fTuple := by
  intro an O σ ρ H vs ds Φ Q S hv hf q
  unfold fTuple at hf
  split at hf
  · obtain ⟨v, rfl, im⟩ := im1 hv
    obtain ⟨p, xs, rfl, r, n, m⟩ := im
    exact ⟨p, xs, rfl, .inl ⟨.inl (.inl r), fun l hl => q _ _ _ hf (S.tup hl m) (Keep.new hl) (S.newI hl)⟩⟩
  · obtain ⟨v, rfl, im⟩ := im1 hv
    have im' := im
    obtain ⟨p, xs, rfl, r, m⟩ := im
    exact ⟨p, xs, rfl, .inr ⟨r, q _ H _ hf im' (Keep.refl H) S.inv⟩⟩
  · exact hf.elim
def fList : List PyData → (PyData → Prop) → Prop := fun ds Φ => match ds with | [.list xs] => Φ (.list xs) | [.tuple xs] => Φ (.list xs) | _ => False
theorem cd_list : CallD G s s (fun xs H Q => ∃ p ys, xs = [.ref p] ∧ (SqL G.W.K H p ys ∨ SqT G.W.K H p ys) ∧ ∀ l, H l = none → Q (.ref l) (upd H l (.lst ys))) fList := by
  intro an O σ ρ H vs ds Φ Q S hv hf q
  unfold fList at hf
  split at hf
  · obtain ⟨v, rfl, im⟩ := im1 hv
    obtain ⟨p, xs, rfl, r, n, m⟩ := im
    exact ⟨p, xs, rfl, .inl (.inl (.inl r)), fun l hl => q _ _ _ hf (S.lst hl m) (Keep.new hl) (S.newI hl)⟩
  · obtain ⟨v, rfl, im⟩ := im1 hv
    obtain ⟨p, xs, rfl, r, m⟩ := im
    exact ⟨p, xs, rfl, .inr r, fun l hl => q _ _ _ hf (S.lst hl m) (Keep.new hl) (S.newI hl)⟩
  · exact hf.elim
def fMin : List PyData → (PyData → Prop) → Prop := fun ds Φ => match ds with
  | [.int i, .int j] => Φ (.int (if j < i then j else i))
  | [.list xs] => ∃ ns : List Int, xs = ns.map .int ∧ ns ≠ [] ∧ ∀ m, m ∈ ns → (∀ y, y ∈ ns → m ≤ y) → Φ (.int m)
  | _ => False
def fMax : List PyData → (PyData → Prop) → Prop := fun ds Φ => match ds with
  | [.int i, .int j] => Φ (.int (if j > i then j else i))
  | [.list xs] => ∃ ns : List Int, xs = ns.map .int ∧ ns ≠ [] ∧ ∀ m, m ∈ ns → (∀ y, y ∈ ns → y ≤ m) → Φ (.int m)
  | _ => False
theorem cd_min : CallD G s s1 (fun vs H Q => (∃ i j, vs = [.int i, .int j] ∧ Q (.int (if j < i then j else i)) H) ∨ rMin G.W.K vs H Q) fMin := by
  intro an O σ ρ H vs ds Φ Q S hv hf q
  unfold fMin at hf
  split at hf
  · obtain ⟨v, v', rfl, h1, h2⟩ := im2 hv
    cases h1
    cases h2
    exact .inl ⟨_, _, rfl, q _ H _ hf rfl (Keep.refl H) S.inv⟩
  · obtain ⟨v, rfl, im⟩ := im1 hv
    obtain ⟨p, xs, rfl, r, n, m⟩ := im
    obtain ⟨ns, rfl, ne, hf⟩ := hf
    have e := ImA.ints m
    subst e
    exact .inr ⟨p, ns, rfl, .inl (.inl r), List.length_pos_iff.mpr ne, fun k hk hle => q _ H _ (hf k hk hle) rfl (Keep.refl H) S.inv⟩
  · exact hf.elim
theorem cd_max : CallD G s s1 (fun vs H Q => (∃ i j, vs = [.int i, .int j] ∧ Q (.int (if j > i then j else i)) H) ∨ rMax G.W.K vs H Q) fMax := by
  intro an O σ ρ H vs ds Φ Q S hv hf q
  unfold fMax at hf
  split at hf
  · obtain ⟨v, v', rfl, h1, h2⟩ := im2 hv
    cases h1
    cases h2
    exact .inl ⟨_, _, rfl, q _ H _ hf rfl (Keep.refl H) S.inv⟩
  · obtain ⟨v, rfl, im⟩ := im1 hv
    obtain ⟨p, xs, rfl, r, n, m⟩ := im
    obtain ⟨ns, rfl, ne, hf⟩ := hf
    have e := ImA.ints m
    subst e
    exact .inr ⟨p, ns, rfl, .inl (.inl r), List.length_pos_iff.mpr ne, fun k hk hle => q _ H _ (hf k hk hle) rfl (Keep.refl H) S.inv⟩
  · exact hf.elim
def fSum : List PyData → (PyData → Prop) → Prop := fun ds Φ => match ds with | [.list xs] => ∃ ns : List Int, xs = ns.map .int ∧ Φ (.int ns.sum) | _ => False
theorem cd_sum : CallD G s s1 (rSum G.W.K) fSum := by
  intro an O σ ρ H vs ds Φ Q S hv hf q
  unfold fSum at hf
  split at hf
  · obtain ⟨v, rfl, im⟩ := im1 hv
    obtain ⟨p, xs, rfl, r, n, m⟩ := im
    obtain ⟨ns, rfl, hf⟩ := hf
    have e := ImA.ints m
    subst e
    exact ⟨p, ns, rfl, .inl (.inl r), q _ H _ hf rfl (Keep.refl H) S.inv⟩
  · exact hf.elim
def fAny : List PyData → (PyData → Prop) → Prop := fun ds Φ => match ds with | [.list xs] => ∃ bs : List Bool, xs = bs.map .bool ∧ Φ (.bool (bs.any id)) | _ => False
def fAll : List PyData → (PyData → Prop) → Prop := fun ds Φ => match ds with | [.list xs] => ∃ bs : List Bool, xs = bs.map .bool ∧ Φ (.bool (bs.all id)) | _ => False
theorem cd_any : CallD G s s1 (rAny G.W.K) fAny := by
  intro an O σ ρ H vs ds Φ Q S hv hf q
  unfold fAny at hf
  split at hf
  · obtain ⟨v, rfl, im⟩ := im1 hv
    obtain ⟨p, xs, rfl, r, n, m⟩ := im
    obtain ⟨ns, rfl, hf⟩ := hf
    have e := ImA.bools m
    subst e
    exact ⟨p, ns, rfl, .inl (.inl r), q _ H _ hf rfl (Keep.refl H) S.inv⟩
  · exact hf.elim
theorem cd_all : CallD G s s1 (rAll G.W.K) fAll := by
  intro an O σ ρ H vs ds Φ Q S hv hf q
  unfold fAll at hf
  split at hf
  · obtain ⟨v, rfl, im⟩ := im1 hv
    obtain ⟨p, xs, rfl, r, n, m⟩ := im
    obtain ⟨ns, rfl, hf⟩ := hf
    have e := ImA.bools m
    subst e
    exact ⟨p, ns, rfl, .inl (.inl r), q _ H _ hf rfl (Keep.refl H) S.inv⟩
  · exact hf.elim
def fSortI : List PyData → (PyData → Prop) → Prop := fun ds Φ => match ds with | [.list xs] => ∃ ns : List Int, xs = ns.map .int ∧ ∀ ns' : List Int, ns'.Perm ns → ns'.Pairwise (· ≤ ·) → Φ (.list (ns'.map .int)) | _ => False
theorem cd_sortI : CallD G s s1 (rSortedI G.W.K) fSortI := by
  intro an O σ ρ H vs ds Φ Q S hv hf q
  unfold fSortI at hf
  split at hf
  · obtain ⟨v, rfl, im⟩ := im1 hv
    obtain ⟨p, xs, rfl, r, n, m⟩ := im
    obtain ⟨ns, rfl, hf⟩ := hf
    have e := ImA.ints m
    subst e
    exact ⟨p, ns, rfl, .inl (.inl r), fun ns' l h1 h2 hl => q _ _ _ (hf ns' h1 h2) (S.lst hl (ImA.of_ints ns')) (Keep.new hl) (S.newI hl)⟩
  · exact hf.elim
def fGcd : List PyData → (PyData → Prop) → Prop := fun ds Φ => match ds with | [.int a, .int b] => Φ (.int ((Nat.gcd a.natAbs b.natAbs : Nat) : Int)) | _ => False
theorem cd_gcd : CallD G s s1 rGcd fGcd := by
  intro an O σ ρ H vs ds Φ Q S hv hf q
  unfold fGcd at hf
  split at hf
  · obtain ⟨v, v', rfl, h1, h2⟩ := im2 hv
    cases h1
    cases h2
    exact ⟨_, _, rfl, q _ H _ hf rfl (Keep.refl H) S.inv⟩
  · exact hf.elim
/-- f(e, ..), f a module's name for a built-in function -/
theorem de_callG {x : Str} {p : Pos} {id : String} {r : List V → Hp → VK → Prop} {f : List PyData → (PyData → Prop) → Prop} (hc : CallR X (.builtin id) r) (hf : CallD G s s1 r f) (hg : Gl X x) (hm : X.mg x = some (.builtin id)) (ha : PA X (e :: es) (upA G s1 wr))
    (hdb : (x == ("__debug__" : Str)) = false := by decide) (he : starEach (e :: es) X.env = (false, eval e X.env) :: starEach es X.env := by rfl) (hpl : (backTo pos (starEach es X.env)).any (·.1) = false := by rfl) :
    PE X (.Call (.Name x p) (e :: es) [] pos) (up G s (wCall f wr)) := pe_weak (pe_callBfun hc hg hm ha hdb he hpl) (up_call hf)

def tyD : PyData → String
  | .none => "NoneType"
  | .bool _ => "bool"
  | .int _ => "int"
  | .str _ => "str"
  | .list _ => "list"
  | .tuple _ => "tuple"
  | .dict _ => "dict"
theorem tyX {K : PySem.W.Frag} {kc : List Str → Addr} {N : Addr → Prop} {H : Hp} : ∀ {d : PyData} {v : V}, (∀ k, d ≠ .dict k) → Im ⟨K, kc⟩ N H d v → TyX K H v (.type (tyD d))
  | .none, _, _, h => by cases h; exact .base .non
  | .bool _, _, _, h => by cases h; exact .base (.bl _)
  | .int _, _, _, h => by cases h; exact .base (.int _)
  | .str _, _, _, h => by cases h; exact .base (.str _)
  | .list _, _, _, h => by obtain ⟨a, xs, rfl, r, _⟩ := h; exact .base (.lst r)
  | .tuple _, _, _, h => by
    obtain ⟨a, xs, rfl, r, _⟩ := h
    rcases r with (r | ⟨o, r⟩) | ⟨o, its, n, e, c, _⟩
    · exact .base (.tup r)
    · exact .fTuple r
    · exact .kTuple e c
  | .dict k, _, n, _ => absurd rfl (n k)
def fIsi (T : String) : PyData → (PyData → Prop) → Prop := fun d Φ => ∃ b, kitB (tyD d) T = some b ∧ (∀ k, d ≠ .dict k) ∧ Φ (.bool b)
def wIsi (Ts : String) (wa : WE) : WE := fun ρ Φ => wa ρ fun d => fIsi Ts d Φ
theorem de_isi {x T : Str} {Ts : String} {p p' : Pos} (hK : X.K = G.W.K) (hg : Gl X x) (hm : X.mg x = none) (hv : bootBuiltins x = some (.builtin "isinstance")) (ha : PE X a (up G s1 wa)) (hg2 : Gl X T) (hm2 : X.mg T = none) (hv2 : bootBuiltins T = some (.type Ts))
    (hn : x ≠ "__name__" := by decide) (hdb : (x == ("__debug__" : Str)) = false := by decide) (hn2 : T ≠ "__name__" := by decide) (hdb2 : (T == ("__debug__" : Str)) = false := by decide)
    (he : starEach [a, .Name T p'] X.env = (false, eval a X.env) :: starEach [.Name T p'] X.env := by rfl) (hpl : (backTo pos (starEach [.Name T p'] X.env)).any (·.1) = false := by rfl) :
    PE X (.Call (.Name x p) [a, .Name T p'] [] pos) (up G s (wIsi Ts wa)) :=
  pe_weak (pe_callB call_isi hg hm hv (pa_cons ha (pa_cons (pe_bltn (v := .ty Ts) hg2 hm2 hv2 rfl hn2 hdb2) pa_nil) he) hn hdb he hpl) fun σ H Q ⟨an, O, ρ, Φ, S, h, q⟩ => by
    refine ⟨an, O, ρ, _, S, h, fun v H1 d h1 im k1 i1 => ?_⟩
    obtain ⟨b, hb, nd, hp⟩ := h1
    refine ⟨v, .ty Ts, .type (tyD d), .type Ts, b, rfl, .ty Ts, ?_, kit_ty hb, q _ H1 _ hp rfl k1 i1⟩
    rw [hK]
    exact tyX nd im
end
end DL

namespace DL
open PySem PySem.Spec PyProof.Rows L2

abbrev WI := Ev → (List PyData → Prop) → Prop
/-- the iterator J yields ds wherever the sources stand -/
def SrcV (W : Wd) (J : It) (ds : List PyData) (src : List (PyData × V)) : Prop :=
  ∀ (N : Addr → Prop) (H : Hp) (i : Nat), (∀ p ∈ src, Im W N H p.1 p.2) →
    (i < ds.length → J.go i H ∧ ∀ x H', J.yld i H x H' → Keep (fun _ => False) H H' ∧ ∀ e, ds[i]? = some e → Im W N H' e x) ∧ (ds.length ≤ i → J.stop i H)
def upI (G : Gx) (s : Bool) (wi : WI) : TI := fun σ H R => ∃ (an : List (PyData × V)) (O : Nat → Option Addr) (ρ : Ev) (Φ : List PyData → Prop), Sta G an O σ H ρ ∧ wi ρ Φ ∧
  ∀ J H' ds src, Φ ds → SrcV G.W J ds src → (∀ p ∈ src, Im G.W (Nn G O s) H' p.1 p.2) → Keep G.R.M H H' → G.R.I H' → R J H'
def wSeqI (we : WE) : WI := fun ρ Φ => we ρ fun d => match d with | .list ds => Φ ds | .tuple ds => Φ ds | _ => False
section
variable {X : Cx} {G : Gx} {pos : Pos} {s s1 s2 : Bool} {e a b tg : Expr} {es : List Expr} {we wa wb wc : WE} {wr : WA} {wi : WI}
theorem pi_weak {t t' : TI} (h : PI X tg e t) (k : ∀ σ H R, t' σ H R → t σ H R) : PI X tg e t' := ⟨fun pins s σ H R I q => h.run pins s σ H R I (k σ H R q)⟩
theorem src_list {W : Wd} {ds : List PyData} {v : V} {a : Addr} (e : v = .ref a) : SrcV W (Itl W.K a) ds [(.list ds, v)] := fun N H i hp => by
  obtain ⟨p, xs, e1, r, n, m⟩ := hp _ List.mem_cons_self
  rw [e] at e1
  cases e1
  have l := ImA.length m
  have sq : SqL W.K H a xs := .inl (.inl r)
  refine ⟨fun hi => ⟨⟨xs, xs[i]'(by omega), sq, List.getElem?_eq_getElem (by omega)⟩, fun x H' y => ?_⟩, fun hi => ⟨xs, sq, by omega⟩⟩
  obtain ⟨rfl, y⟩ := y
  refine ⟨Keep.refl _, fun d hd => ?_⟩
  obtain ⟨w, hw, iw⟩ := ImA.get m hd
  have := (y xs sq).symm.trans hw
  cases this
  exact iw
theorem src_tup {W : Wd} {ds : List PyData} {v : V} {a : Addr} (e : v = .ref a) : SrcV W (Itt W.K a) ds [(.tuple ds, v)] := fun N H i hp => by
  obtain ⟨p, xs, e1, r, m⟩ := hp _ List.mem_cons_self
  rw [e] at e1
  cases e1
  have l := ImA.length m
  refine ⟨fun hi => ⟨⟨xs, xs[i]'(by omega), r, List.getElem?_eq_getElem (by omega)⟩, fun x H' y => ?_⟩, fun hi => ⟨xs, r, by omega⟩⟩
  obtain ⟨rfl, y⟩ := y
  refine ⟨Keep.refl _, fun d hd => ?_⟩
  obtain ⟨w, hw, iw⟩ := ImA.get m hd
  have := (y xs r).symm.trans hw
  cases this
  exact iw
def wListI (we : WE) : WI := fun ρ Φ => we ρ fun d => match d with | .list ds => Φ ds | _ => False
def wTupI (we : WE) : WI := fun ρ Φ => we ρ fun d => match d with | .tuple ds => Φ ds | _ => False
theorem di_list (hK : X.K = G.W.K) (h : PE X e (up G s we)) : PI X tg e (upI G s (wListI we)) := pi_weak (pi_list h) fun σ H R ⟨an, O, ρ, Φ, S, hw, q⟩ => by
  rw [hK]
  refine ⟨an, O, ρ, _, S, hw, fun v H1 d h1 im k1 i1 => ?_⟩
  cases d with
  | list ds =>
    obtain ⟨a, xs, rfl, r, n, m⟩ := id im
    refine ⟨a, rfl, ⟨xs, .inl (.inl r)⟩, q _ H1 ds _ h1 (src_list rfl) (fun p hp => ?_) k1 i1⟩
    rw [List.mem_singleton.mp hp]
    exact im
  | _ => exact h1.elim
theorem di_tup (hK : X.K = G.W.K) (h : PE X e (up G s we)) : PI X tg e (upI G s (wTupI we)) := pi_weak (pi_tup h) fun σ H R ⟨an, O, ρ, Φ, S, hw, q⟩ => by
  rw [hK]
  refine ⟨an, O, ρ, _, S, hw, fun v H1 d h1 im k1 i1 => ?_⟩
  cases d with
  | tuple ds =>
    obtain ⟨a, xs, rfl, r, m⟩ := id im
    refine ⟨a, rfl, ⟨xs, r⟩, q _ H1 ds _ h1 (src_tup rfl) (fun p hp => ?_) k1 i1⟩
    rw [List.mem_singleton.mp hp]
    exact im
  | _ => exact h1.elim
/-- lo, lo + 1, .. -/
def intsFrom (lo : Int) (n : Nat) : List PyData := (List.range n).map fun i => .int (lo + (i : Nat))
theorem intsFrom_get {lo : Int} {n i : Nat} {e : PyData} (h : (intsFrom lo n)[i]? = some e) : e = .int (lo + (i : Nat)) := by
  unfold intsFrom at h
  rw [List.getElem?_map] at h
  cases q : (List.range n)[i]? with
  | none => rw [q] at h; cases h
  | some j =>
    rw [q] at h
    have hl : i < (List.range n).length := (List.getElem?_eq_some_iff.mp q).1
    have e2 : j = i := by
      have z := (List.getElem?_eq_some_iff.mp q).2
      rw [List.getElem_range] at z
      exact z.symm
    cases h
    rw [e2]
theorem intsFrom_len {lo : Int} {n : Nat} : (intsFrom lo n).length = n := by unfold intsFrom; rw [List.length_map, List.length_range]
theorem src_rng {W : Wd} {lo : Int} {n : Nat} : SrcV W (Itr lo n) (intsFrom lo n) [] := fun N H i _ => by
  rw [intsFrom_len]
  refine ⟨fun hi => ⟨hi, fun x H' y => ?_⟩, fun hi => hi⟩
  obtain ⟨rfl, rfl⟩ := y
  exact ⟨Keep.refl _, fun e he => by rw [intsFrom_get he]; rfl⟩
def wRng1 (we : WA) : WI := fun ρ Φ => we ρ fun ds => match ds with | [.int j] => -(2 ^ 60) < j ∧ j < 2 ^ 60 ∧ Φ (intsFrom 0 j.toNat) | _ => False
def wRng2 (we : WA) : WI := fun ρ Φ => we ρ fun ds => match ds with | [.int i, .int j] => (-(2 ^ 60) < i ∧ i < 2 ^ 60 ∧ -(2 ^ 60) < j ∧ j < 2 ^ 60) ∧ Φ (intsFrom i (j - i).toNat) | _ => False
end
end DL

namespace DL
open PySem PySem.Spec PyProof.Rows L2

section
variable {X : Cx} {G : Gx} {pos : Pos} {s s1 s2 : Bool} {e a b tg : Expr} {es : List Expr} {we wa wb wc : WE} {wr : WA} {wi : WI}
theorem di_rng1 {p : Pos} (hg : Gl X "range") (hm : X.mg "range" = none) (ha : PA X [a] (upA G s1 wr)) (hs : starEach [a] X.env = [(false, eval a X.env)] := by rfl) :
    PI X tg (.Call (.Name "range" p) [a] [] pos) (upI G s (wRng1 wr)) :=
  pi_weak (pi_range1 hg hm ha hs) fun σ H R ⟨an, O, ρ, Φ, S, h, q⟩ => by
    refine ⟨an, O, ρ, _, S, h, fun vs H1 ds h1 im k1 i1 => ?_⟩
    split at h1
    · rename_i j
      obtain ⟨v, rfl, iv⟩ := im1 im
      obtain rfl : v = .int j := iv
      exact ⟨j, rfl, by omega, by omega, q _ H1 _ [] h1.2.2 src_rng (fun p hp => nomatch hp) k1 i1⟩
    · exact h1.elim
theorem di_rng2 {p : Pos} (hg : Gl X "range") (hm : X.mg "range" = none) (ha : PA X [a, b] (upA G s1 wr)) (hs : starEach [a, b] X.env = [(false, eval a X.env), (false, eval b X.env)] := by rfl) (hs2 : starEach [b] X.env = [(false, eval b X.env)] := by rfl) :
    PI X tg (.Call (.Name "range" p) [a, b] [] pos) (upI G s (wRng2 wr)) :=
  pi_weak (pi_range2 hg hm ha hs hs2) fun σ H R ⟨an, O, ρ, Φ, S, h, q⟩ => by
    refine ⟨an, O, ρ, _, S, h, fun vs H1 ds h1 im k1 i1 => ?_⟩
    split at h1
    · rename_i i j
      obtain ⟨v, v', rfl, m1, m2⟩ := im2 im
      obtain rfl : v = .int i := m1
      obtain rfl : v' = .int j := m2
      obtain ⟨⟨z1, z2, z3, z4⟩, h1⟩ := h1
      exact ⟨i, j, rfl, ⟨by omega, by omega, by omega, by omega⟩, q _ H1 _ [] h1 src_rng (fun p hp => nomatch hp) k1 i1⟩
    · exact h1.elim

def setO (O : Nat → Option Addr) (i : Nat) (p : Option Addr) : Nat → Option Addr := fun j => if j = i then p else O j
theorem setO_same {O : Nat → Option Addr} {i : Nat} {p : Option Addr} : setO O i p i = p := by unfold setO; rw [if_pos rfl]
theorem setO_ne {O : Nat → Option Addr} {i j : Nat} {p : Option Addr} (h : j ≠ i) : setO O i p j = O j := by unfold setO; rw [if_neg h]
variable {an : List (PyData × V)} {O : Nat → Option Addr} {σ : L2.St} {H H' : Hp} {ρ : Ev}
/-- less to be avoided -/
theorem Sta.sub {O' : Nat → Option Addr} (S : Sta G an O σ H ρ) (h : ∀ i p, O' i = some p → O i = some p) {d : PyData} {v : V} (im : Im G.W (Nv G.A O) H d v) : Im G.W (Nv G.A O') H d v :=
  Im.avoid (fun a o _ z => z.elim .inl fun ⟨i, e⟩ => .inr ⟨i, h i a e⟩) d v im
theorem Sta.subA {O' : Nat → Option Addr} (S : Sta G an O σ H ρ) (h : ∀ i p, O' i = some p → O i = some p) {d : List PyData} {v : List V} (im : ImA G.W (Nv G.A O) H d v) : ImA G.W (Nv G.A O') H d v :=
  ImA.avoid (fun a o _ z => z.elim .inl fun ⟨i, e⟩ => .inr ⟨i, h i a e⟩) d v im
/-- slot i gets a value -/
theorem Sta.setD (S : Sta G an O σ H ρ) (i : Nat) {d : PyData} {v : V} (im : Im G.W (Nv G.A O) H d v) : Sta G an (setO O i none) (σ.set i (some v)) H (put ρ i (.d d)) := by
  have hs : ∀ j p, setO O i none j = some p → O j = some p ∧ j ≠ i := fun j p e => by
    by_cases z : j = i
    · rw [z, setO_same] at e; cases e
    · rw [setO_ne z] at e; exact ⟨e, z⟩
  have hsub : ∀ j p, setO O i none j = some p → O j = some p := fun j p e => (hs j p e).1
  refine ⟨S.inv, S.kp, S.al, S.ra, fun j p e => S.fr j p (hsub j p e), fun j k p e1 e2 => S.oi j k p (hsub j p e1) (hsub k p e2), ?_, fun j p e => ?_, by rw [List.length_set, put_len, S.len], fun j => ?_, fun p hp => S.sub hsub (S.as p hp)⟩
  · obtain ⟨b, hb⟩ := S.ob
    refine ⟨b, fun j hj => ?_⟩
    by_cases z : j = i
    · rw [z, setO_same]
    · rw [setO_ne z]; exact hb j hj
  · obtain ⟨e1, z⟩ := hs j p e
    rw [put_len, nth_put_ne z]
    exact S.oe j p e1
  · by_cases z : j = i
    · rw [z]
      by_cases hl : i < ρ.length
      · rw [nth_put_same hl]
        refine ⟨v, ?_, S.sub hsub im⟩
        rw [List.getElem?_set_self (by rw [S.len]; exact hl)]
      · rw [nth_out (by rw [put_len]; omega)]
        trivial
    · rw [nth_put_ne z]
      have en := S.en j
      cases hx : nth ρ j with
      | u => trivial
      | d x =>
        rw [hx] at en
        obtain ⟨w, e1, m⟩ := en
        exact ⟨w, by rw [List.getElem?_set_ne (Ne.symm z)]; exact e1, S.sub hsub m⟩
      | o xs =>
        rw [hx] at en
        obtain ⟨p, vs, e1, e2, e3, m⟩ := en
        exact ⟨p, vs, by rw [List.getElem?_set_ne (Ne.symm z)]; exact e1, by rw [setO_ne z]; exact e2, e3, S.subA hsub m⟩
      | m =>
        rw [hx] at en
        show (σ.set i (some v))[j]? = _
        rw [List.getElem?_set_ne (Ne.symm z)]
        exact en
      | s ns =>
        rw [hx] at en
        obtain ⟨p, e1, e2⟩ := en
        exact ⟨p, by rw [List.getElem?_set_ne (Ne.symm z)]; exact e1, e2⟩
/-- a new object's address joins the avoided ones at the place j -/
theorem Sta.own (S : Sta G an O σ H ρ) {p : Addr} {vs : List V} (hp : H p = none) (hH : H' p = some (.lst vs)) (k : Keep G.R.M H H') (hi : G.R.I H') (j : Nat) (hj : ρ.length ≤ j) : Sta G an (setO O j (some p)) σ H' ρ := by
  have hO : ∀ xs, nth ρ j ≠ .o xs := fun xs z => by rw [nth_out hj] at z; cases z
  have S' := S.keep k hi
  have np : ∀ i, O i ≠ some p := fun i e => by
    obtain ⟨_, xs, q⟩ := S.fr i p e
    rw [hp] at q
    cases q
  -- data of H do not lean on p
  have av : ∀ {d : PyData} {v : V}, Im G.W (Nv G.A O) H d v → Im G.W (Nv G.A (setO O j (some p))) H d v := fun {d v} m => Im.avoid (fun a o e z => by
    rcases z with z | ⟨i, z⟩
    · exact .inl z
    · by_cases q : i = j
      · rw [q, setO_same] at z
        cases z
        rw [hp] at e
        cases e
      · rw [setO_ne q] at z
        exact .inr ⟨i, z⟩) d v m
  have avA : ∀ {d : List PyData} {v : List V}, ImA G.W (Nv G.A O) H d v → ImA G.W (Nv G.A (setO O j (some p))) H d v := fun {d v} m => ImA.avoid (fun a o e z => by
    rcases z with z | ⟨i, z⟩
    · exact .inl z
    · by_cases q : i = j
      · rw [q, setO_same] at z
        cases z
        rw [hp] at e
        cases e
      · rw [setO_ne q] at z
        exact .inr ⟨i, z⟩) d v m
  have kN : Keep (Nv G.A (setO O j (some p))) H H' := k.mono fun a m => .inl (S.ra a m)
  refine ⟨hi, S'.kp, S.al, S.ra, fun i q e => ?_, fun i l q e1 e2 => ?_, ?_, fun i q e => ?_, S.len, fun i => ?_, fun q hq => Im.keep kN _ _ (av (S.as q hq))⟩
  · by_cases z : i = j
    · rw [z, setO_same] at e
      cases e
      exact ⟨S.fresh0 hp, vs, hH⟩
    · rw [setO_ne z] at e
      exact S'.fr i q e
  · by_cases z1 : i = j
    · by_cases z2 : l = j
      · rw [z1, z2]
      · rw [z1, setO_same] at e1
        rw [setO_ne z2] at e2
        cases e1
        exact absurd e2 (np l)
    · rw [setO_ne z1] at e1
      by_cases z2 : l = j
      · rw [z2, setO_same] at e2
        cases e2
        exact absurd e1 (np i)
      · rw [setO_ne z2] at e2
        exact S.oi i l q e1 e2
  · obtain ⟨b, hb⟩ := S.ob
    refine ⟨max b (j + 1), fun i hi => ?_⟩
    have h1 : i ≠ j := by omega
    rw [setO_ne h1]
    exact hb i (by omega)
  · by_cases z : i = j
    · exact .inl (by omega)
    · rw [setO_ne z] at e
      exact S.oe i q e
  · have en := S.en i
    cases hx : nth ρ i with
    | u => trivial
    | d x =>
      rw [hx] at en
      obtain ⟨w, e1, m⟩ := en
      exact ⟨w, e1, Im.keep kN _ _ (av m)⟩
    | o xs =>
      rw [hx] at en
      obtain ⟨q, ws, e1, e2, e3, m⟩ := en
      have z : i ≠ j := fun z => hO xs (z ▸ hx)
      refine ⟨q, ws, e1, by rw [setO_ne z]; exact e2, k.ob q _ e3 fun m => ?_, ImA.keep kN _ _ (avA m)⟩
      obtain ⟨o, y⟩ := S.al q (S.ra q m)
      rw [(S.fr i q e2).1] at y
      cases y
    | m => rw [hx] at en; exact en
    | s ns =>
      rw [hx] at en
      obtain ⟨q, e1, e2⟩ := en
      exact ⟨q, e1, e2.keep k⟩
/-- slot i takes a new list -/
theorem Sta.take (S : Sta G an O σ H ρ) {p : Addr} {j : Nat} {ws : List V} {ds : List PyData} (i : Nat) (hj : ρ.length ≤ j) (hO : O j = some p) (hH : H p = some (.lst ws))
    (im : ImA G.W (Nv G.A O) H ds ws) (hi : i < ρ.length) : Sta G an (setO (setO O j none) i (some p)) (σ.set i (some (.ref p))) H (put ρ i (.o ds)) := by
  have hij : i ≠ j := by omega
  have hs : ∀ l q, setO (setO O j none) i (some p) l = some q → (l = i ∧ q = p) ∨ (l ≠ i ∧ l ≠ j ∧ O l = some q) := fun l q e => by
    by_cases z : l = i
    · rw [z, setO_same] at e
      cases e
      exact .inl ⟨z, rfl⟩
    · rw [setO_ne z] at e
      by_cases y : l = j
      · rw [y, setO_same] at e; cases e
      · rw [setO_ne y] at e; exact .inr ⟨z, y, e⟩
  have sub : ∀ a, Nv G.A (setO (setO O j none) i (some p)) a → Nv G.A O a := fun a z => by
    rcases z with z | ⟨l, z⟩
    · exact .inl z
    · rcases hs l a z with ⟨_, y⟩ | ⟨_, _, y⟩
      · rw [y]; exact .inr ⟨j, hO⟩
      · exact .inr ⟨l, y⟩
  refine ⟨S.inv, S.kp, S.al, S.ra, fun l q e => ?_, fun l m q e1 e2 => ?_, ?_, fun l q e => ?_, by rw [List.length_set, put_len, S.len], fun l => ?_, fun q hq => Im.avoid (fun a o _ z => sub a z) _ _ (S.as q hq)⟩
  · rcases hs l q e with ⟨_, y⟩ | ⟨_, _, y⟩
    · rw [y]; exact S.fr j p hO
    · exact S.fr l q y
  · rcases hs l q e1 with ⟨z1, y1⟩ | ⟨z1, w1, y1⟩
    · rcases hs m q e2 with ⟨z2, y2⟩ | ⟨z2, w2, y2⟩
      · rw [z1, z2]
      · rw [y1] at y2
        exact absurd (S.oi m j p y2 hO) w2
    · rcases hs m q e2 with ⟨z2, y2⟩ | ⟨z2, w2, y2⟩
      · rw [y2] at y1
        exact absurd (S.oi l j p y1 hO) w1
      · exact S.oi l m q y1 y2
  · obtain ⟨b, hb⟩ := S.ob
    refine ⟨max b (i + 1), fun l hl => ?_⟩
    rw [setO_ne (by omega)]
    by_cases y : l = j
    · rw [y, setO_same]
    · rw [setO_ne y]; exact hb l (by omega)
  · rw [put_len]
    rcases hs l q e with ⟨z, y⟩ | ⟨z, w, y⟩
    · exact .inr ⟨ds, by rw [z, nth_put_same hi]⟩
    · rw [nth_put_ne z]; exact S.oe l q y
  · by_cases z : l = i
    · rw [z, nth_put_same hi]
      exact ⟨p, ws, by rw [List.getElem?_set_self (by rw [S.len]; exact hi)], setO_same, hH, ImA.avoid (fun a o _ z => sub a z) _ _ im⟩
    · rw [nth_put_ne z]
      have en := S.en l
      cases hx : nth ρ l with
      | u => trivial
      | d x =>
        rw [hx] at en
        obtain ⟨w, e1, m⟩ := en
        exact ⟨w, by rw [List.getElem?_set_ne (Ne.symm z)]; exact e1, Im.avoid (fun a o _ z => sub a z) _ _ m⟩
      | o xs =>
        rw [hx] at en
        obtain ⟨q, us, e1, e2, e3, m⟩ := en
        have lj : l ≠ j := fun y => by
          rw [nth_out (by omega)] at hx; cases hx
        exact ⟨q, us, by rw [List.getElem?_set_ne (Ne.symm z)]; exact e1, by rw [setO_ne z, setO_ne lj]; exact e2, e3, ImA.avoid (fun a o _ z => sub a z) _ _ m⟩
      | m =>
        rw [hx] at en
        show (σ.set i (some (V.ref p)))[l]? = _
        rw [List.getElem?_set_ne (Ne.symm z)]
        exact en
      | s ns =>
        rw [hx] at en
        obtain ⟨q, e1, e2⟩ := en
        exact ⟨q, by rw [List.getElem?_set_ne (Ne.symm z)]; exact e1, e2⟩
/-- slot i gets a new list of one's own -/
theorem Sta.setN (S : Sta G an O σ H ρ) {p : Addr} {vs : List V} {ds : List PyData} (hp : H p = none) (hH : H' p = some (.lst vs)) (k : Keep G.R.M H H') (hi : G.R.I H') (i : Nat)
    (im : ImA G.W (fun a => Nv G.A O a ∨ a = p) H' ds vs) : ∃ O', Sta G an O' (σ.set i (some (.ref p))) H' (put ρ i (.o ds)) := by
  by_cases hl : i < ρ.length
  · obtain ⟨bd, hbd⟩ := S.ob
    have hj := hbd _ (Nat.le_max_left bd ρ.length)
    have S1 := S.own hp hH k hi (max bd ρ.length) (Nat.le_max_right _ _)
    refine ⟨_, S1.take i (Nat.le_max_right _ _) setO_same hH (ImA.avoid (fun a o _ z => ?_) _ _ im) hl⟩
    rcases z with z | ⟨l, z⟩
    · exact .inl (.inl z)
    · by_cases y : l = max bd ρ.length
      · rw [y, setO_same] at z; cases z; exact .inr rfl
      · rw [setO_ne y] at z; exact .inl (.inr ⟨l, z⟩)
  · have e1 : put ρ i (.o ds) = ρ := put_out (by omega)
    have e2 : σ.set i (some (V.ref p)) = σ := by
      refine List.ext_getElem? fun j => ?_
      by_cases z : i = j
      · rw [← z, List.getElem?_eq_none (by rw [List.length_set, S.len]; omega), List.getElem?_eq_none (by rw [S.len]; omega)]
      · rw [List.getElem?_set_ne z]
    rw [e1, e2]
    exact ⟨O, S.keep k hi⟩
/-- a list of one's own becomes a value -/
theorem Sta.frz (S : Sta G an O σ H ρ) {i : Nat} {ds : List PyData} (h : nth ρ i = .o ds) : Sta G an (setO O i none) σ H (put ρ i (.d (.list ds))) := by
  have hs : ∀ j p, setO O i none j = some p → O j = some p := fun j p e => by
    by_cases z : j = i
    · rw [z, setO_same] at e; cases e
    · rw [setO_ne z] at e; exact e
  have en := S.en i
  rw [h] at en
  obtain ⟨p, vs, e1, e2, e3, m⟩ := en
  have hl : i < ρ.length := Nat.lt_of_not_le fun z => by rw [nth_out z] at h; cases h
  have im : Im G.W (Nv G.A (setO O i none)) H (.list ds) (.ref p) := ⟨p, vs, rfl, e3, fun z => by
    rcases z with z | ⟨l, z⟩
    · obtain ⟨o, y⟩ := S.al p z
      rw [(S.fr i p e2).1] at y
      cases y
    · by_cases q : l = i
      · rw [q, setO_same] at z; cases z
      · rw [setO_ne q] at z
        exact q (S.oi l i p z e2), S.subA hs m⟩
  refine ⟨S.inv, S.kp, S.al, S.ra, fun j q e => S.fr j q (hs j q e), fun j l q x y => S.oi j l q (hs j q x) (hs l q y), ?_, fun j q e => ?_, by rw [put_len, S.len], fun j => ?_, fun q hq => S.sub hs (S.as q hq)⟩
  · obtain ⟨b, hb⟩ := S.ob
    refine ⟨b, fun j hj => ?_⟩
    by_cases z : j = i
    · rw [z, setO_same]
    · rw [setO_ne z]; exact hb j hj
  · have z : j ≠ i := fun z => by rw [z, setO_same] at e; cases e
    rw [put_len, nth_put_ne z]
    exact S.oe j q (hs j q e)
  · by_cases z : j = i
    · rw [z, nth_put_same hl]
      exact ⟨_, e1, im⟩
    · rw [nth_put_ne z]
      have en := S.en j
      cases hx : nth ρ j with
      | u => trivial
      | d x =>
        rw [hx] at en
        obtain ⟨w, e1, m⟩ := en
        exact ⟨w, e1, S.sub hs m⟩
      | o xs =>
        rw [hx] at en
        obtain ⟨q, ws, x1, x2, x3, m⟩ := en
        exact ⟨q, ws, x1, by rw [setO_ne z]; exact x2, x3, S.subA hs m⟩
      | m => rw [hx] at en; exact en
      | s ns => rw [hx] at en; exact en
/-- the list in slot i changes -/
theorem Sta.chg (S : Sta G an O σ H ρ) {i : Nat} {ds ds' : List PyData} {p : Addr} {vs vs' : List V} (h : nth ρ i = .o ds) (hO : O i = some p) (hσ : σ[i]? = some (some (.ref p))) (hH : H p = some (.lst vs)) (im : ImA G.W (Nv G.A O) H ds' vs') :
    Sta G an O σ (upd H p (.lst vs')) (put ρ i (.o ds')) := by
  have nM : ¬ G.R.M p := fun m => by
    obtain ⟨o, y⟩ := S.al p (S.ra p m)
    rw [(S.fr i p hO).1] at y
    cases y
  have n0 : ∀ a o, G.H0 a = some o → a ≠ p := fun a o e z => by rw [z, (S.fr i p hO).1] at e; cases e
  have kN : Keep (Nv G.A O) H (upd H p (.lst vs')) := Keep.set hH (.inr ⟨i, hO⟩)
  have hl : i < ρ.length := Nat.lt_of_not_le fun z => by rw [nth_out z] at h; cases h
  refine ⟨G.R.st _ _ S.inv fun a o m e => by rw [upd_ne (show a ≠ p from fun z => nM (by rw [← z]; exact m))]; exact e, ⟨fun a o e n => ?_, fun a xs e => ?_, fun a o u e => ?_⟩, S.al, S.ra, fun j q e => ⟨(S.fr j q e).1, ?_⟩, S.oi, S.ob, fun j q e => ?_, by rw [put_len, S.len], fun j => ?_, fun q hq => Im.keep kN _ _ (S.as q hq)⟩
  · rw [upd_ne (n0 a o e)]; exact S.kp.ob a o e n
  · rw [upd_ne (n0 a _ e)]; exact S.kp.tp a xs e
  · rw [upd_ne (n0 a _ e)]; exact S.kp.fz a o u e
  · by_cases z : q = p
    · exact ⟨vs', by rw [z, upd_same]⟩
    · obtain ⟨xs, y⟩ := (S.fr j q e).2
      exact ⟨xs, by rw [upd_ne z]; exact y⟩
  · rw [put_len]
    by_cases z : j = i
    · exact .inr ⟨ds', by rw [z, nth_put_same hl]⟩
    · rw [nth_put_ne z]; exact S.oe j q e
  · by_cases z : j = i
    · rw [z, nth_put_same hl]
      exact ⟨p, vs', hσ, hO, upd_same, ImA.keep kN _ _ im⟩
    · rw [nth_put_ne z]
      have en := S.en j
      cases hx : nth ρ j with
      | u => trivial
      | d x =>
        rw [hx] at en
        obtain ⟨w, e1, m⟩ := en
        exact ⟨w, e1, Im.keep kN _ _ m⟩
      | o xs =>
        rw [hx] at en
        obtain ⟨q, ws, x1, x2, x3, m⟩ := en
        have qp : q ≠ p := fun y => z (S.oi j i p (y ▸ x2) hO)
        exact ⟨q, ws, x1, x2, by rw [upd_ne qp]; exact x3, ImA.keep kN _ _ m⟩
      | m => rw [hx] at en; exact en
      | s ns =>
        rw [hx] at en
        obtain ⟨q, x1, x2⟩ := en
        exact ⟨q, x1, x2.keep kN⟩
end
end DL

namespace DL
open PySem PySem.Spec PyProof.Rows L2

abbrev WG := PyData → Ev → (Ev → Prop) → Prop
abbrev WGs := List PyData → Ev → (Ev → Prop) → Prop
def OnlyAt (is : List Nat) (σ σ' : L2.St) : Prop := ∀ vs : List Nat, (∀ i ∈ is, i ∈ vs) → wipe σ' vs = wipe σ vs
def Less (is : List Nat) (O O' : Nat → Option Addr) : Prop := ∀ i p, O i = some p → i ∈ is ∨ O' i = some p
def upG (G : Gx) (is : List Nat) (g : WG) : TG := fun v σ H Q => ∃ (an : List (PyData × V)) (O : Nat → Option Addr) (ρ : Ev) (d : PyData) (Φ : Ev → Prop), Sta G an O σ H ρ ∧ Im G.W (Nv G.A O) H d v ∧ g d ρ Φ ∧
  ∀ O' σ' ρ', Sta G an O' σ' H ρ' → Φ ρ' → OnlyAt is σ σ' → Less is O O' → Q σ' H
def upGs (G : Gx) (is : List Nat) (g : WGs) : TGs := fun vs σ H Q => ∃ (an : List (PyData × V)) (O : Nat → Option Addr) (ρ : Ev) (ds : List PyData) (Φ : Ev → Prop), Sta G an O σ H ρ ∧ ImA G.W (Nv G.A O) H ds vs ∧ g ds ρ Φ ∧
  ∀ O' σ' ρ', Sta G an O' σ' H ρ' → Φ ρ' → OnlyAt is σ σ' → Less is O O' → Q σ' H
def gN (i : Nat) : WG := fun d ρ Φ => i < ρ.length ∧ Φ (put ρ i (.d d))
def gsNil : WGs := fun ds ρ Φ => match ds with | [] => Φ ρ | _ => False
def gsCons (g : WG) (r : WGs) : WGs := fun ds ρ Φ => match ds with | d :: ds => g d ρ fun ρ' => r ds ρ' Φ | [] => False
def gT (n : Nat) (g : WGs) : WG := fun d ρ Φ => match d with | .tuple ds => ds.length = n ∧ g ds ρ Φ | _ => False
section
variable {X : Cx} {G : Gx} {pos : Pos} {s s1 s2 : Bool} {e a b tg : Expr} {es : List Expr} {we wa wb wc : WE} {wr : WA} {wi : WI} {g : WG} {gs : WGs}
theorem wipe_comm (σ : L2.St) (i : Nat) (x : Option V) : ∀ vs : List Nat, i ∉ vs → wipe (σ.set i x) vs = (wipe σ vs).set i x
  | [], _ => rfl
  | v :: vs, h => by
    have h1 : i ≠ v := fun z => h (by rw [z]; exact List.mem_cons_self)
    have h2 : i ∉ vs := fun z => h (List.mem_cons_of_mem _ z)
    show (wipe (σ.set i x) vs).set v none = ((wipe σ vs).set v none).set i x
    rw [wipe_comm σ i x vs h2, List.set_comm _ _ h1]
theorem set_wipe (σ : L2.St) (i : Nat) (x : Option V) : ∀ vs : List Nat, i ∈ vs → wipe (σ.set i x) vs = wipe σ vs
  | [], h => by cases h
  | v :: vs, h => by
    show (wipe (σ.set i x) vs).set v none = (wipe σ vs).set v none
    by_cases q : i ∈ vs
    · rw [set_wipe σ i x vs q]
    · have e : i = v := by
        rcases List.mem_cons.mp h with z | z
        · exact z
        · exact absurd z q
      rw [wipe_comm σ i x vs q, e, List.set_set]
theorem onlyAt_set (i : Nat) (x : Option V) {σ : L2.St} : OnlyAt [i] σ (σ.set i x) := fun vs h => set_wipe σ i x vs (h i List.mem_cons_self)
theorem pg_weak {t t' : TG} (h : PG X tg t) (k : ∀ v σ H Q, t' v σ H Q → t v σ H Q) : PG X tg t' := ⟨fun pins s σ H v u Q I r q => h.run pins s σ H v u Q I r (k v σ H Q q)⟩
theorem pgs_weak {t t' : TGs} (h : PGs X es t) (k : ∀ v σ H Q, t' v σ H Q → t v σ H Q) : PGs X es t' := ⟨fun pins s σ H v u Q I r q => h.run pins s σ H v u Q I r (k v σ H Q q)⟩
theorem dg_name (i : Nat) {x : Str} (hN : X.N.Nodup) (hi : X.N[i]? = some x := by rfl) (hx : Loc X.env.scope x := by first | exact Or.inl rfl | exact Or.inr rfl) (hf : X.fn x = true ∨ X.env.scope.names.lookup x = some .local := by first | exact .inl rfl | exact .inr rfl | assumption) :
    PG X (.Name x pos) (upG G [i] (gN i)) := pg_weak (pg_name hN hi hx hf) fun v σ H Q ⟨an, O, ρ, d, Φ, S, im, h, q⟩ => q _ _ _ (S.setD i im) h.2 (onlyAt_set i _) (fun j p e => by
  by_cases z : j = i
  · exact .inl (by rw [z]; exact List.mem_cons_self)
  · exact .inr (by rw [setO_ne z]; exact e))
theorem dgs_nil : PGs X [] (upGs G [] gsNil) := pgs_weak pgs_nil fun vs σ H Q ⟨an, O, ρ, ds, Φ, S, im, h, q⟩ => by
  unfold gsNil at h
  split at h
  · cases im
    exact ⟨rfl, q _ _ _ S h (fun _ _ => rfl) fun _ _ e => .inr e⟩
  · exact h.elim
theorem Sta.anm {an an' : List (PyData × V)} {O : Nat → Option Addr} {σ : L2.St} {H : Hp} {ρ : Ev} (S : Sta G an O σ H ρ) (h : ∀ p ∈ an', p ∈ an) : Sta G an' O σ H ρ :=
  ⟨S.inv, S.kp, S.al, S.ra, S.fr, S.oi, S.ob, S.oe, S.len, S.en, fun p hp => S.as p (h p hp)⟩
theorem Sta.ana {an : List (PyData × V)} {O : Nat → Option Addr} {σ : L2.St} {H : Hp} {ρ : Ev} (S : Sta G an O σ H ρ) {src : List (PyData × V)} (h : ∀ p ∈ src, Im G.W (Nv G.A O) H p.1 p.2) : Sta G (src ++ an) O σ H ρ :=
  ⟨S.inv, S.kp, S.al, S.ra, S.fr, S.oi, S.ob, S.oe, S.len, S.en, fun p hp => (List.mem_append.mp hp).elim (h p) (S.as p)⟩
theorem ImA.zipm {W : Wd} {N : Addr → Prop} {H : Hp} : ∀ {ds : List PyData} {vs : List V}, ImA W N H ds vs → ∀ p ∈ ds.zip vs, Im W N H p.1 p.2
  | [], _, h, p, hp => by simp at hp
  | d :: ds, _, h, p, hp => by
    obtain ⟨v, r, rfl, q1, q2⟩ := h
    rcases List.mem_cons.mp hp with e | hp
    · rw [e]; exact q1
    · exact ImA.zipm q2 p hp
theorem ImA.ofzip {W : Wd} {N : Addr → Prop} {H : Hp} : ∀ {ds : List PyData} {vs : List V}, vs.length = ds.length → (∀ p ∈ ds.zip vs, Im W N H p.1 p.2) → ImA W N H ds vs
  | [], [], _, h => rfl
  | d :: ds, v :: vs, l, h => ⟨v, vs, rfl, h (d, v) List.mem_cons_self, ImA.ofzip (by simpa using l) fun p hp => h p (List.mem_cons_of_mem _ hp)⟩
theorem dgs_cons {i1 i2 : List Nat} (h1 : PG X e (upG G i1 g)) (h2 : PGs X es (upGs G i2 gs)) (hs : (assignEach (e :: es) X.env).map (·.2) = assign e X.env :: (assignEach es X.env).map (·.2) := by rfl) : PGs X (e :: es) (upGs G (i1 ++ i2) (gsCons g gs)) :=
  pgs_weak (pgs_cons h1 h2 hs) fun vs σ H Q ⟨an, O, ρ, ds, Φ, S, im, h, q⟩ => by
    cases ds with
    | nil => exact h.elim
    | cons d ds =>
      obtain ⟨v, r, rfl, q1, q2⟩ := im
      refine ⟨v, r, rfl, ds.zip r ++ an, O, ρ, d, _, S.ana (ImA.zipm q2), q1, h, fun O' σ' ρ' S' h' w1 x1 => ?_⟩
      refine ⟨an, O', ρ', ds, Φ, S'.anm fun p hp => List.mem_append_right _ hp, ImA.ofzip (ImA.length q2) fun p hp => S'.as p (List.mem_append_left _ hp), h', fun O2 σ2 ρ2 S2 h2 w2 x2 => q O2 σ2 ρ2 S2 h2 (fun vs hv => ?_) fun i p e => ?_⟩
      · rw [w2 vs fun i hi => hv i (List.mem_append_right _ hi), w1 vs fun i hi => hv i (List.mem_append_left _ hi)]
      · rcases x1 i p e with z | z
        · exact .inl (List.mem_append_left _ z)
        · exact (x2 i p z).elim (fun y => .inl (List.mem_append_right _ y)) .inr
theorem dg_tup {k n : Nat} {is : List Nat} (hK : X.K = G.W.K) (hc : X.calm = true) (h : PGs X es (upGs G is gs)) (hn : (assignEach es X.env).length = n := by rfl) (hst : (assignEach es X.env).findIdx? (·.1) = none := by rfl) : PG X (.Tuple es k pos) (upG G is (gT n gs)) :=
  pg_weak (pg_tup hc h hn hst) fun v σ H Q ⟨an, O, ρ, d, Φ, S, im, h, q⟩ => by
    unfold gT at h
    split at h
    · obtain ⟨a, xs, rfl, r, m⟩ := im
      exact ⟨a, xs, rfl, by rw [hK]; exact r, by rw [ImA.length m]; exact h.1, an, O, ρ, _, Φ, S, m, h.2, q⟩
    · exact h.elim

def wSq (w1 w2 : WS) : WS := fun W ρ => w1 { W with nx := fun ρ' => w2 W ρ' } ρ
def wNx : WS := fun W ρ => W.nx ρ
def wRet (we : WE) : WS := fun W ρ => we ρ W.rt
def wIf (wt : WT) (w1 w2 : WS) : WS := fun W ρ => wt ρ fun c => if c = true then w1 W ρ else w2 W ρ
def wAs (we : WE) (g : WG) : WS := fun W ρ => we ρ fun d => g d ρ W.nx
def wFrz (i : Nat) (ws : WS) : WS := fun W ρ => match nth ρ i with | .o ds => ws W (put ρ i (.d (.list ds))) | _ => ws W ρ
variable {st : Stmt} {rest sts : List Stmt} {w1 w2 ws : WS} {wt : WT}
theorem dss_nil : PSs X [] (upS G wNx) := pss_weak pss_nil fun D σ H ⟨an, O, ρ, W, S, h, q1, _⟩ => q1 O σ H ρ S h
theorem up_seq (D : Ends) (σ : L2.St) (H : Hp) (h : upS G (wSq w1 w2) D σ H) : tSeq (upS G w1) (upS G w2) D σ H := by
  obtain ⟨an, O, ρ, W, S, h, q1, q2, q3, q4⟩ := h
  exact ⟨an, O, ρ, _, S, h, fun O' σ' H' ρ' S' h' => ⟨an, O', ρ', W, S', h', q1, q2, q3, q4⟩, q2, q3, q4⟩
theorem dss_cons (h1 : PS X st (upS G w1)) (h2 : PSs X rest (upS G w2)) : PSs X (st :: rest) (upS G (wSq w1 w2)) := pss_weak (pss_cons h1 h2) up_seq
theorem dss_one (h1 : PS X st (upS G w1)) : PSs X [st] (upS G w1) := pss_one h1
theorem ds_ret (h : PE X e (up G s we)) : PS X (.Return (some e) pos) (upS G (wRet we)) := ps_weak (ps_ret h) fun D σ H ⟨an, O, ρ, W, S, h, q1, q2, q3, q4⟩ =>
  ⟨an, O, ρ, W.rt, S, h, fun v H' d p im k i => q2 v H' d p (loose im) (S.kp.trans k) i⟩
theorem ds_pass : PS X (.Pass pos) (upS G wNx) := ps_weak ps_pass fun D σ H ⟨an, O, ρ, W, S, h, q1, _⟩ => q1 O σ H ρ S h
theorem ds_continue : PS X (.Continue pos) (upS G (fun W ρ => W.ct ρ)) := ps_weak ps_continue fun D σ H ⟨an, O, ρ, W, S, h, q1, q2, q3, q4⟩ => q4 O σ H ρ S h
theorem ds_never : PS X st (upS G (fun _ _ => False)) := ps_weak ps_never fun D σ H ⟨an, O, ρ, W, S, h, _⟩ => h
theorem ds_if {c : Expr} (hc : PT X c (upT G wt)) (ha : PSs X sts (upS G w1)) (hb : PSs X rest (upS G w2)) : PS X (.If c sts rest pos) (upS G (wIf wt w1 w2)) := ps_weak (ps_if hc ha hb) fun D σ H ⟨an, O, ρ, W, S, h, q1, q2, q3, q4⟩ => by
  refine ⟨an, O, ρ, _, S, h, fun b H1 hb k i => ?_⟩
  cases b with
  | true =>
    rw [if_pos rfl] at hb ⊢
    exact ⟨an, O, ρ, W, S.keep k i, hb, q1, q2, q3, q4⟩
  | false =>
    rw [if_neg Bool.false_ne_true] at hb ⊢
    exact ⟨an, O, ρ, W, S.keep k i, hb, q1, q2, q3, q4⟩
theorem up_asg {te : TE} {is : List Nat} (h : ∀ σ H Q, up G true we σ H Q → te σ H Q) (D : Ends) (σ : L2.St) (H : Hp) (hq : upS G (wAs we g) D σ H) : tAsg te (upG G is g) D σ H := by
  obtain ⟨an, O, ρ, W, S, hw, q1, q2, q3, q4⟩ := hq
  refine h σ H _ ⟨an, O, ρ, _, S, hw, fun v H1 d h1 im k1 i1 => ?_⟩
  exact ⟨an, O, ρ, d, W.nx, S.keep k1 i1, im, h1, fun O' σ' ρ' S' h' _ _ => q1 O' σ' H1 ρ' S' h'⟩
theorem ds_asg {is : List Nat} (he : PE X e (up G true we)) (hg : PG X tg (upG G is g)) (hs : swapsWithSole [tg] e pos.line X.env = pure false := by rfl) (hw : swappedStores [tg] e X.env = pure none := by rfl) (h1 : (assignEach [tg] X.env).map (·.2) = [assign tg X.env] := by rfl) :
    PS X (.Assign [tg] e pos) (upS G (wAs we g)) := ps_weak (ps_asg he hg hs hw h1) (up_asg fun _ _ _ q => q)
/-- name = value -/
def wSet (i : Nat) (we : WE) : WS := fun W ρ => we ρ fun d => W.nx (put ρ i (.d d))
theorem up_set {te : TE} {i : Nat} (h : ∀ σ H Q, up G true we σ H Q → te σ H Q) (D : Ends) (σ : L2.St) (H : Hp) (hq : upS G (wSet i we) D σ H) : tAsg te (gName i) D σ H := by
  obtain ⟨an, O, ρ, W, S, hw, q1, q2, q3, q4⟩ := hq
  exact h σ H _ ⟨an, O, ρ, _, S, hw, fun v H1 d h1 im k1 i1 => q1 _ _ _ _ ((S.keep k1 i1).setD i im) h1⟩
theorem ds_set (i : Nat) {x : Str} {pos' : Pos} (hN : X.N.Nodup) (he : PE X e (up G true we)) (hi : X.N[i]? = some x := by rfl) (hx : Loc X.env.scope x := by first | exact Or.inl rfl | exact Or.inr rfl) (hs : swapsWith e (some (.Name x pos')) pos.line X.env = pure false := by rfl)
    (hf : X.fn x = true ∨ X.env.scope.names.lookup x = some .local := by first | exact .inl rfl | exact .inr rfl | assumption) : PS X (.Assign [.Name x pos'] e pos) (upS G (wSet i we)) :=
  ps_weak (ps_set hN hi hx he hs hf) (up_set fun _ _ _ q => q)
/-- a ghost: the list of one's own in slot i becomes a value -/
theorem dss_frz (i : Nat) (h : PSs X sts (upS G ws)) : PSs X sts (upS G (wFrz i ws)) := pss_weak h fun D σ H ⟨an, O, ρ, W, S, hw, q1, q2, q3, q4⟩ => by
  unfold wFrz at hw
  split at hw
  · rename_i ds hx
    exact ⟨an, _, _, W, S.frz hx, hw, q1, q2, q3, q4⟩
  · exact ⟨an, O, ρ, W, S, hw, q1, q2, q3, q4⟩

abbrev WF := Ev → (List PyData → Prop) → Prop
def upF (G : Gx) (wf : WF) : TE := fun σ H Q => ∃ (an : List (PyData × V)) (O : Nat → Option Addr) (ρ : Ev) (Φ : List PyData → Prop), Sta G an O σ H ρ ∧ wf ρ Φ ∧
  ∀ p H' ds vs, Φ ds → H p = none → H' p = some (.lst vs) → ImA G.W (fun a => Nv G.A O a ∨ a = p) H' ds vs → Keep G.R.M H H' → G.R.I H' → Q (.ref p) H'
def wFst (i : Nat) (wf : WF) : WS := fun W ρ => wf ρ fun ds => W.nx (put ρ i (.o ds))
def wFv (wf : WF) : WE := fun ρ Φ => wf ρ fun ds => Φ (.list ds)
theorem up_fv {wf : WF} (σ : L2.St) (H : Hp) (Q : VK) (h : up G true (wFv wf) σ H Q) : upF G wf σ H Q := by
  obtain ⟨an, O, ρ, Φ, S, hw, q⟩ := h
  refine ⟨an, O, ρ, _, S, hw, fun p H' ds vs h1 hp hH im k i => q _ H' _ h1 ⟨p, vs, rfl, hH, fun z => ?_, ImA.avoid (fun a o _ z => .inl z) _ _ im⟩ k i⟩
  exact S.fresh (s := true) hp z
theorem de_fv {wf : WF} (h : PE X e (upF G wf)) : PE X e (up G true (wFv wf)) := pe_weak h up_fv
theorem up_fst {te : TE} {wf : WF} {i : Nat} (h : ∀ σ H Q, upF G wf σ H Q → te σ H Q) (D : Ends) (σ : L2.St) (H : Hp) (hq : upS G (wFst i wf) D σ H) : tAsg te (gName i) D σ H := by
  obtain ⟨an, O, ρ, W, S, hw, q1, q2, q3, q4⟩ := hq
  exact h σ H _ ⟨an, O, ρ, _, S, hw, fun p H' ds vs h1 hp hH im k i1 => by
    obtain ⟨O2, S2⟩ := S.setN hp hH k i1 i im
    exact q1 _ _ _ _ S2 h1⟩
theorem ds_fst (i : Nat) {x : Str} {pos' : Pos} {wf : WF} (hN : X.N.Nodup) (he : PE X e (upF G wf)) (hi : X.N[i]? = some x := by rfl) (hx : Loc X.env.scope x := by first | exact Or.inl rfl | exact Or.inr rfl) (hs : swapsWith e (some (.Name x pos')) pos.line X.env = pure false := by rfl)
    (hf : X.fn x = true ∨ X.env.scope.names.lookup x = some .local := by first | exact .inl rfl | exact .inr rfl | assumption) : PS X (.Assign [.Name x pos'] e pos) (upS G (wFst i wf)) :=
  ps_weak (ps_set hN hi hx he hs hf) (up_fst fun _ _ _ q => q)
def wFl (wa : WA) : WF := fun ρ Φ => wa ρ fun xs => xs.length ≤ 100000 ∧ Φ xs
theorem df_lst (h : PA X es (upA G true wr)) : PE X (.List es pos) (upF G (wFl wr)) := pe_weak (pe_lst h) fun σ H Q ⟨an, O, ρ, Φ, S, h, q⟩ => by
  refine ⟨an, O, ρ, _, S, h, fun vs H1 ds h1 im k1 i1 => ⟨line5 (by rw [ImA.length im]; exact h1.1), fun p hp => ?_⟩⟩
  have S1 := S.keep k1 i1
  have hp0 : H p = none := by
    cases z : H p with
    | none => rfl
    | some o =>
      by_cases m : G.R.M p
      · obtain ⟨xs, y⟩ := G.R.al H1 p i1 m
        rw [hp] at y; cases y
      · rw [k1.ob p o z m] at hp; cases hp
  refine q p _ ds vs h1.2 hp0 upd_same ?_ (k1.trans (Keep.new hp)) (S1.newI hp)
  exact ImA.keep (Keep.new hp) _ _ (ImA.avoid (fun a o e z => z.elim id fun z => by rw [z, hp] at e; cases e) _ _ im)
/-- x.append(e) -/
def wApp (i : Nat) (we : WE) : WS := fun W ρ => match nth ρ i with | .o ds => (we ρ fun d => ds.length < 100000 ∧ W.nx (put ρ i (.o (ds ++ [d])))) | _ => False
theorem own_slot {an : List (PyData × V)} {O : Nat → Option Addr} {σ : L2.St} {H : Hp} {ρ : Ev} {i : Nat} {P : List PyData → Prop} (S : Sta G an O σ H ρ) (h : match nth ρ i with | .o ds => P ds | _ => False) :
    ∃ ds p vs, nth ρ i = .o ds ∧ σ[i]? = some (some (.ref p)) ∧ O i = some p ∧ H p = some (.lst vs) ∧ ImA G.W (Nv G.A O) H ds vs ∧ P ds := by
  have en := S.en i
  cases hx : nth ρ i with
  | o ds =>
    rw [hx] at en h
    obtain ⟨p, vs, e1, e2, e3, m⟩ := en
    exact ⟨ds, p, vs, rfl, e1, e2, e3, m, h⟩
  | _ => rw [hx] at h; exact h.elim
theorem Sta.nM {an : List (PyData × V)} {O : Nat → Option Addr} {σ : L2.St} {H : Hp} {ρ : Ev} (S : Sta G an O σ H ρ) {i : Nat} {p : Addr} (h : O i = some p) : ¬ G.R.M p := fun m => by
  obtain ⟨o, y⟩ := S.al p (S.ra p m)
  rw [(S.fr i p h).1] at y
  cases y
theorem ds_app (i : Nat) {x : Str} {p1 apos cpos : Pos} (he : PE X e (up G true we)) (hN : X.N[i]? = some x := by rfl) (hv : Vis X.env.scope x := by first | exact Or.inl rfl | exact Or.inr (Or.inl rfl) | exact Or.inr (Or.inr rfl))
    (hd : (x == ("__debug__" : Str)) = false := by decide) (hcd : (x == ("__classdict__" : Str)) = false := by decide)
    (hbase : attributeBase (.Name x p1) "append" X.env (eval (.Name x p1) X.env) = eval (.Name x p1) X.env := by rfl)
    (hfew : ((backTo cpos (starEach [e] X.env)).all (fun x => !x.1) && (backToKw cpos (keywordEach [] X.env)).all (fun x => x.1.isSome) && decide (([e] : List Expr).length + ([] : List Keyword).length + (if ([] : List Keyword).isEmpty then 0 else 1) < 30)) = true := by rfl)
    (hline : (apos.endLine == cpos.line) = true := by rfl) (hst : starEach [e] X.env = (false, eval e X.env) :: starEach [] X.env := by rfl) (hpl : (backTo cpos (starEach [] X.env)).any (·.1) = false := by rfl)
    (hs : swapsWith (.Call (.Attribute (.Name x p1) "append" apos) [e] [] cpos) none pos.line X.env = pure false := by rfl) :
    PS X (.Expr (.Call (.Attribute (.Name x p1) "append" apos) [e] [] cpos) pos) (upS G (wApp i we)) := ps_weak (ps_expr (pe_bm PySem.F.plainAttrs_list PySem.F.slot_list_append PySem.F.type_list_append mt_append (pe_var hN hv hd hcd) (pa_cons he pa_nil hst) hbase hfew hline hst hpl) hs) fun D σ H ⟨an, O, ρ, W, S, h, q1, q2, q3, q4⟩ => by
  obtain ⟨ds, p, vs, hx, e1, e2, e3, m, hw⟩ := own_slot S h
  refine ⟨.ref p, e1, .inl ⟨rfl, vs, .inl (.inl e3)⟩, an, O, ρ, _, S, hw, fun v H1 d h1 im k1 i1 => ?_⟩
  have S1 := S.keep k1 i1
  have e3' := k1.ob p _ e3 (S.nM e2)
  refine ⟨p, vs, v, rfl, rfl, e3', Nat.lt_of_lt_of_le (by rw [ImA.length m]; exact h1.1) (by decide), ?_⟩
  exact q1 _ _ _ _ (S1.chg hx e2 e1 e3' (ImA.append (ImA.keep (S.ka (s := true) k1) _ _ m) (ImA.one im))) h1.2
end
end DL

namespace DL
open PySem PySem.Spec PyProof.Rows L2

abbrev WAE := Ev → (List Ent → Prop) → Prop
def EsOk (G : Gx) (O : Nat → Option Addr) (n : Nat) (H : Hp) : List Ent → List V → Prop
  | [], vs => vs = []
  | .d x :: es, vs => ∃ v r, vs = v :: r ∧ Im G.W (Nv G.A O) H x v ∧ EsOk G O n H es r
  | .o ds :: es, vs => ∃ p j ws r, vs = .ref p :: r ∧ n ≤ j ∧ O j = some p ∧ H p = some (.lst ws) ∧ ImA G.W (Nv G.A O) H ds ws ∧ EsOk G O (j + 1) H es r
  | _ :: _, _ => False
def upE (G : Gx) (wa : WAE) : TA := fun σ H Q => ∃ (an : List (PyData × V)) (O : Nat → Option Addr) (ρ : Ev) (Φ : List Ent → Prop), Sta G an O σ H ρ ∧ wa ρ Φ ∧
  ∀ vs H' es O' n, Φ es → ρ.length ≤ n → (∀ i, n ≤ i → O i = none) → EsOk G O' n H' es vs → Sta G an O' σ H' ρ → Keep G.R.M H H' → (∀ i p, O' i = some p → O i = some p ∨ H p = none) → (∀ i p, O i = some p → O' i = some p) → Q vs H'
def wEn : WAE := fun _ Φ => Φ []
def wEd (we : WE) (r : WAE) : WAE := fun ρ Φ => we ρ fun d => r ρ fun es => Φ (.d d :: es)
def wEf (wf : WF) (r : WAE) : WAE := fun ρ Φ => wf ρ fun ds => r ρ fun es => Φ (.o ds :: es)
section
variable {X : Cx} {G : Gx} {pos : Pos} {s s1 s2 : Bool} {e a b c tg : Expr} {es : List Expr} {we wa wb wc : WE} {wr : WAE} {wf : WF}
theorem none_back {M : Addr → Prop} {H H' : Hp} {p : Addr} (S : M p → H' p ≠ none) (k : Keep M H H') (h : H' p = none) : H p = none := by
  cases z : H p with
  | none => rfl
  | some o =>
    by_cases m : M p
    · exact absurd h (S m)
    · rw [k.ob p o z m] at h; cases h
theorem Sta.back {an : List (PyData × V)} {O : Nat → Option Addr} {σ : L2.St} {H H' : Hp} {ρ : Ev} (S : Sta G an O σ H' ρ) (k : Keep G.R.M H H') {p : Addr} (h : H' p = none) : H p = none :=
  none_back (fun m z => by
    obtain ⟨xs, y⟩ := G.R.al H' p S.inv m
    rw [z] at y; cases y) k h
theorem EsOk.le {O : Nat → Option Addr} {n m : Nat} {H : Hp} (h : n ≤ m) : ∀ {es : List Ent} {vs : List V}, EsOk G O m H es vs → EsOk G O n H es vs
  | [], _, q => q
  | .d x :: es, _, q => by
    obtain ⟨v, r, e, i, q⟩ := q
    exact ⟨v, r, e, i, EsOk.le h q⟩
  | .o ds :: es, _, q => by
    obtain ⟨p, j, ws, r, e, l, o, y, i, q⟩ := q
    exact ⟨p, j, ws, r, e, Nat.le_trans h l, o, y, i, q⟩
  | .m :: _, _, q => q.elim
  | .u :: _, _, q => q.elim
  | .s _ :: _, _, q => q.elim
theorem ea_nil : PA X [] (upE G wEn) := pa_weak pa_nil fun σ H Q ⟨an, O, ρ, Φ, S, h, q⟩ => by
  obtain ⟨bd, hbd⟩ := S.ob
  exact q [] H [] O (max bd ρ.length) h (Nat.le_max_right _ _) (fun i hi => hbd i (Nat.le_trans (Nat.le_max_left _ _) hi)) rfl S (Keep.refl H) (fun _ _ e => .inl e) fun _ _ e => e
theorem ea_d (ha : PE X e (up G true we)) (hr : PA X es (upE G wr)) (hs : starEach (e :: es) X.env = (false, eval e X.env) :: starEach es X.env := by rfl) : PA X (e :: es) (upE G (wEd we wr)) :=
  pa_weak (pa_cons ha hr hs) fun σ H Q ⟨an, O, ρ, Φ, S, h, q⟩ => by
    refine ⟨an, O, ρ, _, S, h, fun v H1 d h1 im k1 i1 => ?_⟩
    have S1 := S.keep k1 i1
    refine ⟨an, O, ρ, _, S1, h1, fun vs H2 es O' n h2 n1 n2 ok S2 k2 x1 x2 => ?_⟩
    refine q (v :: vs) H2 (.d d :: es) O' n h2 n1 n2 ⟨v, vs, rfl, ?_, ok⟩ S2 (k1.trans k2) (fun i p e => (x1 i p e).elim .inl fun z => .inr (S1.back k1 z)) x2
    have m1 : Im G.W (Nv G.A O') H1 d v := Im.avoid (fun a o ea z => z.elim .inl fun ⟨i, y⟩ => (x1 i a y).elim (fun y => .inr ⟨i, y⟩) fun y => by rw [y] at ea; cases ea) d v im
    exact Im.keep (k2.mono fun a m => .inl (S.ra a m)) d v m1
theorem ea_f (ha : PE X e (upF G wf)) (hr : PA X es (upE G wr)) (hs : starEach (e :: es) X.env = (false, eval e X.env) :: starEach es X.env := by rfl) : PA X (e :: es) (upE G (wEf wf wr)) :=
  pa_weak (pa_cons ha hr hs) fun σ H Q ⟨an, O, ρ, Φ, S, h, q⟩ => by
    refine ⟨an, O, ρ, _, S, h, fun p H1 ds vs h1 hp hH im k1 i1 => ?_⟩
    obtain ⟨bd, hbd⟩ := S.ob
    have hj : O (max bd ρ.length) = none := hbd _ (Nat.le_max_left _ _)
    have S1 := S.own hp hH k1 i1 (max bd ρ.length) (Nat.le_max_right _ _)
    refine ⟨an, _, ρ, _, S1, h1, fun ws H2 es O' n h2 n1 n2 ok S2 k2 x1 x2 => ?_⟩
    have hn : max bd ρ.length + 1 ≤ n := Nat.lt_of_not_le fun z => by
      have y := n2 _ z
      rw [setO_same] at y
      cases y
    refine q (.ref p :: ws) H2 (.o ds :: es) O' (max bd ρ.length) h2 (Nat.le_max_right _ _) (fun i hi => hbd i (Nat.le_trans (Nat.le_max_left _ _) hi)) ⟨p, max bd ρ.length, vs, ws, rfl, Nat.le_refl _, x2 _ _ setO_same, k2.ob p _ hH (S1.nM setO_same), ?_, EsOk.le hn ok⟩ S2 (k1.trans k2) (fun i r e => ?_) (fun i r e => ?_)
    · have m1 : ImA G.W (Nv G.A O') H1 ds vs := ImA.avoid (fun a o ea z => by
        rcases z with z | ⟨i, y⟩
        · exact .inl (.inl z)
        · rcases x1 i a y with y | y
          · by_cases q : i = max bd ρ.length
            · rw [q, setO_same] at y
              cases y
              exact .inr rfl
            · rw [setO_ne q] at y
              exact .inl (.inr ⟨i, y⟩)
          · rw [y] at ea; cases ea) _ _ im
      exact ImA.keep (k2.mono fun a m => .inl (S.ra a m)) _ _ m1
    · rcases x1 i r e with y | y
      · by_cases q : i = max bd ρ.length
        · rw [q, setO_same] at y
          cases y
          exact .inr hp
        · rw [setO_ne q] at y
          exact .inl y
      · exact .inr (S1.back k1 y)
    · by_cases q : i = max bd ρ.length
      · rw [q, hj] at e; cases e
      · exact x2 i r (by rw [setO_ne q]; exact e)
def puts : Ev → List Nat → List Ent → Ev
  | ρ, i :: is, e :: es => puts (put ρ i e) is es
  | ρ, _, _ => ρ
def setsV : L2.St → List Nat → List V → L2.St
  | σ, i :: is, v :: vs => setsV (σ.set i (some v)) is vs
  | σ, _, _ => σ
theorem EsOk.sub {G : Gx} {O O' : Nat → Option Addr} {H : Hp} (hs : ∀ a, Nv G.A O' a → Nv G.A O a) : ∀ {es : List Ent} {vs : List V} {n : Nat}, (∀ j p, n ≤ j → O j = some p → O' j = some p) → EsOk G O n H es vs → EsOk G O' n H es vs
  | [], _, _, _, h => h
  | .d x :: es, _, n, hj, h => by
    obtain ⟨v, r, e, m, q⟩ := h
    exact ⟨v, r, e, Im.avoid (fun a o _ z => hs a z) _ _ m, EsOk.sub hs hj q⟩
  | .o ds :: es, _, n, hj, h => by
    obtain ⟨p, j, ws, r, e, l, o, y, m, q⟩ := h
    exact ⟨p, j, ws, r, e, l, hj j p l o, y, ImA.avoid (fun a o _ z => hs a z) _ _ m, EsOk.sub hs (fun k p hk => hj k p (by omega)) q⟩
  | .m :: _, _, _, _, h => h.elim
  | .u :: _, _, _, _, h => h.elim
  | .s _ :: _, _, _, _, h => h.elim
theorem Sta.putsOk {an : List (PyData × V)} {H : Hp} : ∀ {es : List Ent} {is : List Nat} {vs : List V} {O : Nat → Option Addr} {σ : L2.St} {ρ : Ev} {n : Nat}, Sta G an O σ H ρ → EsOk G O n H es vs → ρ.length ≤ n → (∀ i ∈ is, i < ρ.length) → is.length = es.length →
    ∃ O', Sta G an O' (setsV σ is vs) H (puts ρ is es)
  | [], [], _, O, σ, ρ, n, S, _, _, _, _ => ⟨O, S⟩
  | .d x :: es, i :: is, _, O, σ, ρ, n, S, h, hn, hi, hl => by
    obtain ⟨v, r, rfl, m, q⟩ := h
    have S1 := S.setD i m
    have hsub : ∀ a, Nv G.A (setO O i none) a → Nv G.A O a := fun a z => by
      rcases z with z | ⟨l, z⟩
      · exact .inl z
      · by_cases y : l = i
        · rw [y, setO_same] at z; cases z
        · rw [setO_ne y] at z; exact .inr ⟨l, z⟩
    have hkeep : ∀ j p, n ≤ j → O j = some p → setO O i none j = some p := fun j p hj z => by
      have := hi i List.mem_cons_self
      rw [setO_ne (by omega)]
      exact z
    have q2 := EsOk.sub hsub hkeep q
    exact Sta.putsOk (es := es) (is := is) (O := setO O i none) (σ := σ.set i (some v)) (ρ := put ρ i (.d x)) (n := n) S1 q2 (by rw [put_len]; exact hn) (fun k hk => by rw [put_len]; exact hi k (List.mem_cons_of_mem _ hk)) (by simpa using hl)
  | .o ds :: es, i :: is, _, O, σ, ρ, n, S, h, hn, hi, hl => by
    obtain ⟨p, j, ws, r, rfl, l, o, y, m, q⟩ := h
    have h1 := hi i List.mem_cons_self
    have S1 := S.take i (Nat.le_trans hn l) o y m h1
    have hsub : ∀ a, Nv G.A (setO (setO O j none) i (some p)) a → Nv G.A O a := fun a z => by
      rcases z with z | ⟨k, z⟩
      · exact .inl z
      · by_cases w : k = i
        · rw [w, setO_same] at z
          cases z
          exact .inr ⟨j, o⟩
        · rw [setO_ne w] at z
          by_cases w2 : k = j
          · rw [w2, setO_same] at z; cases z
          · rw [setO_ne w2] at z; exact .inr ⟨k, z⟩
    have hkeep : ∀ k p', j + 1 ≤ k → O k = some p' → setO (setO O j none) i (some p) k = some p' := fun k p' hk z => by
      rw [setO_ne (by omega), setO_ne (by omega)]
      exact z
    have q2 := EsOk.sub hsub hkeep q
    exact Sta.putsOk (es := es) (is := is) (O := setO (setO O j none) i (some p)) (σ := σ.set i (some (.ref p))) (ρ := put ρ i (.o ds)) (n := j + 1) S1 q2 (by rw [put_len]; omega) (fun k hk => by rw [put_len]; exact hi k (List.mem_cons_of_mem _ hk)) (by simpa using hl)
/-- a, b, .. = e, f, .. by several plain names -/
def wPars (is : List Nat) (wa : WAE) : WS := fun W ρ => wa ρ fun es => is.length = es.length ∧ (is.length ≤ 100000 ∧ ∀ i ∈ is, i < ρ.length) ∧ W.nx (puts ρ is es)
theorem EsOk.vlen {O : Nat → Option Addr} {H : Hp} : ∀ {es : List Ent} {vs : List V} {n : Nat}, EsOk G O n H es vs → vs.length = es.length
  | [], _, _, h => by cases h; rfl
  | .d x :: es, _, n, h => by
    obtain ⟨v, r, rfl, m, q⟩ := h
    simp [EsOk.vlen q]
  | .o ds :: es, _, n, h => by
    obtain ⟨p, j, ws, r, rfl, l, o, y, m, q⟩ := h
    simp [EsOk.vlen q]
  | .m :: _, _, _, h => h.elim
  | .u :: _, _, _, h => h.elim
  | .s _ :: _, _, _, h => h.elim
theorem EsOk.keep {O : Nat → Option Addr} {H : Hp} {p : Addr} {o : HO} (k : Keep (Nv G.A O) H (upd H p o)) (hn : ∀ j q, O j = some q → q ≠ p) : ∀ {es : List Ent} {vs : List V} {n : Nat}, EsOk G O n H es vs → EsOk G O n (upd H p o) es vs
  | [], _, _, h => h
  | .d x :: es, _, n, h => by
    obtain ⟨v, r, e, m, q⟩ := h
    exact ⟨v, r, e, Im.keep k _ _ m, EsOk.keep k hn q⟩
  | .o ds :: es, _, n, h => by
    obtain ⟨p', j, ws, r, e, l, o', y, m, q⟩ := h
    exact ⟨p', j, ws, r, e, l, o', by rw [upd_ne (hn j p' o')]; exact y, ImA.keep k _ _ m, EsOk.keep k hn q⟩
  | .m :: _, _, _, h => h.elim
  | .u :: _, _, _, h => h.elim
  | .s _ :: _, _, _, h => h.elim
theorem ds_par2 (i j : Nat) {x y : Str} {px py pt : Pos} {kt k2 pt2} (hc : X.calm = true) (hN : X.N.Nodup) (ha : PA X [a, b] (upE G wr)) (hi : X.N[i]? = some x := by rfl) (hj : X.N[j]? = some y := by rfl) (hij : i ≠ j := by decide)
    (hx : X.env.scope.names.lookup x = some .local := by rfl) (hy : X.env.scope.names.lookup y = some .local := by rfl)
    (hw : swappedStores [.Tuple [.Name x px, .Name y py] kt pt] (.Tuple [a, b] k2 pt2) X.env = pure (some [x, y]) := by rfl)
    (hs : swapsWithSole [.Tuple [.Name x px, .Name y py] kt pt] (.Tuple [a, b] k2 pt2) pos.line X.env = pure false := by rfl) :
    PS X (.Assign [.Tuple [.Name x px, .Name y py] kt pt] (.Tuple [a, b] k2 pt2) pos) (upS G (wPars [i, j] wr)) := ps_weak (ps_par hc hN hi hj hij hx hy ha hw hs) fun D σ H ⟨an, O, ρ, W, S, h, q1, _⟩ => by
  refine ⟨an, O, ρ, _, S, h, fun vs H1 es O' n h1 n1 n2 ok S1 k x1 x2 => ?_⟩
  obtain ⟨l, hb, hw⟩ := h1
  have vl := EsOk.vlen ok
  obtain ⟨O2, S2⟩ := S1.putsOk ok n1 hb.2 l
  match vs, vl with
  | [v, w], _ => exact ⟨v, w, rfl, q1 _ _ _ _ S2 hw⟩
  | [], vl => rw [← l] at vl; cases vl
  | [_], vl => rw [← l] at vl; cases vl
  | _ :: _ :: _ :: _, vl => rw [← l] at vl; simp at vl
theorem ds_par3 (i j k : Nat) {x y z : Str} {px py pz pt : Pos} {kt k2 pt2} (hc : X.calm = true) (hN : X.N.Nodup) (ha : PA X [a, b, c] (upE G wr)) (hi : X.N[i]? = some x := by rfl) (hj : X.N[j]? = some y := by rfl) (hk : X.N[k]? = some z := by rfl) (hij : i ≠ j := by decide) (hik : i ≠ k := by decide) (hjk : j ≠ k := by decide)
    (hx : X.env.scope.names.lookup x = some .local := by rfl) (hy : X.env.scope.names.lookup y = some .local := by rfl) (hz : X.env.scope.names.lookup z = some .local := by rfl)
    (hw : swappedStores [.Tuple [.Name x px, .Name y py, .Name z pz] kt pt] (.Tuple [a, b, c] k2 pt2) X.env = pure (some [x, y, z]) := by rfl)
    (hs : swapsWithSole [.Tuple [.Name x px, .Name y py, .Name z pz] kt pt] (.Tuple [a, b, c] k2 pt2) pos.line X.env = pure false := by rfl) :
    PS X (.Assign [.Tuple [.Name x px, .Name y py, .Name z pz] kt pt] (.Tuple [a, b, c] k2 pt2) pos) (upS G (wPars [i, j, k] wr)) := ps_weak (ps_par3 hc hN hi hj hk hij hik hjk hx hy hz ha hw hs) fun D σ H ⟨an, O, ρ, W, S, h, q1, _⟩ => by
  refine ⟨an, O, ρ, _, S, h, fun vs H1 es O' n h1 n1 n2 ok S1 k x1 x2 => ?_⟩
  obtain ⟨l, hb, hw⟩ := h1
  have vl := EsOk.vlen ok
  obtain ⟨O2, S2⟩ := S1.putsOk ok n1 hb.2 l
  match vs, vl with
  | [v, w, u], _ => exact ⟨v, w, u, rfl, q1 _ _ _ _ S2 hw⟩
  | [], vl => rw [← l] at vl; cases vl
  | [_], vl => rw [← l] at vl; cases vl
  | [_, _], vl => rw [← l] at vl; cases vl
  | _ :: _ :: _ :: _ :: _, vl => rw [← l] at vl; simp at vl
/-- the names of a written tuple of targets -/
def tNames : List Nat → TGs
  | [] => gNil
  | i :: is => gCons (gName i) (tNames is)
theorem tn_nil : PGs X [] (tNames []) := pgs_nil
theorem tn_cons {p : Pos} {is : List Nat} (i : Nat) {x : Str} (hN : X.N.Nodup) (h2 : PGs X es (tNames is)) (hi : X.N[i]? = some x := by rfl) (hx : Loc X.env.scope x := by first | exact Or.inl rfl | exact Or.inr rfl) (hf : X.fn x = true ∨ X.env.scope.names.lookup x = some .local := by first | exact .inl rfl | exact .inr rfl | assumption)
    (hs : (assignEach (.Name x p :: es) X.env).map (·.2) = assign (.Name x p) X.env :: (assignEach es X.env).map (·.2) := by rfl) : PGs X (.Name x p :: es) (tNames (i :: is)) := pgs_cons (pg_name hN hi hx hf) h2 hs
theorem names_run : ∀ {is : List Nat} {vs : List V} {σ : L2.St} {H : Hp} {Q : L2.St → Hp → Prop}, is.length = vs.length → Q (setsV σ is vs) H → tNames is vs σ H Q
  | [], [], _, _, _, _, q => ⟨rfl, q⟩
  | i :: is, v :: vs, σ, H, Q, l, q => ⟨v, vs, rfl, names_run (is := is) (by simpa using l) q⟩
theorem ds_parN {is : List Nat} {ts es : List Expr} {pt : Pos} {kt k2 pt2} {n : Nat} (hc : X.calm = true) (ha : PA X es (upE G wr)) (hg : PGs X ts (tNames is)) (hn : (assignEach ts X.env).length = n := by rfl) (hst : (assignEach ts X.env).findIdx? (·.1) = none := by rfl) (hl : is.length = n := by rfl)
    (hs : swapsWithSole [.Tuple ts kt pt] (.Tuple es k2 pt2) pos.line X.env = pure false := by rfl) (hw : swappedStores [.Tuple ts kt pt] (.Tuple es k2 pt2) X.env = pure none := by rfl) (h1 : (assignEach [.Tuple ts kt pt] X.env).map (·.2) = [assign (.Tuple ts kt pt) X.env] := by rfl) :
    PS X (.Assign [.Tuple ts kt pt] (.Tuple es k2 pt2) pos) (upS G (wPars is wr)) := ps_weak (ps_asg (pe_tup ha) (pg_tup hc hg hn hst) hs hw h1) fun D σ H ⟨an, O, ρ, W, S, h, q1, _⟩ => by
  refine ⟨an, O, ρ, _, S, h, fun vs H1 es O' m h1 n1 n2 ok S1 k x1 x2 => ?_⟩
  obtain ⟨l, hb, hw⟩ := h1
  have vl := EsOk.vlen ok
  have hz : vs.length ≤ sizeLine := line5 (by rw [vl, ← l]; exact hb.1)
  refine ⟨hz, fun p hp => ?_⟩
  have S3 : Sta G an O' σ (upd H1 p (.tup vs)) ρ := S1.keep (Keep.new hp) (S1.newI hp)
  refine ⟨p, vs, rfl, .inl (.inl upd_same), by rw [vl, ← l, hl], names_run (by rw [vl, ← l]) ?_⟩
  have kN : Keep (Nv G.A O') H1 (upd H1 p (.tup vs)) := Keep.new hp
  have np : ∀ j q, O' j = some q → q ≠ p := fun j q e z => by
    obtain ⟨_, xs, y⟩ := S1.fr j q e
    rw [z, hp] at y
    cases y
  obtain ⟨O2, S2⟩ := S3.putsOk (EsOk.keep kN np ok) n1 hb.2 l
  exact q1 _ _ _ _ S2 hw
end
end DL

namespace DL
open PySem PySem.Spec PyProof.Rows L2

section
variable {X : Cx} {G : Gx} {pos : Pos} {s s1 s2 : Bool} {e a b c tg iter elt : Expr} {es ifs : List Expr} {we wa wb wc : WE} {wi : WI} {g : WG} {is : List Nat} {sts body : List Stmt} {ws : WS} {wt : WT}
theorem stK_of {H H' : Hp} (i : G.R.I H) (k : Keep (fun _ => False) H H') : G.R.I H' := G.R.st _ _ i fun a o _ e => k.ob a o e fun z => z
theorem Keep.none {M : Addr → Prop} {H H' : Hp} (k : Keep (fun _ => False) H H') : Keep M H H' := k.mono fun _ z => z.elim
def wFor (wi : WI) (g : WG) (wb : WS) : WS := fun W ρ => wi ρ fun ds => ∃ J : Nat → Ev → Prop, J 0 ρ ∧
  (∀ (i : Nat) (d : PyData) (ρ' : Ev), ds[i]? = some d → J i ρ' → g d ρ' fun ρ2 => wb { W with nx := J (i + 1), ct := J (i + 1), bk := W.nx } ρ2) ∧ ∀ ρ', J ds.length ρ' → W.nx ρ'
theorem ds_for (hp : PassesOwn (model X.prog X.w) X.A X.env X.xe) (hc : X.calm = true) (hi : PI X tg iter (upI G true wi)) (hg : PG X tg (upG G is g)) (hb : PSs X body (upS G ws)) (hs : ∀ x, foldedSetIterable iter X.env x = pure x := by intro _; rfl) :
    PS X (.For tg iter body [] pos) (upS G (wFor wi g ws)) := ps_weak (ps_for hp hc hi hg hb hs) fun D σ H ⟨an, O, ρ, W, S, h, q1, q2, q3, q4⟩ => by
  refine ⟨an, O, ρ, _, S, h, fun J H1 ds src h1 sv im k1 i1 => ?_⟩
  obtain ⟨JJ, j0, jt, je⟩ := h1
  have S1 := S.keep k1 i1
  refine ⟨fun i m σ H => i + m = ds.length ∧ ∃ O ρ, Sta G (src ++ an) O σ H ρ ∧ JJ i ρ, ⟨ds.length, by omega, O, ρ, S1.ana im, j0⟩, ?_⟩
  rintro i m σ H ⟨hm, O1, ρ1, S2, ji⟩
  have hv := sv (Nv G.A O1) H i fun p hp => S2.as p (List.mem_append_left _ hp)
  by_cases hlt : i < ds.length
  · obtain ⟨go, yl⟩ := hv.1 hlt
    refine .inr ⟨go, fun σ' H' => i + 1 + (m - 1) = ds.length ∧ ∃ O ρ, Sta G (src ++ an) O σ' H' ρ ∧ JJ (i + 1) ρ, fun σ' H' hN => ⟨m - 1, by omega, hN⟩, fun x H' y => ?_⟩
    obtain ⟨k, iv⟩ := yl x H' y
    have hd : ds[i]? = some ds[i] := List.getElem?_eq_getElem hlt
    have S3 := S2.keep (Keep.none k) (stK_of S2.inv k)
    refine ⟨src ++ an, O1, ρ1, ds[i], _, S3, iv _ hd, jt i _ ρ1 hd ji, fun O4 σ4 ρ4 S4 h4 _ _ => ?_⟩
    refine ⟨src ++ an, O4, ρ4, _, S4, h4, fun O' σ' H' ρ' S' h' => ⟨by omega, O', ρ', S', h'⟩, q2, fun O' σ' H' ρ' S' h' => q1 O' σ' H' ρ' (S'.anm fun p hp => List.mem_append_right _ hp) h', fun O' σ' H' ρ' S' h' => ⟨by omega, O', ρ', S', h'⟩⟩
  · have e : i = ds.length := by omega
    refine .inl ⟨hv.2 (by omega), q1 _ _ _ _ (S2.anm fun p hp => List.mem_append_right _ hp) (je ρ1 (by rw [← e]; exact ji))⟩
def wWhile (wt : WT) (wb : WS) : WS := fun W ρ => ∃ J : Nat → Ev → Prop, (∃ m, J m ρ) ∧ ∀ (m : Nat) (ρ' : Ev), J m ρ' → wt ρ' fun c => if c = true then wb { W with nx := fun ρ2 => ∃ m', m' < m ∧ J m' ρ2, ct := fun ρ2 => ∃ m', m' < m ∧ J m' ρ2, bk := W.nx } ρ' else W.nx ρ'
theorem ds_while {c : Expr} (hp : PassesOwn (model X.prog X.w) X.A X.env X.xe) (hc : PT X c (upT G wt)) (hb : PSs X body (upS G ws)) : PS X (.While c body [] pos) (upS G (wWhile wt ws)) := ps_weak (ps_while hp hc hb) fun D σ H ⟨an, O, ρ, W, S, h, q1, q2, q3, q4⟩ => by
  obtain ⟨J, ⟨m0, j0⟩, jt⟩ := h
  refine ⟨fun m σ H => ∃ O ρ, Sta G an O σ H ρ ∧ J m ρ, ⟨m0, O, ρ, S, j0⟩, ?_⟩
  rintro m σ H ⟨O1, ρ1, S1, j1⟩
  refine ⟨an, O1, ρ1, _, S1, jt m ρ1 j1, fun b H2 hb k i => ?_⟩
  cases b with
  | true =>
    rw [if_pos rfl] at hb ⊢
    refine ⟨fun σ' H' => ∃ m', m' < m ∧ ∃ O ρ, Sta G an O σ' H' ρ ∧ J m' ρ, fun σ' H' hN => hN, an, O1, ρ1, _, S1.keep k i, hb, fun O' σ' H' ρ' S' h' => ?_, q2, fun O' σ' H' ρ' S' h' => q1 O' σ' H' ρ' S' h', fun O' σ' H' ρ' S' h' => ?_⟩
    · obtain ⟨m', l, j⟩ := h'
      exact ⟨m', l, O', ρ', S', j⟩
    · obtain ⟨m', l, j⟩ := h'
      exact ⟨m', l, O', ρ', S', j⟩
  | false =>
    rw [if_neg Bool.false_ne_true] at hb ⊢
    exact q1 _ _ _ _ (S1.keep k i) hb
def wipeE (ρ : Ev) : List Nat → Ev
  | [] => ρ
  | v :: vs => put (wipeE ρ vs) v .u
theorem wipeE_len {ρ : Ev} : ∀ vs : List Nat, (wipeE ρ vs).length = ρ.length
  | [] => rfl
  | v :: vs => by show (put (wipeE ρ vs) v .u).length = _; rw [put_len, wipeE_len vs]
/-- what a slot held is forgotten -/
theorem Sta.drop {an : List (PyData × V)} {O : Nat → Option Addr} {σ : L2.St} {H : Hp} {ρ : Ev} (S : Sta G an O σ H ρ) (i : Nat) (x : Option V) (hno : ∀ ds, nth ρ i ≠ .o ds) : Sta G an O (σ.set i x) H (put ρ i .u) := by
  refine ⟨S.inv, S.kp, S.al, S.ra, S.fr, S.oi, S.ob, fun j p e => ?_, by rw [List.length_set, put_len, S.len], fun j => ?_, S.as⟩
  · rw [put_len]
    rcases S.oe j p e with z | ⟨ds, z⟩
    · exact .inl z
    · have y : j ≠ i := fun y => hno ds (y ▸ z)
      rw [nth_put_ne y]
      exact .inr ⟨ds, z⟩
  by_cases z : j = i
  · rw [z]
    by_cases hl : i < ρ.length
    · rw [nth_put_same hl]; trivial
    · rw [nth_out (by rw [put_len]; omega)]; trivial
  · rw [nth_put_ne z]
    have en := S.en j
    cases hx : nth ρ j with
    | u => trivial
    | d y =>
      rw [hx] at en
      obtain ⟨w, e1, m⟩ := en
      exact ⟨w, by rw [List.getElem?_set_ne (Ne.symm z)]; exact e1, m⟩
    | o xs =>
      rw [hx] at en
      obtain ⟨q, ws, e1, r⟩ := en
      exact ⟨q, ws, by rw [List.getElem?_set_ne (Ne.symm z)]; exact e1, r⟩
    | m =>
      rw [hx] at en
      show (σ.set i x)[j]? = _
      rw [List.getElem?_set_ne (Ne.symm z)]
      exact en
    | s ns =>
      rw [hx] at en
      obtain ⟨q, e1, e2⟩ := en
      exact ⟨q, by rw [List.getElem?_set_ne (Ne.symm z)]; exact e1, e2⟩
/-- a block's own slots hold no list of one's own -/
def noOwn (ρ : Ev) : List Nat → Bool
  | [] => true
  | v :: vs => (match nth ρ v with | .o _ => false | _ => decide (v < ρ.length)) && noOwn ρ vs
theorem noOwn_at {ρ : Ev} : ∀ {vs : List Nat}, noOwn ρ vs = true → ∀ v ∈ vs, v < ρ.length ∧ ∀ ds, nth ρ v ≠ .o ds
  | [], _, _, h => by cases h
  | u :: us, h, v, hv => by
    have h' : (match nth ρ u with | .o _ => false | _ => decide (u < ρ.length)) = true ∧ noOwn ρ us = true := by
      rw [← Bool.and_eq_true]; exact h
    rcases List.mem_cons.mp hv with e | hv
    · rw [e]
      have q := h'.1
      split at q
      · cases q
      · rename_i hx
        exact ⟨of_decide_eq_true q, fun ds z => hx ds z⟩
    · exact noOwn_at h'.2 v hv
theorem nth_wipe_no {ρ : Ev} {i : Nat} : ∀ {vs : List Nat}, (∀ ds, nth ρ i ≠ .o ds) → ∀ ds, nth (wipeE ρ vs) i ≠ .o ds
  | [], h => h
  | v :: vs, h => fun ds z => by
    have z : nth (put (wipeE ρ vs) v .u) i = .o ds := z
    by_cases y : i = v
    · rw [y] at z
      by_cases hl : v < (wipeE ρ vs).length
      · rw [nth_put_same hl] at z; cases z
      · rw [nth_out (by rw [put_len]; omega)] at z; cases z
    · rw [nth_put_ne y] at z
      exact nth_wipe_no h ds z
theorem Sta.wipe {an : List (PyData × V)} {O : Nat → Option Addr} {σ : L2.St} {H : Hp} {ρ : Ev} (S : Sta G an O σ H ρ) : ∀ vs : List Nat, (∀ v ∈ vs, ∀ ds, nth ρ v ≠ .o ds) → Sta G an O (L2.wipe σ vs) H (wipeE ρ vs)
  | [], _ => S
  | v :: vs, h => (S.wipe vs fun u hu => h u (List.mem_cons_of_mem _ hu)).drop v none (nth_wipe_no (h v List.mem_cons_self))
theorem wipe_sub (σ : L2.St) (vs : List Nat) : ∀ us : List Nat, (∀ u ∈ us, u ∈ vs) → L2.wipe (L2.wipe σ us) vs = L2.wipe σ vs
  | [], _ => rfl
  | u :: us, h => by
    show L2.wipe ((L2.wipe σ us).set u none) vs = _
    rw [set_wipe _ u none vs (h u List.mem_cons_self), wipe_sub σ vs us fun v hv => h v (List.mem_cons_of_mem _ hv)]
/-- a list that no slot holds changes -/
theorem Sta.chgP {an : List (PyData × V)} {O : Nat → Option Addr} {σ : L2.St} {H : Hp} {ρ : Ev} (S : Sta G an O σ H ρ) {j : Nat} {p : Addr} {vs vs' : List V} (hj : ρ.length ≤ j) (hO : O j = some p) (hH : H p = some (.lst vs)) : Sta G an O σ (upd H p (.lst vs')) ρ := by
  have nM := S.nM hO
  have n0 : ∀ a o, G.H0 a = some o → a ≠ p := fun a o e z => by rw [z, (S.fr j p hO).1] at e; cases e
  have kN : Keep (Nv G.A O) H (upd H p (.lst vs')) := Keep.set hH (.inr ⟨j, hO⟩)
  refine ⟨G.R.st _ _ S.inv fun a o m e => by rw [upd_ne (show a ≠ p from fun z => nM (by rw [← z]; exact m))]; exact e, ⟨fun a o e n => ?_, fun a xs e => ?_, fun a o u e => ?_⟩, S.al, S.ra, fun l q e => ⟨(S.fr l q e).1, ?_⟩, S.oi, S.ob, S.oe, S.len, fun l => ?_, fun q hq => Im.keep kN _ _ (S.as q hq)⟩
  · rw [upd_ne (n0 a o e)]; exact S.kp.ob a o e n
  · rw [upd_ne (n0 a _ e)]; exact S.kp.tp a xs e
  · rw [upd_ne (n0 a _ e)]; exact S.kp.fz a o u e
  · by_cases z : q = p
    · exact ⟨vs', by rw [z, upd_same]⟩
    · obtain ⟨xs, y⟩ := (S.fr l q e).2
      exact ⟨xs, by rw [upd_ne z]; exact y⟩
  · have en := S.en l
    cases hx : nth ρ l with
    | u => trivial
    | d x =>
      rw [hx] at en
      obtain ⟨w, e1, m⟩ := en
      exact ⟨w, e1, Im.keep kN _ _ m⟩
    | o xs =>
      rw [hx] at en
      obtain ⟨q, ws, x1, x2, x3, m⟩ := en
      have ll : l ≠ j := fun y => by rw [y, nth_out hj] at hx; cases hx
      have qp : q ≠ p := fun y => ll (S.oi l j p (y ▸ x2) hO)
      exact ⟨q, ws, x1, x2, by rw [upd_ne qp]; exact x3, ImA.keep kN _ _ m⟩
    | m => rw [hx] at en; exact en
    | s ns =>
      rw [hx] at en
      obtain ⟨q, x1, x2⟩ := en
      exact ⟨q, x1, x2.keep kN⟩
structure DTs (X : Cx) (G : Gx) (ifs : List Expr) (wt : WT) : Prop where
  h : PTs X ifs (upT G wt)
theorem dts_nil : PTs X [] (upT G fun _ Φ => Φ true) := ⟨fun pins sh σ H Q I ⟨an, O, ρ, Φ, S, h, q⟩ => pts_nil.run pins sh σ H Q I (q true H h (Keep.refl H) S.inv)⟩
theorem dts_one (h : PT X c (upT G wt)) : PTs X [c] (upT G wt) := pts_one h
def wLc (wi : WI) (g : WG) (wt : WT) (we : WE) (vs : List Nat) : WF := fun ρ Φ => noOwn ρ vs = true ∧ wi ρ fun ds => ∃ J : Nat → List PyData → Prop, J 0 [] ∧
  (∀ (i : Nat) (d : PyData) (acc : List PyData), ds[i]? = some d → J i acc → acc.length ≤ 100000 → g d (wipeE ρ vs) fun ρ2 => wt ρ2 fun b => if b = true then we ρ2 fun y => acc.length < 100000 ∧ J (i + 1) (acc ++ [y]) else J (i + 1) acc) ∧ ∀ acc, J ds.length acc → Φ acc
theorem up_lc {vs : List Nat} (hv : ∀ i ∈ is, i ∈ vs) (σ : L2.St) (H : Hp) (Q : VK) (h : upF G (wLc wi g wt we vs) σ H Q) : tLc (upI G true wi) (upG G is g) (upT G wt) (up G true we) vs σ H Q := by
  obtain ⟨an, O, ρ, Φ, S, ⟨hno, h⟩, q⟩ := h
  have hno := noOwn_at hno
  refine ⟨an, O, ρ, _, S, h, fun J H1 ds src h1 sv im k1 i1 D hD => ?_⟩
  obtain ⟨JJ, j0, jt, je⟩ := h1
  have S1 := (S.keep k1 i1).ana im
  have hD0 : H D = none := S1.back k1 hD
  obtain ⟨bd, hbd⟩ := S1.ob
  have hj : ρ.length ≤ max bd ρ.length := Nat.le_max_right _ _
  -- what stands between two turns
  have start := S1.own (H' := upd H1 D (.lst [])) hD upd_same (Keep.new hD) (S1.newI hD) (max bd ρ.length) hj
  generalize hO2 : setO O (max bd ρ.length) (some D) = O2 at start
  have oD : O2 (max bd ρ.length) = some D := by rw [← hO2]; exact setO_same
  have nvD : ∀ a, Nv G.A O2 a → Nv G.A O a ∨ a = D := fun a z => by
    rcases z with z | ⟨i, z⟩
    · exact .inl (.inl z)
    · rw [← hO2] at z
      by_cases y : i = max bd ρ.length
      · rw [y, setO_same] at z; cases z; exact .inr rfl
      · rw [setO_ne y] at z; exact .inl (.inr ⟨i, z⟩)
  have nvD' : ∀ a, Nv G.A O a ∨ a = D → Nv G.A O2 a := fun a z => by
    rcases z with (z | ⟨i, z⟩) | z
    · exact .inl z
    · by_cases y : i = max bd ρ.length
      · rw [y, hbd _ (Nat.le_max_left _ _)] at z; cases z
      · exact .inr ⟨i, by rw [← hO2, setO_ne y]; exact z⟩
    · rw [z]; exact .inr ⟨_, oD⟩
  have kD : Keep G.R.M H1 (upd H1 D (.lst [])) := Keep.new hD
  refine ⟨fun i m H' => i + m = ds.length ∧ ∃ acc ws, JJ i acc ∧ acc.length ≤ 100000 ∧ H' D = some (.lst ws) ∧ ImA G.W (Nv G.A O2) H' acc ws ∧ Sta G (src ++ an) O2 σ H' ρ ∧ (∀ a o, a ≠ D → H1 a = some o → ¬ G.R.M a → H' a = some o) ∧ (∀ a xs, H1 a = some (.tup xs) → H' a = some (.tup xs)) ∧ (∀ a o u, H1 a = some (.frz o u) → H' a = some (.frz o u)),
    ⟨ds.length, by omega, [], [], j0, Nat.zero_le _, upd_same, rfl, start, fun a o n e _ => by rw [upd_ne n]; exact e, fun a xs e => kD.tp a xs e, fun a o u e => kD.fz a o u e⟩, ?_⟩
  rintro i m H2 ⟨hm, acc, ws, ja, hl, eD, ia, S2, c1, c2, c3⟩
  have sv2 := sv (Nv G.A O2) H2 i fun p hp => S2.as p (List.mem_append_left _ hp)
  by_cases hlt : i < ds.length
  · obtain ⟨go, yl⟩ := sv2.1 hlt
    refine .inr ⟨go, fun H' => ∃ acc ws, JJ (i + 1) acc ∧ acc.length ≤ 100000 ∧ H' D = some (.lst ws) ∧ ImA G.W (Nv G.A O2) H' acc ws ∧ Sta G (src ++ an) O2 σ H' ρ ∧ (∀ a o, a ≠ D → H1 a = some o → ¬ G.R.M a → H' a = some o) ∧ (∀ a xs, H1 a = some (.tup xs) → H' a = some (.tup xs)) ∧ (∀ a o u, H1 a = some (.frz o u) → H' a = some (.frz o u)), fun H' hN => ⟨m - 1, by omega, by omega, hN⟩, fun x H3 y => ?_⟩
    obtain ⟨k3, iv⟩ := yl x H3 y
    have hd : ds[i]? = some ds[i] := List.getElem?_eq_getElem hlt
    have S3 := S2.keep (Keep.none k3) (stK_of S2.inv k3)
    have dM : ¬ G.R.M D := S2.nM oD
    -- the heap may go on by steps that keep all but the drawn state
    have go_on : ∀ {H4 : Hp}, Keep G.R.M H2 H4 → G.R.I H4 → JJ (i + 1) acc → ∃ acc ws, JJ (i + 1) acc ∧ acc.length ≤ 100000 ∧ H4 D = some (.lst ws) ∧ ImA G.W (Nv G.A O2) H4 acc ws ∧ Sta G (src ++ an) O2 σ H4 ρ ∧ (∀ a o, a ≠ D → H1 a = some o → ¬ G.R.M a → H4 a = some o) ∧ (∀ a xs, H1 a = some (.tup xs) → H4 a = some (.tup xs)) ∧ (∀ a o u, H1 a = some (.frz o u) → H4 a = some (.frz o u)) := fun {H4} k4 i4 j4 =>
      ⟨acc, ws, j4, hl, k4.ob D _ eD dM, ImA.keep (k4.mono fun a m => .inl (S2.ra a m)) _ _ ia, S2.keep k4 i4, fun a o n e m => k4.ob a o (c1 a o n e m) m, fun a xs e => k4.tp a xs (c2 a xs e), fun a o u e => k4.fz a o u (c3 a o u e)⟩
    refine ⟨src ++ an, O2, wipeE ρ vs, ds[i], _, S3.wipe vs fun v hv => (hno v hv).2, iv _ hd, jt i _ acc hd ja hl, fun O4 σ4 ρ4 S4 h4 w4 x4 => ?_⟩
    refine ⟨?_, src ++ an, O4, ρ4, _, S4, h4, fun b H5 hb k5 i5 => ?_⟩
    · rw [w4 vs hv]
      exact wipe_sub σ vs vs fun _ h => h
    · have k25 := (Keep.none (M := G.R.M) k3).trans k5
      cases b with
      | false =>
        rw [if_neg Bool.false_ne_true] at hb
        show (if false = true then _ else _)
        rw [if_neg Bool.false_ne_true]
        exact go_on k25 i5 hb
      | true =>
        rw [if_pos rfl] at hb
        show (if true = true then _ else _)
        rw [if_pos rfl]
        refine ⟨src ++ an, O4, ρ4, _, S4.keep k5 i5, hb, fun y H6 d6 h6 im6 k6 i6 => ?_⟩
        have k26 := k25.trans k6
        have eD6 := k26.ob D _ eD dM
        refine ⟨ws, eD6, ?_, ?_⟩
        · rw [ImA.length ia]; exact Nat.lt_of_lt_of_le h6.1 (by decide)
        · have sub : ∀ a, Nv G.A O2 a → Nv G.A O4 a := fun a z => by
            rcases z with z | ⟨l, z⟩
            · exact .inl z
            · rcases x4 l a z with y | y
              · obtain ⟨y1, y2⟩ := hno l (hv l y)
                rcases S2.oe l a z with w | ⟨ds, w⟩
                · omega
                · exact absurd w (y2 ds)
              · exact .inr ⟨l, y⟩
          have im7 : Im G.W (Nv G.A O2) H6 d6 y := Im.avoid (fun a o _ z => sub a z) _ _ im6
          have S6 := S2.keep k26 i6
          have ia6 := ImA.keep (k26.mono fun a m => .inl (S2.ra a m)) _ _ ia
          have kD6 : Keep (Nv G.A O2) H6 (upd H6 D (.lst (ws ++ [y]))) := Keep.set eD6 (.inr ⟨_, oD⟩)
          refine ⟨acc ++ [d6], ws ++ [y], h6.2, by rw [List.length_append]; exact h6.1, upd_same, ?_, S6.chgP hj oD eD6, fun a o n e m => ?_, fun a xs e => ?_, fun a o u e => ?_⟩
          · exact ImA.keep kD6 _ _ (ImA.append ia6 (ImA.one im7))
          · rw [upd_ne n]; exact k26.ob a o (c1 a o n e m) m
          · exact kD6.tp a xs (k26.tp a xs (c2 a xs e))
          · exact kD6.fz a o u (k26.fz a o u (c3 a o u e))
  · have e : i = ds.length := by omega
    refine .inl ⟨sv2.2 (by omega), q D H2 acc ws (je acc (by rw [← e]; exact ja)) hD0 eD (ImA.avoid (fun a o _ z => nvD' a z) _ _ ia) ?_ S2.inv⟩
    exact ⟨fun a o e1 m => c1 a o (ne_of_none e1 hD0) (k1.ob a o e1 m) m, fun a xs e1 => c2 a xs (k1.tp a xs e1), fun a o u e1 => c3 a o u (k1.fz a o u e1)⟩
end
end DL

namespace DL
open PySem PySem.Spec PyProof.Rows L2

structure Rg (k : Nat) (A : Around) : Prop where
  room : Room k A
  free : A.guards = some []
theorem Rg.mono {j k : Nat} {A : Around} (r : Rg k A) (h : j ≤ k) : Rg j A := ⟨r.room.mono h, r.free⟩
theorem Rg.deeper {k : Nat} {A : Around} (r : Rg (k + 1) A) (env : Env) : Rg k (A.deeper env) := ⟨r.room.deeper env, r.free⟩

section
variable (P : Program) (w : World) (K : PySem.W.Frag) (mg : Str → Option Value) (base : Heap) (CX : CXT)
/-- the def at f, called where nothing is shown, keeps sp -/
structure FnG (k : Nat) (f : Addr) (fd : FuncData) (ps : List Str) (sp : Sp) : Prop where
  size : ∀ vs H Q E, sp vs H Q E → vs.length = ps.length
  goes : ∀ (A : Around) (env : List Env) (s : Shared) (H : Hp) (args : Args) (us : List Value) (vs : List V) (Q : VK) (E : XK), Rg k A →
    Env0 P w K mg base A env s H → BindsTo s fd args (ps.zip us) → Vals vs us → sp vs H Q E → codeAny (model P w) A (.call (.ref f) args) (CR CX env P w H s Q E) s
end
section
variable {P : Program} {w : World} {K : PySem.W.Frag} {mg : Str → Option Value} {base : Heap} {CX : CXT} {k : Nat} {f : Addr} {fd : FuncData} {ps : List Str} {sp : Sp}
theorem FnG.up {j : Nat} (F : FnG P w K mg base CX j f fd ps sp) (h : j ≤ k) : FnG P w K mg base CX k f fd ps sp :=
  ⟨F.size, fun A env s H args us vs Q E hr => F.goes A env s H args us vs Q E (hr.mono h)⟩
theorem FnG.of (F : FnOk P w K mg base CX k f fd ps sp) : FnG P w K mg base CX k f fd ps sp :=
  ⟨F.len, fun A env s H args us vs Q E hr => F.run A env s H args us vs Q E hr.room⟩
/-- a def of the text, by its body -/
theorem FnG.mk' {x qual : Str} {st : Stmt} {N : List Str} (F : Fun K x qual st f fd) (S : FnScope N ps (defScope st)) (size : ∀ vs H Q E, sp vs H Q E → vs.length = ps.length)
    (body : ∀ (cdv : Value) (A : Around) (env : List Env) (s : Shared) (H : Hp) (vs : List V) (Q : VK) (E : XK), Rg k (A.deeper (envOfC qual (defScope st) s.heap.objs.size f cdv)) → sp vs H Q E →
      ∃ t, PSs (cxOf CX P w K mg base N qual (defScope st) f cdv A env s H E) (defBody st) t ∧ t { nx := fun _ H2 => Q .non H2, rt := Q } (start N vs) H) : FnG P w K mg base CX (k + 1) f fd ps sp := by
  obtain ⟨oc, od, kV, doc, pm, an, cdv, ct, osl, rfl, lk, hcd⟩ := F.ex
  refine ⟨size, fun A env s H args us vs Q E hr e0 hb rv hsp => ?_⟩
  have keepK := e0.mod.kin.keeps fun b o e => (e0.bs b o e).1
  have keepL := e0.mod.nolimit.keeps fun b o e => (e0.bs b o e).1
  have kinds : ∀ y ∈ ps.zip us, (defScope st).names.lookup y.1 = some .local ∨ ((defScope st).names.lookup y.1 = some .cell ∧ ((cellsFrom (s.heap.objs.size + 1) (defScope st).names []).lookup y.1).isSome = true) := by
    rintro ⟨n, v⟩ hy
    exact (S.par n (List.of_mem_zip hy).1).elim .inl fun q => .inr ⟨q, PySem.W.cellsFrom_some _ _ _ (.inl q)⟩
  refine codeAny_call_function hr.room.depth (keepK _ _ lk) rfl S.co S.gen rfl (PySem.W.codeRec_of keepK hcd) (hb _ _ _ _ ?_)
  refine wpAny_newFunctionEnv_cells S.kind kinds fun e he s1 hc => ?_
  subst he
  refine ⟨keepL.keeps hc.toInCall.keep, codeAny_func ?_⟩
  obtain ⟨t, pt, q⟩ := body cdv A env s H vs Q E (hr.deeper _) hsp
  have I0 := inv_start (CX := CX) (P := P) (w := w) (cd := cdv) (qual := qual) (E := E) S hr.room.hd e0 (size _ _ _ _ hsp) rv hc
  refine wpAny_mono (pt.run [] s1 _ H _ I0 q) (fun fl s2 ends => ?_) fun _ _ z => z
  cases fl with
  | next => obtain ⟨_, H2, J, z⟩ := ends; exact ⟨.non, H2, J.os, J.bare, J.base, J.hok, rfl, z⟩
  | ret u => obtain ⟨v, _, H2, J, r2, z⟩ := ends; exact ⟨v, H2, J.os, J.bare, J.base, J.hok, r2, z⟩
  | brk => obtain ⟨_, _, _, z⟩ := ends; exact z.elim
  | cont => obtain ⟨_, _, _, z⟩ := ends; exact z.elim
end

/-- the parameters' order among positional and keyword values -/
def perm {α : Type} (idx : List Nat) (xs : List α) : List α := idx.filterMap fun i => xs[i]?
theorem perm_len {α : Type} {xs : List α} : ∀ idx : List Nat, (perm idx xs).length = (perm idx (List.range xs.length)).length
  | [] => rfl
  | i :: r => by
    have ih := perm_len (xs := xs) r
    unfold perm at ih ⊢
    by_cases hi : i < xs.length
    · rw [List.filterMap_cons_some (List.getElem?_eq_getElem hi), List.filterMap_cons_some (b := i) (by rw [List.getElem?_range hi]), List.length_cons, List.length_cons, ih]
    · rw [List.filterMap_cons_none (List.getElem?_eq_none (by omega)), List.filterMap_cons_none (List.getElem?_eq_none (by simp; omega)), ih]
structure Kb (K : PySem.W.Frag) (fd : FuncData) (ps ks : List Str) (n : Nat) (idx : List Nat) : Prop where
  to : ∀ (us ws : List Value), us.length = n → ws.length = ks.length → bindArgs fd ⟨us, ks.zip ws⟩ = pure (ps.zip (perm idx (us ++ ws)))
theorem Kb.of {K : PySem.W.Frag} {x qual : Str} {st : Stmt} {f : Addr} {fd : FuncData} {ps ks : List Str} {n : Nat} {idx : List Nat} (F : Fun K x qual st f fd)
    (h : ∀ (kV doc pm : Value) (an : Option Addr) (cdv ct : Value) (us ws : List Value), us.length = n → ws.length = ks.length → bindArgs (PySem.W.fnOf x qual (defArgs st) (defBody st) (defScope st) .none kV doc pm an cdv ct) ⟨us, ks.zip ws⟩ = pure (ps.zip (perm idx (us ++ ws)))) :
    Kb K fd ps ks n idx := by
  obtain ⟨oc, od, kV, doc, pm, an, cdv, ct, osl, rfl, lk, hcd⟩ := F.ex
  exact ⟨h kV doc pm an cdv ct⟩
section
variable {W : Wd} {N : Addr → Prop} {H : Hp}
theorem ImA.perm {ds : List PyData} {vs : List V} (h : ImA W N H ds vs) : ∀ idx : List Nat, ImA W N H (DL.perm idx ds) (DL.perm idx vs)
  | [] => rfl
  | i :: r => by
    have ih := ImA.perm h r
    show ImA W N H (List.filterMap (fun i => ds[i]?) (i :: r)) (List.filterMap (fun i => vs[i]?) (i :: r))
    cases e : ds[i]? with
    | none =>
      have e2 : vs[i]? = none := by
        rw [List.getElem?_eq_none_iff] at e ⊢
        rw [ImA.length h]; exact e
      rw [List.filterMap_cons_none e, List.filterMap_cons_none e2]
      exact ih
    | some d =>
      obtain ⟨v, e2, im⟩ := ImA.get h e
      rw [List.filterMap_cons_some e, List.filterMap_cons_some e2]
      exact ⟨v, _, rfl, im, ih⟩
theorem vals_perm {vs : List V} {us : List Value} (h : Vals vs us) : ∀ idx : List Nat, Vals (perm idx vs) (perm idx us)
  | [] => .nil
  | i :: r => by
    have ih := vals_perm h r
    show Vals (List.filterMap (fun i => vs[i]?) (i :: r)) (List.filterMap (fun i => us[i]?) (i :: r))
    cases e : vs[i]? with
    | none =>
      have e2 : us[i]? = none := by
        rw [List.getElem?_eq_none_iff] at e ⊢
        rw [← h.length]; exact e
      rw [List.filterMap_cons_none e, List.filterMap_cons_none e2]
      exact ih
    | some d =>
      obtain ⟨v, e2, im⟩ := h.get e
      rw [List.filterMap_cons_some e, List.filterMap_cons_some e2]
      exact .cons im ih
end

abbrev FD := List PyData → (PyData → Prop) → Prop
def spP (W : Wd) (n : Nat) (F : FD) : Sp := fun vs H Q _ => ∃ (N : Addr → Prop) (ds : List PyData) (Φ : PyData → Prop), vs.length = n ∧ (∀ a, N a → ∃ o, H a = some o) ∧ ImA W N H ds vs ∧ F ds Φ ∧
  ∀ v H' d, Φ d → Im W N H' d v → Keep (fun _ => False) H H' → Q v H'
/-- the same with the drawn state as first argument -/
def spR (W : Wd) (RR : Addr → Addr → Res) (n : Nat) (F : FD) : Sp := fun vs H Q _ => ∃ (b c : Addr) (N : Addr → Prop) (ds : List PyData) (vs' : List V) (Φ : PyData → Prop), vs = .ref (RR b c).b :: vs' ∧ vs.length = n ∧ (RR b c).I H ∧ (∀ a, (RR b c).M a → N a) ∧
  (∀ a, N a → ∃ o, H a = some o) ∧ ImA W N H ds vs' ∧ F ds Φ ∧ ∀ v H' d, Φ d → Im W N H' d v → Keep (RR b c).M H H' → (RR b c).I H' → Q v H'
def retX (Φ : PyData → Prop) : WX := ⟨fun _ => Φ .none, Φ, fun _ => False, fun _ => False⟩
def ev0 (n : Nat) (ds : List PyData) : Ev := ds.map .d ++ List.replicate (n - ds.length) .u
def ev1 (n : Nat) (ds : List PyData) : Ev := .m :: (ds.map .d ++ List.replicate (n - (ds.length + 1)) .u)
section
variable {W : Wd} {N : Addr → Prop} {H : Hp}
theorem nth_ev {es : Ev} {i : Nat} : nth es i = (es[i]?).getD .u := by
  induction es generalizing i with
  | nil => rfl
  | cons e r ih =>
    cases i with
    | zero => rfl
    | succ j => show nth r j = _; rw [ih]; rfl
theorem sta_start {P : Prop} {G : Gx} {ns : List Str} {ds : List PyData} {vs : List V} (hl : ds.length ≤ ns.length) (hI : G.R.I G.H0) (al : ∀ a, G.A a → ∃ o, G.H0 a = some o) (ra : ∀ a, G.R.M a → G.A a) (im : ImA G.W G.A G.H0 ds vs) :
    Sta G [] (fun _ => none) (start ns vs) G.H0 (ev0 ns.length ds) := by
  have lv := ImA.length im
  have avo : ∀ {d v}, Im G.W G.A G.H0 d v → Im G.W (Nv G.A fun _ => none) G.H0 d v := fun {d v} m => Im.avoid (fun a o _ z => z.elim id fun ⟨i, e⟩ => nomatch e) d v m
  refine ⟨hI, Keep.refl _, al, ra, fun i p e => (nomatch e), fun i j p e => (nomatch e), ⟨0, fun _ _ => rfl⟩, fun i p e => (nomatch e), ?_, fun i => ?_, fun p hp => (nomatch hp)⟩
  · unfold L2.start ev0
    simp only [List.length_append, List.length_map, List.length_replicate, lv]
  · rw [nth_ev]
    unfold ev0
    by_cases hi : i < ds.length
    · rw [List.getElem?_append_left (by simpa using hi), List.getElem?_map, List.getElem?_eq_getElem hi]
      obtain ⟨v, hv, m⟩ := ImA.get im (List.getElem?_eq_getElem hi)
      refine ⟨v, ?_, avo m⟩
      unfold L2.start
      rw [List.getElem?_append_left (by simp; omega), List.getElem?_map, hv]
      rfl
    · rw [List.getElem?_append_right (by simpa using hi), List.getElem?_replicate]
      split <;> trivial
theorem sta_startR {G : Gx} {ns : List Str} {ds : List PyData} {vs : List V} (hl : ds.length + 1 ≤ ns.length) (hI : G.R.I G.H0) (al : ∀ a, G.A a → ∃ o, G.H0 a = some o) (ra : ∀ a, G.R.M a → G.A a) (im : ImA G.W G.A G.H0 ds vs) :
    Sta G [] (fun _ => none) (start ns (.ref G.R.b :: vs)) G.H0 (ev1 ns.length ds) := by
  have lv := ImA.length im
  have avo : ∀ {d v}, Im G.W G.A G.H0 d v → Im G.W (Nv G.A fun _ => none) G.H0 d v := fun {d v} m => Im.avoid (fun a o _ z => z.elim id fun ⟨i, e⟩ => nomatch e) d v m
  refine ⟨hI, Keep.refl _, al, ra, fun i p e => (nomatch e), fun i j p e => (nomatch e), ⟨0, fun _ _ => rfl⟩, fun i p e => (nomatch e), ?_, fun i => ?_, fun p hp => (nomatch hp)⟩
  · unfold L2.start ev1
    simp only [List.length_append, List.length_map, List.length_replicate, List.length_cons, lv]
    omega
  · cases i with
    | zero => rfl
    | succ i =>
      rw [nth_ev]
      unfold ev1
      rw [List.getElem?_cons_succ]
      by_cases hi : i < ds.length
      · rw [List.getElem?_append_left (by simpa using hi), List.getElem?_map, List.getElem?_eq_getElem hi]
        obtain ⟨v, hv, m⟩ := ImA.get im (List.getElem?_eq_getElem hi)
        refine ⟨v, ?_, avo m⟩
        unfold L2.start
        rw [List.getElem?_append_left (by simp; omega), List.getElem?_map, List.getElem?_cons_succ, hv]
        rfl
      · rw [List.getElem?_append_right (by simpa using hi), List.getElem?_replicate]
        split <;> trivial
end
section
variable {P : Program} {w : World} {mg : Str → Option Value} {base : Heap} {W : Wd} {k : Nat} {f : Addr} {fd : FuncData} {ps N : List Str} {x qual : Str} {st : Stmt} {F : FD}
/-- a def that takes data and gives data -/
theorem ok_pure (Fn : Fun W.K x qual st f fd) (S : FnScope N ps (defScope st)) (hn : ps.length ≤ N.length) (len : ∀ ds Φ, F ds Φ → ds.length = ps.length)
    (body : ∀ (cdv : Value) (A : Around) (env : List Env) (s : Shared) (H : Hp) (E : XK) (N0 : Addr → Prop), Rg k (A.deeper (envOfC qual (defScope st) s.heap.objs.size f cdv)) →
      ∃ ws, PSs (cxOf CX0 P w W.K mg base N qual (defScope st) f cdv A env s H E).nox (defBody st) (upS ⟨W, Res.none, N0, H⟩ ws) ∧ ∀ ds Φ, F ds Φ → ws (retX Φ) (ev0 N.length ds)) :
    FnG P w W.K mg base CX0 (k + 1) f fd ps (spP W ps.length F) := by
  refine FnG.mk' Fn S (fun vs H Q E h => ?_) fun cdv A env s H vs Q E hr h => ?_
  · obtain ⟨N', ds, Φ, hl, _⟩ := h
    exact hl
  · obtain ⟨N', ds, Φ, hl, al, im, hF, q⟩ := h
    obtain ⟨ws, pt, hw⟩ := body cdv A env s H E N' hr
    refine ⟨_, pt.nox, [], _, _, retX Φ, sta_start (P := True) (by have := len ds Φ hF; omega) True.intro al (fun a z => z.elim) im, hw ds Φ hF, ?_, ?_, ?_, ?_⟩
    · exact fun O2 σ2 H2 ρ2 S2 z => q .non H2 .none z rfl S2.kp
    · exact fun v H2 d z m kk _ => q v H2 d z m kk
    · exact fun O2 σ2 H2 ρ2 S2 z => z
    · exact fun O2 σ2 H2 ρ2 S2 z => z
theorem ok_draw {RR : Addr → Addr → Res} (Fn : Fun W.K x qual st f fd) (S : FnScope N ps (defScope st)) (hn : ps.length ≤ N.length) (len : ∀ ds Φ, F ds Φ → ds.length + 1 = ps.length)
    (body : ∀ (cdv : Value) (A : Around) (env : List Env) (s : Shared) (H : Hp) (E : XK) (N0 : Addr → Prop) (b c : Addr), Rg k (A.deeper (envOfC qual (defScope st) s.heap.objs.size f cdv)) →
      ∃ ws, PSs (cxOf CX0 P w W.K mg base N qual (defScope st) f cdv A env s H E).nox (defBody st) (upS ⟨W, RR b c, N0, H⟩ ws) ∧ ∀ ds Φ, F ds Φ → ws (retX Φ) (ev1 N.length ds)) :
    FnG P w W.K mg base CX0 (k + 1) f fd ps (spR W RR ps.length F) := by
  refine FnG.mk' Fn S (fun vs H Q E h => ?_) fun cdv A env s H vs Q E hr h => ?_
  · obtain ⟨b, c, N', ds, vs', Φ, _, hl, _⟩ := h
    exact hl
  · obtain ⟨b, c, N', ds, vs', Φ, rfl, hl, hI, ra, al, im, hF, q⟩ := h
    obtain ⟨ws, pt, hw⟩ := body cdv A env s H E N' b c hr
    refine ⟨_, pt.nox, [], _, _, retX Φ, sta_startR (G := ⟨W, RR b c, N', H⟩) (by have := len ds Φ hF; omega) hI al ra im, hw ds Φ hF, ?_, ?_, ?_, ?_⟩
    · exact fun O2 σ2 H2 ρ2 S2 z => q .non H2 .none z rfl S2.kp S2.inv
    · exact fun v H2 d z m kk i => q v H2 d z m kk i
    · exact fun O2 σ2 H2 ρ2 S2 z => z
    · exact fun O2 σ2 H2 ρ2 S2 z => z
end
section
variable {X : Cx} {G : Gx} {pos p : Pos} {s : Bool} {e : Expr} {es : List Expr} {wr wk : WA} {kws : List Keyword} {x : Str} {k n : Nat} {f : Addr} {fd : FuncData} {ps ks : List Str} {sp : Sp} {F : FD} {idx : List Nat} {E : XK} {t tk : TA} {CX : CXT}
/-- the values of the keywords -/
theorem dk_nil : PK X [] (upA G s wNil) := ⟨fun pos pins sh σ H Q I ⟨an, O, ρ, Φ, S, h, q⟩ => pk_nil.run pos pins sh σ H Q I (q [] H [] h rfl (Keep.refl H) S.inv)⟩
theorem dk_cons {nm : Option Str} {kp : Pos} {wa : WE} (ha : PE X e (up G s wa)) (hr : PK X kws (upA G s wr)) : PK X (⟨nm, e, kp⟩ :: kws) (upA G s (wCons wa wr)) := ⟨fun pos pins sh σ H Q I ⟨an, O, ρ, Φ, S, h, q⟩ => by
  refine (pk_cons ha hr).run pos pins sh σ H Q I ⟨an, O, ρ, _, S, h, fun v H1 d h1 im k1 i1 => ?_⟩
  refine ⟨an, O, ρ, _, S.keep k1 i1, h1, fun vs H2 ds h2 im2 k2 i2 => ?_⟩
  exact q (v :: vs) H2 (d :: ds) h2 ⟨v, vs, rfl, (S.keep k1 i1).im k2 im, im2⟩ (k1.trans k2) i2⟩
theorem goG {pins : List (Addr × Obj)} {σ : L2.St} {H : Hp} {sh : Shared} {Q : VK} {us ws : List Value} {vs zs : List V} (Fn : FnG X.prog X.w X.K X.mg X.base CX k f fd ps sp) (hr : Rg k X.A) (hb : Kb X.K fd ps ks n idx) (hx : Passes CX X E)
    (I : Inv X pins σ H sh) (r : Vals vs us) (rz : Vals zs ws) (l1 : vs.length = n) (l2 : zs.length = ks.length) (h : sp (perm idx (vs ++ zs)) H Q E) : wpAny (model X.prog X.w) X.A (call (.ref f) us (ks.zip ws)) (EP X pins σ Q) X.xe sh := by
  have b := hb.to us ws (r.length.symm.trans l1) (rz.length.symm.trans l2)
  refine wpAny_call (codeAny_mono (Fn.goes X.A X.stack sh H _ _ _ Q E hr I.env0 (.of_eq b) (vals_perm (r.append rz) idx) h) fun res s2 hq => ?_)
  rcases res with e | fl
  · exact hx pins σ H sh e s2 I hq
  · cases fl <;> first | exact I.after hq | exact False.elim hq
def tG (sp : Sp) (n m : Nat) (idx : List Nat) (E : XK) (t tk : TA) : TE := fun σ H Q => t σ H fun vs H1 => tk σ H1 fun zs H2 => vs.length = n ∧ zs.length = m ∧ sp (perm idx (vs ++ zs)) H2 Q E
theorem pe_callGP (Fn : FnG X.prog X.w X.K X.mg X.base CX k f fd ps sp) (hr : Rg k X.A) (hb : Kb X.K fd ps [] n idx) (hx : Passes CX X E) (hg : Gl X x) (hm : X.mg x = some (.ref f)) (hk : PySem.W.keepIn X.K (.ref f) = true) (ha : PA X (e :: es) t)
    (hdb : (x == ("__debug__" : Str)) = false := by decide) (he : starEach (e :: es) X.env = (false, eval e X.env) :: starEach es X.env := by rfl) (hpl : (backTo pos (starEach es X.env)).any (·.1) = false := by rfl) :
    PE X (.Call (.Name x p) (e :: es) [] pos) (tG sp n 0 idx E t tNil) := ⟨fun pins sh σ H Q I h => by
  refine wpAny_Call_Name_kw (ld_glob I hg hm ?_ hdb)
  refine PySem.W.callWith_K (h₀ := X.base) I.ok.mod.kin hk (thn (ha.run pos pins sh σ H _ I h) fun us s1 ⟨vs, H1, I1, r, l1, l2, q⟩ => ⟨I1.kIn, ?_⟩) he hpl
  exact goG (ks := []) (ws := []) Fn hr hb hx I1 r .nil l1 l2 q⟩
theorem pe_callGK (Fn : FnG X.prog X.w X.K X.mg X.base CX k f fd ps sp) (hr : Rg k X.A) (hb : Kb X.K fd ps ks n idx) (hx : Passes CX X E) (hg : Gl X x) (hm : X.mg x = some (.ref f)) (hk : PySem.W.keepIn X.K (.ref f) = true) (ha : PA X (e :: es) t) (hkw : PK X kws tk)
    (hall : (backToKw pos (keywordEach kws X.env)).all (·.1.isSome) = true := by rfl) (hks : (backToKw pos (keywordEach kws X.env)).filterMap (·.1) = ks := by rfl) (hdb : (x == ("__debug__" : Str)) = false := by decide)
    (he : starEach (e :: es) X.env = (false, eval e X.env) :: starEach es X.env := by rfl) (hpl : ((backTo pos (starEach (e :: es) X.env)).any (·.1) || (backToKw pos (keywordEach kws X.env)).any (·.1.isNone)) = false := by rfl) :
    PE X (.Call (.Name x p) (e :: es) kws pos) (tG sp n ks.length idx E t tk) := ⟨fun pins sh σ H Q I h => by
  refine wpAny_Call_Name_kw (ld_glob I hg hm ?_ hdb)
  refine PySem.W.callWith_KW (h₀ := X.base) I.ok.mod.kin hk hall (thn (ha.run pos pins sh σ H _ I h) fun us s1 ⟨vs, H1, I1, r, q⟩ => thn (hkw.run pos pins s1 σ H1 _ I1 q) fun ws s2 ⟨zs, H2, I2, rz, l1, l2, q2⟩ => ⟨I2.kIn, ?_⟩) hpl he
  rw [hks]
  exact goG Fn hr hb hx I2 r rz l1 l2 q2⟩
theorem pe_callG0 (Fn : FnG X.prog X.w X.K X.mg X.base CX k f fd ps sp) (hr : Rg k X.A) (hb : Kb X.K fd ps ks 0 idx) (hx : Passes CX X E) (hg : Gl X x) (hm : X.mg x = some (.ref f)) (hk : PySem.W.keepIn X.K (.ref f) = true) (hkw : PK X kws tk)
    (hall : (backToKw pos (keywordEach kws X.env)).all (·.1.isSome) = true := by rfl) (hks : (backToKw pos (keywordEach kws X.env)).filterMap (·.1) = ks := by rfl) (hdb : (x == ("__debug__" : Str)) = false := by decide)
    (hpl : ((backTo pos (starEach [] X.env)).any (·.1) || (backToKw pos (keywordEach kws X.env)).any (·.1.isNone)) = false := by rfl) :
    PE X (.Call (.Name x p) [] kws pos) (tG sp 0 ks.length idx E tNil tk) := ⟨fun pins sh σ H Q I h => by
  refine wpAny_Call_Name_kw (ld_glob I hg hm ?_ hdb)
  refine PySem.W.callWith_KW0 (h₀ := X.base) I.ok.mod.kin hk hall (thn (hkw.run pos pins sh σ H _ I h) fun ws s2 ⟨zs, H2, I2, rz, l1, l2, q2⟩ => ⟨I2.kIn, ?_⟩) hpl
  rw [hks]
  exact goG (us := []) (vs := []) Fn hr hb hx I2 .nil rz l1 l2 q2⟩
/-- data in, data out -/
def wG (F : FD) (n m : Nat) (idx : List Nat) (wr wk : WA) : WE := fun ρ Φ => wr ρ fun xs => wk ρ fun ys => xs.length = n ∧ ys.length = m ∧ F (perm idx (xs ++ ys)) Φ
theorem up_G {m : Nat} (hp : (perm idx (List.range (n + m))).length = ps.length) (σ : L2.St) (H : Hp) (Q : VK) (h : up G s (wG F n m idx wr wk) σ H Q) : tG (spP G.W ps.length F) n m idx E (upA G s wr) (upA G s wk) σ H Q := by
  obtain ⟨an, O, ρ, Φ, S, h, q⟩ := h
  refine ⟨an, O, ρ, _, S, h, fun vs H1 ds h1 im k1 i1 => ?_⟩
  have S1 := S.keep k1 i1
  refine ⟨an, O, ρ, _, S1, h1, fun zs H2 es h2 im2 k2 i2 => ?_⟩
  have S2 := S1.keep k2 i2
  obtain ⟨l1, l2, hF⟩ := h2
  have ia := ImA.append (S1.ima k2 im) im2
  have lp : (perm idx (vs ++ zs)).length = ps.length := by
    rw [perm_len, List.length_append, ImA.length im, ImA.length im2, l1, l2]
    exact hp
  refine ⟨(ImA.length im).trans l1, (ImA.length im2).trans l2, Nn G O s, _, Φ, lp, fun a z => S2.there (nn_v z), ImA.perm ia idx, hF, fun v H3 d hd im3 k3 => ?_⟩
  have k3' : Keep G.R.M H2 H3 := k3.mono fun a z => z.elim
  exact q v H3 d hd im3 ((k1.trans k2).trans k3') (G.R.st _ _ i2 fun a o _ e => k3.ob a o e id)

structure Cal (P : Program) (w : World) (K : PySem.W.Frag) (mg : Str → Option Value) (base : Heap) (k : Nat) (x : Str) (st : Stmt) (ps : List Str) (sp : Sp) : Prop where
  ex : ∃ (f : Addr) (fd : FuncData), Fun K x x st f fd ∧ mg x = some (.ref f) ∧ FnG P w K mg base CX0 k f fd ps sp
/-- how x's parameters are bound -/
def KbS (x : Str) (st : Stmt) (ps ks : List Str) (n : Nat) (idx : List Nat) : Prop := ∀ (kV doc pm : Value) (an : Option Addr) (cdv ct : Value) (us ws : List Value), us.length = n → ws.length = ks.length →
  bindArgs (PySem.W.fnOf x x (defArgs st) (defBody st) (defScope st) .none kV doc pm an cdv ct) ⟨us, ks.zip ws⟩ = pure (ps.zip (perm idx (us ++ ws)))
variable {j : Nat} {st : Stmt}
theorem de_callP (C : Cal X.prog X.w G.W.K X.mg X.base k x st ps (spP G.W ps.length F)) (hK : X.K = G.W.K) (hr : Rg j X.A) (hb : KbS x st ps [] n idx) (hkj : k ≤ j) (hg : Gl X x) (ha : PA X (e :: es) (upA G s wr)) (hp : (perm idx (List.range (n + 0))).length = ps.length := by rfl)
    (hdb : (x == ("__debug__" : Str)) = false := by decide) (he : starEach (e :: es) X.env = (false, eval e X.env) :: starEach es X.env := by rfl) (hpl : (backTo pos (starEach es X.env)).any (·.1) = false := by rfl) :
    PE X (.Call (.Name x p) (e :: es) [] pos) (up G s (wG F n 0 idx wr wNil)) := by
  obtain ⟨f, fd, Fn, hm, Fg⟩ := C.ex
  rw [← hK] at Fn Fg
  refine pe_weak (pe_callGP (E := fun _ _ _ => False) Fg (hr.mono hkj) (Kb.of Fn hb) pass0 hg hm Fn.kp ha hdb he hpl) fun σ H Q h => ?_
  obtain ⟨an, O, ρ, Φ, S, h, q⟩ := up_G (E := fun _ _ _ => False) hp σ H Q h
  refine ⟨an, O, ρ, _, S, h, fun vs H1 ds h1 im k1 i1 => ?_⟩
  obtain ⟨an2, O2, ρ2, Φ2, S2, h2, q2⟩ := q vs H1 ds h1 im k1 i1
  exact q2 [] H1 [] h2 rfl (Keep.refl _) S2.inv
theorem de_callPK (C : Cal X.prog X.w G.W.K X.mg X.base k x st ps (spP G.W ps.length F)) (hK : X.K = G.W.K) (hr : Rg j X.A) (hb : KbS x st ps ks n idx) (hkj : k ≤ j) (hg : Gl X x) (ha : PA X (e :: es) (upA G s wr)) (hkw : PK X kws (upA G s wk)) (hp : (perm idx (List.range (n + ks.length))).length = ps.length := by rfl)
    (hall : (backToKw pos (keywordEach kws X.env)).all (·.1.isSome) = true := by rfl) (hks : (backToKw pos (keywordEach kws X.env)).filterMap (·.1) = ks := by rfl) (hdb : (x == ("__debug__" : Str)) = false := by decide)
    (he : starEach (e :: es) X.env = (false, eval e X.env) :: starEach es X.env := by rfl) (hpl : ((backTo pos (starEach (e :: es) X.env)).any (·.1) || (backToKw pos (keywordEach kws X.env)).any (·.1.isNone)) = false := by rfl) :
    PE X (.Call (.Name x p) (e :: es) kws pos) (up G s (wG F n ks.length idx wr wk)) := by
  obtain ⟨f, fd, Fn, hm, Fg⟩ := C.ex
  rw [← hK] at Fn Fg
  exact pe_weak (pe_callGK (E := fun _ _ _ => False) Fg (hr.mono hkj) (Kb.of Fn hb) pass0 hg hm Fn.kp ha hkw hall hks hdb he hpl) fun σ H Q h => up_G hp σ H Q h
theorem de_callP0 (C : Cal X.prog X.w G.W.K X.mg X.base k x st ps (spP G.W ps.length F)) (hK : X.K = G.W.K) (hr : Rg j X.A) (hb : KbS x st ps ks 0 idx) (hkj : k ≤ j) (hg : Gl X x) (hkw : PK X kws (upA G s wk)) (hp : (perm idx (List.range (0 + ks.length))).length = ps.length := by rfl)
    (hall : (backToKw pos (keywordEach kws X.env)).all (·.1.isSome) = true := by rfl) (hks : (backToKw pos (keywordEach kws X.env)).filterMap (·.1) = ks := by rfl) (hdb : (x == ("__debug__" : Str)) = false := by decide)
    (hpl : ((backTo pos (starEach [] X.env)).any (·.1) || (backToKw pos (keywordEach kws X.env)).any (·.1.isNone)) = false := by rfl) :
    PE X (.Call (.Name x p) [] kws pos) (up G s (wG F 0 ks.length idx wNil wk)) := by
  obtain ⟨f, fd, Fn, hm, Fg⟩ := C.ex
  rw [← hK] at Fn Fg
  refine pe_weak (pe_callG0 (E := fun _ _ _ => False) Fg (hr.mono hkj) (Kb.of Fn hb) pass0 hg hm Fn.kp hkw hall hks hdb hpl) fun σ H Q h => ?_
  obtain ⟨an, O, ρ, Φ, S, h, q⟩ := up_G (E := fun _ _ _ => False) hp σ H Q h
  exact q [] H [] h rfl (Keep.refl _) S.inv
/-- the same with the drawn state, in slot i, as first argument -/
def wGR (i : Nat) (F : FD) (n : Nat) (wr : WA) : WE := fun ρ Φ => match nth ρ i with | .m => (wr ρ fun xs => xs.length + 1 = n ∧ F xs Φ) | _ => False
theorem perm_id {α : Type} (xs : List α) (n : Nat) (h : xs.length = n) : perm (List.range n) xs = xs := by
  subst h
  unfold perm
  induction xs with
  | nil => rfl
  | cons x xs ih =>
    rw [List.length_cons, List.range_succ_eq_map, List.filterMap_cons_some (f := fun i => (x :: xs)[i]?) (b := x) rfl, List.filterMap_map]
    exact congrArg (x :: ·) ih
theorem de_callR {RR : Addr → Addr → Res} {b c : Addr} {y : Str} {py : Pos} (i : Nat) (C : Cal X.prog X.w G.W.K X.mg X.base k x st ps (spR G.W RR ps.length F)) (hR : G.R = RR b c) (hK : X.K = G.W.K) (hr : Rg j X.A) (hb : KbS x st ps [] ps.length (List.range ps.length)) (hkj : k ≤ j) (hg : Gl X x)
    (ha : PA X es (upA G s wr)) (hN : X.N[i]? = some y := by rfl) (hv : Vis X.env.scope y := by first | exact Or.inl rfl | exact Or.inr (Or.inl rfl) | exact Or.inr (Or.inr rfl)) (hd : (y == ("__debug__" : Str)) = false := by decide) (hcd : (y == ("__classdict__" : Str)) = false := by decide)
    (hdb : (x == ("__debug__" : Str)) = false := by decide) (he : starEach (.Name y py :: es) X.env = (false, eval (.Name y py) X.env) :: starEach es X.env := by rfl) (hpl : (backTo pos (starEach es X.env)).any (·.1) = false := by rfl) :
    PE X (.Call (.Name x p) (.Name y py :: es) [] pos) (up G s (wGR i F ps.length wr)) := by
  obtain ⟨f, fd, Fn, hm, Fg⟩ := C.ex
  rw [← hK] at Fn Fg
  refine pe_weak (pe_callGP (E := fun _ _ _ => False) Fg (hr.mono hkj) (Kb.of Fn hb) pass0 hg hm Fn.kp (pa_cons (pe_var hN hv hd hcd) ha he) hdb he hpl) fun σ H Q ⟨an, O, ρ, Φ, S, h, q⟩ => ?_
  have en := S.en i
  unfold wGR at h
  cases hx : nth ρ i with
  | m =>
    rw [hx] at en h
    refine ⟨.ref G.R.b, en, an, O, ρ, _, S, h, fun vs H1 ds h1 im k1 i1 => ?_⟩
    have S1 := S.keep k1 i1
    obtain ⟨l1, hF⟩ := h1
    have lv : (V.ref G.R.b :: vs).length = ps.length := by rw [List.length_cons, ImA.length im]; exact l1
    refine ⟨lv, rfl, ?_⟩
    rw [List.append_nil, perm_id _ _ lv]
    refine ⟨b, c, Nn G O s, ds, vs, Φ, by rw [hR], lv, by rw [← hR]; exact i1, fun a z => nn_a (S.ra a (by rw [hR]; exact z)), fun a z => S1.there (nn_v z), im, hF, fun v H2 d hd m2 k2 i2 => ?_⟩
    rw [← hR] at k2 i2
    exact q v H2 d hd m2 (k1.trans k2) i2
  | _ => rw [hx] at h; exact h.elim
end
end DL

namespace DL
open PySem PySem.Spec PyProof.Rows L2
open AutoSeq1 (wpAny_loadPart')

theorem enum_newT (a : Addr) (o : Obj) (items : Array Value) (n : Nat) (hc : o.cls = .type "tuple") (hd : o.data = .seq items n) :
    Meets (Builtin.«enumerate.__new__» ⟨[.type "enumerate", .ref a], []⟩) (fun _ R s => s.heap.get? a = some o ∧
      R (.ok (.ret (.ref (s.heap.push { cls := .type "tuple_iterator", data := .fields #[.ref a, .int 0 0] }).objs.size)))
        { s with heap := (s.heap.push { cls := .type "tuple_iterator", data := .fields #[.ref a, .int 0 0] }).push { cls := .type "enumerate", data := .fields #[.none, .bool false, .ref s.heap.objs.size, rawInt 0, .none, .none] } }) := by
  obtain ⟨cls, dct, data, sl⟩ := o
  subst hc hd
  refine .of_wp fun prog w A R s h => ?_
  obtain ⟨hp, g, d, tk, os⟩ := s
  obtain ⟨hl, h⟩ := h
  have sub0 := sub_enumerate
  have hT : Heap.IsTuple (Shared.heap ⟨hp, g, d, tk, os⟩) a items := ⟨_, hl, rfl, n, rfl⟩
  wp_walk using wpAny_loadPart' hl
  refine wpAny_stack_any fun st => wpAny_pure ?_
  split
  · rename_i c _ _ _ _ _
    cases (c == Value.type "enumerate") <;>
    · wp_walk using wpAny_loadPart' hl, wpAny_pyIter_tuple hT
      exact ⟨_, rfl, h⟩
  · wp_walk using wpAny_loadPart' hl, wpAny_pyIter_tuple hT
    exact ⟨_, rfl, h⟩

theorem call_enumT {prog : Program} {w : World} {A : Around} {E : Value → Shared → Prop} {s : Shared} {a : Addr} {items : Array Value} {Q : Value → Shared → Prop} (hT : IsTup s.heap a items)
    (h : ∀ h2, IsEnum h2 (s.heap.objs.size + 1) s.heap.objs.size 0 .none → h2.IsTupleIter s.heap.objs.size a 0 → h2.objs.size = s.heap.objs.size + 2 →
      (∀ b o, s.heap.get? b = some o → h2.get? b = some o) → Q (.ref (s.heap.objs.size + 1)) { s with heap := h2 }) : wpAny (model prog w) A (call (.type "enumerate") [.ref a]) Q E s := by
  obtain ⟨o, hl, hc, n, hd⟩ := hT
  refine callType_new F.called_enumerate (by decide) (F.typeCall_enumerate_1 _) (F.newCall_enumerate_1 _) (fun obj => F.args_object_init_2 obj _) F.entry_enumerate_new (enum_newT a o items n hc hd) ⟨hl, ?_⟩
  generalize hI : ({ cls := .type "tuple_iterator", data := .fields #[.ref a, .int 0 0] } : Obj) = oI
  have fI : oI.isFreed = false := by rw [← hI]; rfl
  generalize hG : ({ cls := .type "enumerate", data := .fields #[.none, .bool false, .ref s.heap.objs.size, rawInt 0, .none, .none] } : Obj) = oE
  have fE : oE.isFreed = false := by rw [← hG]; rfl
  have z1 : (s.heap.push oI).objs.size = s.heap.objs.size + 1 := Heap.size_push ..
  have gE : ((s.heap.push oI).push oE).get? (s.heap.objs.size + 1) = some oE := by
    rw [← z1]
    exact Heap.get?_push_size _ fE
  have gI : ((s.heap.push oI).push oE).get? s.heap.objs.size = some oI := Heap.get?_push_of_some _ (Heap.get?_push_size _ fI)
  show _ ∧ _
  rw [z1]
  subst hG
  exact ⟨⟨_, gE, rfl⟩, h _ gE ⟨oI, gI, by rw [← hI], by rw [← hI]; rfl⟩ (by rw [Heap.size_push, z1]) fun b u y => Heap.get?_push_of_some _ (Heap.get?_push_of_some _ y)⟩
theorem enum_stop {prog : Program} {w : World} {A : Around} {E : Value → Shared → Prop} {s : Shared} {e it a : Addr} {i : Nat} {items : Array Value} {c : Int} {old : Value} {Q : Option Value → Shared → Prop} (hh : A.handled = none) (ha : a ≠ it)
    (he : IsEnum s.heap e it c old) (hit : s.heap.IsTupleIter it a i) (hT : s.heap.IsTuple a items) (hi : items.size ≤ i) (hQ : ∀ h2, Heap.ExtBut it s.heap h2 → Q none { s with heap := h2 }) : wpAny (model prog w) A (pyNext (.ref e)) Q E s := by
  have ty : s.TypeIs (.ref e) "enumerate" := ⟨_, he, rfl⟩
  unfold pyNext
  refine wpAny_bind (wpAny_attempt (wpAny_callSpecial?_slot (name := Str.ofString "__next__") ty F.slot_enumerate_next (wpAny_call_entry F.slot_enumerate_next ty F.entry_enumerate_next ?_ (F.args_enumerate_next_1 _))))
  show wpAny _ _ (field (.ref e) 2 >>= _) _ _ _
  refine wpAny_bind (wpAny_field he rfl (x := .ref it) rfl (wpAny_bind ?_))
  refine wpAny_nextOf_tuple_end (A := A.in1) (by exact hh) hit hT (by rw [Array.getElem?_eq_none_iff]; exact hi) fun h2 x hb hx => ?_
  obtain ⟨o, ho, hc⟩ := hx
  exact wpAny_bind (wpAny_isInstance (T := "StopIteration") (b := true) ⟨o, ho, hc⟩ isSubtype_stop (wpAny_pure (hQ _ hb)))
/-- the tuple at a, each item in a new pair -/
def IteT (K : PySem.W.Frag) (a : Addr) : It where
  go := fun i H => ∃ (xs : List V) (x : V), SqT K H a xs ∧ xs[i]? = some x
  yld := fun i H v H' => ∃ T x, v = .ref T ∧ H T = none ∧ H' = upd H T (.tup [.int (i : Nat), x]) ∧ ∀ xs, SqT K H a xs → xs[i]? = some x
  stop := fun i H => ∃ xs : List V, SqT K H a xs ∧ xs.length ≤ i
theorem turn_enumT {P : Program} {w : World} {K : PySem.W.Frag} {elts : List Expr} {kk : Nat} {tpos : Pos} (a e it : Addr) :
    Turn P w K (.Tuple elts kk tpos) (IteT K a) [e, it] e (fun i h => (∃ old, IsEnum h e it ((i : Nat) : Int) old) ∧ h.IsTupleIter it a i ∧ e ≠ it) where
  mem := List.mem_cons_self
  obj := fun i h st b hb => by
    obtain ⟨⟨old, he⟩, ⟨o, ho, hc, hd⟩, _⟩ := st
    rcases List.mem_cons.mp hb with rfl | hb
    · exact ⟨_, he, fun v q => nomatch q⟩
    · obtain rfl := List.mem_singleton.mp hb
      exact ⟨o, ho, fun v q => by rw [hd] at q; cases q⟩
  keep := fun i h h2 st k => by
    obtain ⟨⟨old, he⟩, hi, hne⟩ := st
    exact ⟨⟨old, k e List.mem_cons_self _ he⟩, hi.at fun o q => k it (List.mem_cons_of_mem _ List.mem_cons_self) o q, hne⟩
  item := by
    intro X hP hw hK hc i pins s σ H E I hf st hg
    subst hP hw hK
    obtain ⟨⟨old, he⟩, hit, hne⟩ := st
    obtain ⟨xs, x, hq, hx⟩ := hg
    obtain ⟨its, rv, p, hz⟩ := I.tuple hq
    obtain ⟨u, hu, ru⟩ := rv.get hx
    have a1 : a ≠ e := fun z => by
      obtain ⟨o, ho, hcl, _⟩ := p
      rw [z, he] at ho
      cases ho
      exact absurd hcl (by show Value.type "enumerate" ≠ _; decide +kernel)
    have a2 : a ≠ it := fun z => by
      obtain ⟨o, ho, hcl, _⟩ := p
      obtain ⟨o2, ho2, hcl2, _⟩ := hit
      rw [z, ho2] at ho
      cases ho
      rw [hcl] at hcl2
      exact absurd hcl2 (by decide +kernel)
    have lte : e < s.heap.objs.size := Heap.lt_size he
    have lti : it < s.heap.objs.size := by obtain ⟨_, q, _⟩ := hit; exact Heap.lt_size q
    have li : i < its.toArray.size := by
      rw [List.size_toArray]
      exact (List.getElem?_eq_some_iff.mp hu).1
    refine wpAny_pyNext_enum_itemD (Draws.tuple (A := X.A.in1) (I.ok.hd hc) it a a2 its.toArray) he ⟨hit, p⟩ li hne (fun z => by simp [hne, Ne.symm a1] at z) fun y h1 tk hy ho hst hT hsz hk => ?_
    obtain rfl : y = u := by
      rw [List.getElem?_toArray, hu] at hy
      exact (Option.some.inj hy).symm
    refine ⟨_, rfl, wpAny_letOwnedTupleGo_enum (s := { s with heap := h1, toks := tk + 1 }) ho fun h3 he3 sb => ?_⟩
    have hT2 := (sb.2 _ (Nat.ne_of_gt lte)).trans hT
    have nu : ObjOk X.prog X.w (upd H s.heap.objs.size (.tup [.int (i : Nat), x])) h3 s.heap.objs.size (.tup [.int (i : Nat), x]) :=
      ⟨by show 2 ≤ sizeLine; decide, [.int i tk, y], .cons ⟨_, rfl⟩ (.cons ru .nil), ⟨_, hT2, rfl, _, rfl⟩⟩
    have I1 : Inv X pins σ (upd H s.heap.objs.size (.tup [.int (i : Nat), x])) { s with heap := h3, toks := tk + 1 } :=
      I.turnedNew (ch := [e, it]) (fun b ob hb q => (sb.2 b (fun z => hb (by rw [z]; exact List.mem_cons_self))).trans (hk b ob (fun z => hb (by rw [z]; exact List.mem_cons_self)) (fun z => hb (by rw [z]; exact List.mem_cons_of_mem _ List.mem_cons_self)) q)) hf (Nat.le_refl _) nu
    refine ⟨.ref s.heap.objs.size, _, I1, rfl, ⟨_, x, rfl, I.hok.fresh (Nat.le_refl _), rfl, fun ys hy => by rw [I.tuple_inj hy hq]; exact hx⟩, ⟨⟨y, ?_⟩, hst.1.at fun o q => (sb.2 it (Ne.symm hne)).trans q, hne⟩, fun b hb => ?_⟩
    · rw [show ((i + 1 : Nat) : Int) = (i : Int) + 1 by omega]
      exact he3
    · have lb : b < s.heap.objs.size := by
        rcases List.mem_cons.mp hb with rfl | hb
        · exact lte
        · rw [List.mem_singleton.mp hb]; exact lti
      rw [upd_ne (Nat.ne_of_lt lb)]
      exact (hf b hb).1
  done := by
    intro X hP hw hK hc i pins s σ H E I hf st hg
    subst hP hw hK
    obtain ⟨⟨old, he⟩, hit, hne⟩ := st
    obtain ⟨xs, hq, hx⟩ := hg
    obtain ⟨its, rv, p, hz⟩ := I.tuple hq
    obtain ⟨f0, f1, f2, f3, f4, f5⟩ := hf it (List.mem_cons_of_mem _ List.mem_cons_self)
    have a2 : a ≠ it := fun z => by
      obtain ⟨o, ho, hcl, _⟩ := p
      obtain ⟨o2, ho2, hcl2, _⟩ := hit
      rw [z, ho2] at ho
      cases ho
      rw [hcl] at hcl2
      exact absurd hcl2 (by decide +kernel)
    have hl := rv.length
    refine enum_stop (I.ok.hd hc) a2 he hit p (by rw [List.size_toArray]; omega) fun h2 eb => ⟨rfl, I.turned (t' := s.toks) (fun b o hb q => eb b o hb q) f0 f1 f3 f4 f5⟩
  self := fun A i s Q E st h => let ⟨⟨_, he⟩, _⟩ := st; wpAny_pyIter_enum he h
def iEnumT (K : PySem.W.Frag) (ta : TA) : TI := fun σ H R => ta σ H fun vs H1 => ∃ a, vs = [.ref a] ∧ ((∃ xs, SqL K H1 a xs ∧ R (Ite K a) H1) ∨ ∃ xs, SqT K H1 a xs ∧ R (IteT K a) H1)
theorem pi_enumT {X : Cx} {e : Expr} {ta : TA} {p pos tpos : Pos} {elts : List Expr} {kk : Nat} (hg : Gl X "enumerate") (hm : X.mg "enumerate" = none) (ha : PA X [e] ta) (hs : starEach [e] X.env = [(false, eval e X.env)] := by rfl) :
    PI X (.Tuple elts kk tpos) (.Call (.Name "enumerate" p) [e] [] pos) (iEnumT X.K ta) := ⟨fun pins s σ H R I h => by
  refine Call_ (ld_blt I hg hm boot_enumerate (PyProof.Rows.callWith_type1 (thn (ha.run pos pins s σ H _ I h) fun us s1 ⟨vs, H1, I1, r1, a, ex, q1⟩ => ?_) hs rfl))
  subst ex
  cases r1 with
  | cons r rr =>
    cases rr
    cases r
    have fresh : ∀ b ∈ [s1.heap.objs.size + 1, s1.heap.objs.size], s1.heap.objs.size ≤ b := fun b hb => by
      rcases List.mem_cons.mp hb with rfl | hb
      · omega
      · rw [List.mem_singleton.mp hb]; omega
    rcases q1 with ⟨xs, hq, q⟩ | ⟨xs, hq, q⟩
    · obtain ⟨its, rv, p', hz⟩ := I1.list hq
      refine call_enumerate_list p'.isList fun h2 he hit hsz hk => wpAny_pyIter_enum he ?_
      exact ⟨_, _, _, _, H1, rfl, I1.kept (t' := s1.toks) hk, turn_enum a _ s1.heap.objs.size, ⟨⟨.none, he⟩, hit, Nat.succ_ne_self _⟩, fun b hb => I1.fpOk (fresh b hb) (I1.hok.fresh (fresh b hb)), q⟩
    · obtain ⟨its, rv, p', hz⟩ := I1.tuple hq
      refine call_enumT p' fun h2 he hit hsz hk => wpAny_pyIter_enum he ?_
      exact ⟨_, _, _, _, H1, rfl, I1.kept (t' := s1.toks) hk, turn_enumT a _ s1.heap.objs.size, ⟨⟨.none, he⟩, hit, Nat.succ_ne_self _⟩, fun b hb => I1.fpOk (fresh b hb) (I1.hok.fresh (fresh b hb)), q⟩⟩
end DL

namespace DL
open PySem PySem.Spec PyProof.Rows L2

section
variable {X : Cx} {G : Gx} {pos spos : Pos} {s s1 s2 s3 : Bool} {e e2 a b c tg elt iter : Expr} {es ifs : List Expr} {we wa wb wc wk : WE} {wr : WA} {wi : WI} {g : WG} {wt : WT} {is : List Nat} {scope : Scope} {own : List (Str × Nat)}
/-- what holds in every block of the comprehension -/
abbrev InBlk (X : Cx) (scope : Scope) (R : Cx → Prop) : Prop := ∀ (sh : Shared) (H : Hp) (C : Addr) (cl : List (Str × Addr)) (fp : List Addr), R (X.blk sh H scope (compEnvC scope cl C X.env) fp)
theorem df_lc (hc : X.calm = true) (hN : X.N.Nodup) (hi : PI X tg iter (upI G true wi)) (ok : BlkOk X.N X.env.scope scope own) (hg : InBlk X scope fun Y => PG Y tg (upG G is g)) (ht : InBlk X scope fun Y => PTs Y ifs (upT G wt))
    (he : InBlk X scope fun Y => PE Y elt (up G true we)) (hv : ∀ i ∈ is, i ∈ own.map (·.2) := by decide) (hs : ∀ x, foldedSetIterable iter X.env x = pure x := by intro _; rfl) :
    PE X (.ListComp elt [⟨tg, iter, ifs, 0⟩] scope pos) (upF G (wLc wi g wt we (own.map (·.2)))) := pe_weak (pe_lc hc hN hi ok hg ht he hs) (up_lc hv)
theorem de_lc (hc : X.calm = true) (hN : X.N.Nodup) (hi : PI X tg iter (upI G true wi)) (ok : BlkOk X.N X.env.scope scope own) (hg : InBlk X scope fun Y => PG Y tg (upG G is g)) (ht : InBlk X scope fun Y => PTs Y ifs (upT G wt))
    (he : InBlk X scope fun Y => PE Y elt (up G true we)) (hv : ∀ i ∈ is, i ∈ own.map (·.2) := by decide) (hs : ∀ x, foldedSetIterable iter X.env x = pure x := by intro _; rfl) :
    PE X (.ListComp elt [⟨tg, iter, ifs, 0⟩] scope pos) (up G true (wFv (wLc wi g wt we (own.map (·.2))))) := de_fv (df_lc hc hN hi ok hg ht he hv hs)
theorem ds_lcD (i : Nat) {y : Str} {py : Pos} (hc : X.calm = true) (hN : X.N.Nodup) (hsw : swapsWith (.ListComp elt [⟨tg, iter, ifs, 0⟩] scope pos) (some (.Name y py)) spos.line X.env = pure true) (hi : PI X tg iter (upI G true wi)) (ok : BlkOk X.N X.env.scope scope own)
    (hg : InBlk X scope fun Y => PG Y tg (upG G is g)) (ht : InBlk X scope fun Y => PTs Y ifs (upT G wt)) (he : InBlk X scope fun Y => PE Y elt (up G true we)) (hy : X.N[i]? = some y := by rfl) (hyl : X.env.scope.names.lookup y = some .local := by rfl)
    (hv : ∀ i ∈ is, i ∈ own.map (·.2) := by decide) (hs : ∀ x, foldedSetIterable iter X.env x = pure x := by intro _; rfl) :
    PS X (.Assign [.Name y py] (.ListComp elt [⟨tg, iter, ifs, 0⟩] scope pos) spos) (upS G (wSet i (wFv (wLc wi g wt we (own.map (·.2)))))) :=
  ps_weak (ps_setLc hc hN hy hyl hsw hi ok hg ht he hs) (up_set fun σ H Q h => up_lc hv σ H Q (up_fv σ H Q h))
theorem ds_lcO (i : Nat) {y : Str} {py : Pos} (hc : X.calm = true) (hN : X.N.Nodup) (hsw : swapsWith (.ListComp elt [⟨tg, iter, ifs, 0⟩] scope pos) (some (.Name y py)) spos.line X.env = pure true) (hi : PI X tg iter (upI G true wi)) (ok : BlkOk X.N X.env.scope scope own)
    (hg : InBlk X scope fun Y => PG Y tg (upG G is g)) (ht : InBlk X scope fun Y => PTs Y ifs (upT G wt)) (he : InBlk X scope fun Y => PE Y elt (up G true we)) (hy : X.N[i]? = some y := by rfl) (hyl : X.env.scope.names.lookup y = some .local := by rfl)
    (hv : ∀ i ∈ is, i ∈ own.map (·.2) := by decide) (hs : ∀ x, foldedSetIterable iter X.env x = pure x := by intro _; rfl) :
    PS X (.Assign [.Name y py] (.ListComp elt [⟨tg, iter, ifs, 0⟩] scope pos) spos) (upS G (wFst i (wLc wi g wt we (own.map (·.2))))) :=
  ps_weak (ps_setLc hc hN hy hyl hsw hi ok hg ht he hs) (up_fst (up_lc hv))
def wSetI (i : Nat) (we wk : WE) : WS := fun W ρ => match nth ρ i with
  | .o ds => (we ρ fun d => wk ρ fun kd => match kd with | .int j => (∃ n, ixN ds.length j = some n ∧ W.nx (put ρ i (.o (ds.set n d)))) | _ => False)
  | _ => False
theorem ds_setI (i : Nat) {x : Str} {p1 p2 : Pos} (he : PE X e (up G true we)) (hk : PE X b (up G s2 wk)) (hN : X.N[i]? = some x := by rfl) (hv : Vis X.env.scope x := by first | exact Or.inl rfl | exact Or.inr (Or.inl rfl) | exact Or.inr (Or.inr rfl))
    (hd : (x == ("__debug__" : Str)) = false := by decide) (hcd : (x == ("__classdict__" : Str)) = false := by decide)
    (ha : ∀ v, assign (.Subscript (.Name x p1) b p2) X.env v = (do
      let ov ← holding [v] (eval (.Name x p1) X.env)
      let iv ← holding [v, ov] (eval b X.env)
      standAt p2
      holding [v, ov, iv] (setItem ov iv v)
      release [v, ov, iv] []) := by intro _; rfl)
    (hs : swapsWithSole [.Subscript (.Name x p1) b p2] e pos.line X.env = pure false := by rfl) (hw : swappedStores [.Subscript (.Name x p1) b p2] e X.env = pure none := by rfl) (h1 : (assignEach [.Subscript (.Name x p1) b p2] X.env).map (·.2) = [assign (.Subscript (.Name x p1) b p2) X.env] := by rfl) :
    PS X (.Assign [.Subscript (.Name x p1) b p2] e pos) (upS G (wSetI i we wk)) :=
  ps_weak (ps_asg he (pg_sub (pe_var hN hv hd hcd) hk set_list ha) hs hw h1) fun D σ H ⟨an, O, ρ, W, S, h, q1, q2, q3, q4⟩ => by
    obtain ⟨ds, p, vs, hx, e1, e2, e3, m, h⟩ := own_slot S h
    refine ⟨an, O, ρ, _, S, h, fun v H1 d hd1 im k1 i1 => ?_⟩
    have S1 := (S.keep k1 i1).ana (src := [(d, v)]) fun p hp => by rw [List.mem_singleton.mp hp]; exact im
    have m1 := ImA.keep (S.ka (s := true) k1) _ _ m
    have e3 := k1.ob p _ e3 (S.nM e2)
    refine ⟨.ref p, e1, _, O, ρ, _, S1, hd1, fun kv H2 kd hk2 im2 k2 i2 => ?_⟩
    have S2 := S1.keep k2 i2
    have m2 := ImA.keep (S1.ka (s := true) k2) _ _ m1
    have e3 := k2.ob p _ e3 (S1.nM e2)
    cases kd with
    | int j =>
      obtain ⟨n, hn, hq⟩ := hk2
      refine ⟨p, vs, j, n, rfl, im2, e3, by rw [ImA.length m]; exact hn, ?_⟩
      have imv := S2.as (d, v) (List.mem_append_left _ List.mem_cons_self)
      exact q1 _ _ _ _ ((S2.chg hx e2 e1 e3 (ImA.set n m2 imv)).anm fun p hp => List.mem_append_right _ hp) hq
    | _ => exact hk2.elim
def attrD : List (PyData × PyData) → Str → Option PyData
  | [], _ => none
  | (.str x, d) :: r, f => if f = x then some d else attrD r f
  | _ :: r, f => attrD r f
theorem ImF.look {W : Wd} {N : Addr → Prop} {H : Hp} {f : Str} {z : PyData} : ∀ {kvs : List (PyData × PyData)} {fs : List (Str × V)}, ImF W N H kvs fs → attrD kvs f = some z → ∃ v, fs.lookup f = some v ∧ Im W N H z v
  | [], _, _, h => by cases h
  | (k, d) :: ks, _, q, h => by
    obtain ⟨x, v, r, rfl, rfl, q1, q2⟩ := q
    have h : (if f = x then some d else attrD ks f) = some z := h
    by_cases e : f = x
    · subst e
      rw [if_pos rfl] at h
      cases h
      exact ⟨v, by rw [List.lookup_cons]; simp, q1⟩
    · rw [if_neg e] at h
      obtain ⟨w, h1, h2⟩ := ImF.look q2 h
      refine ⟨w, ?_, h2⟩
      rw [List.lookup_cons, show (f == x) = false from by simpa using e]
      exact h1
def namesOf : List (PyData × PyData) → List Str
  | [] => []
  | (.str x, _) :: r => x :: namesOf r
  | _ :: r => namesOf r
theorem ImF.names {W : Wd} {N : Addr → Prop} {H : Hp} : ∀ {kvs : List (PyData × PyData)} {fs : List (Str × V)}, ImF W N H kvs fs → fs.map (·.1) = namesOf kvs
  | [], _, q => by cases q; rfl
  | (k, d) :: ks, _, q => by
    obtain ⟨x, v, r, rfl, rfl, q1, q2⟩ := q
    show x :: r.map (·.1) = x :: namesOf ks
    rw [ImF.names q2]
/-- an attribute of an object whose attributes are ks -/
def wFld (ks : List Str) (f : Str) (we : WE) : WE := fun ρ Φ => we ρ fun d => match d with | .dict kvs => (namesOf kvs = ks ∧ ∃ z, attrD kvs f = some z ∧ Φ z) | _ => False
theorem de_fld {ks : List Str} {f : Str} (hK : X.K = G.W.K) (hc : Cls X.K (G.W.kc ks)) (hn : NoAttr X.K (G.W.kc ks) f) (h : PE X e (up G s we)) (hb : attributeBase e f X.env (eval e X.env) = eval e X.env := by rfl) : PE X (.Attribute e f pos) (up G s (wFld ks f we)) :=
  pe_weak (pe_fld h hb) fun σ H Q ⟨an, O, ρ, Φ, S, h, q⟩ => by
    refine ⟨an, O, ρ, _, S, h, fun v H1 d h1 im k1 i1 => ?_⟩
    cases d with
    | dict kvs =>
      obtain ⟨hks, z, hz, h1⟩ := h1
      obtain ⟨a, dx, fs, rfl, ha, n, m⟩ := im
      obtain ⟨v, hl, mz⟩ := ImF.look m hz
      have en : fs.map (·.1) = ks := (ImF.names m).trans hks
      rw [en] at ha
      exact ⟨a, _, dx, fs, v, rfl, ha, hc, hn, hl, q v H1 z h1 mz k1 i1⟩
    | _ => exact h1.elim
def pairD (x y : PyData) : PyData := .tuple [x, y]
def zipD : List PyData → List PyData → List PyData
  | x :: xs, y :: ys => pairD x y :: zipD xs ys
  | _, _ => []
theorem zipD_get : ∀ {xs ys : List PyData} {i : Nat} {x y : PyData}, xs[i]? = some x → ys[i]? = some y → (zipD xs ys)[i]? = some (pairD x y)
  | [], _, _, _, _, h, _ => by simp at h
  | _ :: _, [], _, _, _, _, h => by simp at h
  | x :: xs, y :: ys, 0, _, _, h1, h2 => by
    simp only [List.getElem?_cons_zero, Option.some.injEq] at h1 h2
    subst h1 h2
    rfl
  | x :: xs, y :: ys, i + 1, _, _, h1, h2 => zipD_get (i := i) (xs := xs) (ys := ys) (by simpa using h1) (by simpa using h2)
theorem zipD_len : ∀ {xs ys : List PyData}, (zipD xs ys).length = min xs.length ys.length
  | [], _ => by simp [zipD]
  | _ :: _, [] => by simp [zipD]
  | x :: xs, y :: ys => by
    show (zipD xs ys).length + 1 = _
    rw [zipD_len, List.length_cons, List.length_cons]
    omega
theorem im_pair {W : Wd} {N : Addr → Prop} {H : Hp} {T : Addr} {x y : V} {d e : PyData} (hT : H T = none) (m1 : Im W N H d x) (m2 : Im W N H e y) : Im W N (upd H T (.tup [x, y])) (pairD d e) (.ref T) :=
  ⟨T, [x, y], rfl, .inl (.inl upd_same), x, [y], rfl, Im.keep (Keep.new hT) _ _ m1, y, [], rfl, Im.keep (Keep.new hT) _ _ m2, rfl⟩
theorem seq_at {W : Wd} {N : Addr → Prop} {H : Hp} {ds : List PyData} {xs : List V} {i : Nat} (m : ImA W N H ds xs) (hi : i < ds.length) : ∃ x, xs[i]? = some x ∧ Im W N H ds[i] x := ImA.get m (List.getElem?_eq_getElem hi)
theorem src_zipT {W : Wd} {as bs : List PyData} {a b : Addr} : SrcV W (RZ.ItzT W.K a b) (zipD as bs) [(.tuple as, .ref a), (.tuple bs, .ref b)] := fun N H i hp => by
  obtain ⟨p, xs, e1, r, m⟩ := hp _ List.mem_cons_self
  cases e1
  obtain ⟨p, ys, e1, r2, m2⟩ := hp _ (List.mem_cons_of_mem _ List.mem_cons_self)
  cases e1
  have l1 := ImA.length m
  have l2 := ImA.length m2
  rw [zipD_len]
  refine ⟨fun hi => ?_, fun hi => ⟨xs, ys, r, r2, by omega⟩⟩
  obtain ⟨x, hx, ix⟩ := seq_at m (i := i) (by omega)
  obtain ⟨y, hy, iy⟩ := seq_at m2 (i := i) (by omega)
  refine ⟨⟨xs, ys, x, y, r, r2, hx, hy⟩, fun v H2 z => ?_⟩
  obtain ⟨T, x', y', rfl, hT, rfl, f1, f2⟩ := z
  cases (f1 xs r).symm.trans hx
  cases (f2 ys r2).symm.trans hy
  refine ⟨Keep.new hT, fun d hd => ?_⟩
  rw [zipD_get (List.getElem?_eq_getElem (by omega)) (List.getElem?_eq_getElem (by omega))] at hd
  cases hd
  exact im_pair hT ix iy
theorem src_zipL {W : Wd} {as bs : List PyData} {a b : Addr} : SrcV W (Itz W.K a b) (zipD as bs) [(.list as, .ref a), (.list bs, .ref b)] := fun N H i hp => by
  obtain ⟨p, xs, e1, r, _, m⟩ := hp _ List.mem_cons_self
  cases e1
  obtain ⟨p, ys, e1, r2, _, m2⟩ := hp _ (List.mem_cons_of_mem _ List.mem_cons_self)
  cases e1
  have l1 := ImA.length m
  have l2 := ImA.length m2
  have r : SqL W.K H a xs := .inl (.inl r)
  have r2 : SqL W.K H b ys := .inl (.inl r2)
  rw [zipD_len]
  refine ⟨fun hi => ?_, fun hi => ⟨xs, ys, r, r2, by omega⟩⟩
  obtain ⟨x, hx, ix⟩ := seq_at m (i := i) (by omega)
  obtain ⟨y, hy, iy⟩ := seq_at m2 (i := i) (by omega)
  refine ⟨⟨xs, ys, x, y, r, r2, hx, hy⟩, fun v H2 z => ?_⟩
  obtain ⟨T, x', y', rfl, hT, rfl, f1, f2⟩ := z
  cases (f1 xs r).symm.trans hx
  cases (f2 ys r2).symm.trans hy
  refine ⟨Keep.new hT, fun d hd => ?_⟩
  rw [zipD_get (List.getElem?_eq_getElem (by omega)) (List.getElem?_eq_getElem (by omega))] at hd
  cases hd
  exact im_pair hT ix iy
def wZip (wr : WA) : WI := fun ρ Φ => wr ρ fun ds => match ds with | [.tuple as, .tuple bs] => Φ (zipD as bs) | [.list as, .list bs] => Φ (zipD as bs) | _ => False
theorem di_zip {p tpos : Pos} {elts : List Expr} {kk : Nat} (hK : X.K = G.W.K) (hg : Gl X "zip") (hm : X.mg "zip" = none) (ha : PA X [e, e2] (upA G s wr)) (hs : starEach [e, e2] X.env = (false, eval e X.env) :: starEach [e2] X.env := by rfl) (hpl : (backTo pos (starEach [e2] X.env)).any (·.1) = false := by rfl) :
    PI X (.Tuple elts kk tpos) (.Call (.Name "zip" p) [e, e2] [] pos) (upI G s (wZip wr)) := pi_weak (RZ.pi_zipA hg hm ha hs hpl) fun σ H R ⟨an, O, ρ, Φ, S, hw, q⟩ => by
  refine ⟨an, O, ρ, _, S, hw, fun vs H1 ds h1 im k1 i1 => ?_⟩
  rw [hK]
  split at h1
  · obtain ⟨v, v', rfl, m1, m2⟩ := im2 im
    obtain ⟨a, xs, rfl, r, m⟩ := id m1
    obtain ⟨b, ys, rfl, r2, m'⟩ := id m2
    refine ⟨a, b, xs, ys, rfl, .inr ⟨r, r2, q _ H1 _ _ h1 src_zipT (fun p hp => ?_) k1 i1⟩⟩
    rcases List.mem_cons.mp hp with rfl | hp
    · exact m1
    · rw [List.mem_singleton.mp hp]; exact m2
  · obtain ⟨v, v', rfl, m1, m2⟩ := im2 im
    obtain ⟨a, xs, rfl, r, n1, m⟩ := id m1
    obtain ⟨b, ys, rfl, r2, n2, m'⟩ := id m2
    refine ⟨a, b, xs, ys, rfl, .inl ⟨.inl (.inl r), .inl (.inl r2), q _ H1 _ _ h1 src_zipL (fun p hp => ?_) k1 i1⟩⟩
    rcases List.mem_cons.mp hp with rfl | hp
    · exact m1
    · rw [List.mem_singleton.mp hp]; exact m2
  · exact h1.elim
def enumD (as : List PyData) : List PyData := as.mapIdx fun i x => pairD (.int (i : Nat)) x
theorem enumD_get {as : List PyData} {i : Nat} {e : PyData} (h : (enumD as)[i]? = some e) : ∃ x, as[i]? = some x ∧ e = pairD (.int (i : Nat)) x := by
  unfold enumD at h
  rw [List.getElem?_mapIdx] at h
  cases q : as[i]? with
  | none => rw [q] at h; cases h
  | some x => rw [q] at h; cases h; exact ⟨x, rfl, rfl⟩
theorem src_enumT {W : Wd} {as : List PyData} {a : Addr} : SrcV W (IteT W.K a) (enumD as) [(.tuple as, .ref a)] := fun N H i hp => by
  obtain ⟨p, xs, e1, r, m⟩ := hp _ List.mem_cons_self
  cases e1
  have l1 := ImA.length m
  rw [show (enumD as).length = as.length from List.length_mapIdx]
  refine ⟨fun hi => ?_, fun hi => ⟨xs, r, by omega⟩⟩
  obtain ⟨x, hx, ix⟩ := seq_at m (i := i) (by omega)
  refine ⟨⟨xs, x, r, hx⟩, fun v H2 z => ?_⟩
  obtain ⟨T, x', rfl, hT, rfl, f1⟩ := z
  cases (f1 xs r).symm.trans hx
  refine ⟨Keep.new hT, fun d hd => ?_⟩
  obtain ⟨y, hy, rfl⟩ := enumD_get hd
  rw [List.getElem?_eq_getElem hi] at hy
  cases hy
  exact im_pair hT (d := .int (i : Nat)) rfl ix
theorem src_enumL {W : Wd} {as : List PyData} {a : Addr} : SrcV W (Ite W.K a) (enumD as) [(.list as, .ref a)] := fun N H i hp => by
  obtain ⟨p, xs, e1, r, _, m⟩ := hp _ List.mem_cons_self
  cases e1
  have l1 := ImA.length m
  have r : SqL W.K H a xs := .inl (.inl r)
  rw [show (enumD as).length = as.length from List.length_mapIdx]
  refine ⟨fun hi => ?_, fun hi => ⟨xs, r, by omega⟩⟩
  obtain ⟨x, hx, ix⟩ := seq_at m (i := i) (by omega)
  refine ⟨⟨xs, x, r, hx⟩, fun v H2 z => ?_⟩
  obtain ⟨T, x', rfl, hT, rfl, f1⟩ := z
  cases (f1 xs r).symm.trans hx
  refine ⟨Keep.new hT, fun d hd => ?_⟩
  obtain ⟨y, hy, rfl⟩ := enumD_get hd
  rw [List.getElem?_eq_getElem hi] at hy
  cases hy
  exact im_pair hT (d := .int (i : Nat)) rfl ix
def wEnum (we : WA) : WI := fun ρ Φ => we ρ fun ds => match ds with | [.tuple as] => Φ (enumD as) | [.list as] => Φ (enumD as) | _ => False
theorem di_enum {p tpos : Pos} {elts : List Expr} {kk : Nat} (hK : X.K = G.W.K) (hg : Gl X "enumerate") (hm : X.mg "enumerate" = none) (ha : PA X [e] (upA G s wr)) (hs : starEach [e] X.env = [(false, eval e X.env)] := by rfl) :
    PI X (.Tuple elts kk tpos) (.Call (.Name "enumerate" p) [e] [] pos) (upI G s (wEnum wr)) := pi_weak (pi_enumT hg hm ha hs) fun σ H R ⟨an, O, ρ, Φ, S, hw, q⟩ => by
  refine ⟨an, O, ρ, _, S, hw, fun vs H1 ds h1 im k1 i1 => ?_⟩
  rw [hK]
  split at h1
  · obtain ⟨v, rfl, m1⟩ := im1 im
    obtain ⟨a, xs, rfl, r, m⟩ := id m1
    refine ⟨a, rfl, .inr ⟨xs, r, q _ H1 _ _ h1 src_enumT (fun p hp => ?_) k1 i1⟩⟩
    rw [List.mem_singleton.mp hp]; exact m1
  · obtain ⟨v, rfl, m1⟩ := im1 im
    obtain ⟨a, xs, rfl, r, n1, m⟩ := id m1
    refine ⟨a, rfl, .inl ⟨xs, .inl (.inl r), q _ H1 _ _ h1 src_enumL (fun p hp => ?_) k1 i1⟩⟩
    rw [List.mem_singleton.mp hp]; exact m1
  · exact h1.elim
def signsD (z : Str) : List PyData := z.cps.toList.map fun c => .str ⟨#[c]⟩
theorem src_str {W : Wd} {z : Str} : SrcV W (Its z) (signsD z) [] := fun N H i _ => by
  have l : (signsD z).length = z.cps.size := by unfold signsD; rw [List.length_map, Array.length_toList]
  rw [l]
  refine ⟨fun hi => ⟨hi, fun x H2 y => ?_⟩, fun hi => hi⟩
  obtain ⟨rfl, c, hc, rfl⟩ := y
  refine ⟨Keep.refl _, fun d hd => ?_⟩
  unfold signsD at hd
  rw [List.getElem?_map, Array.getElem?_toList, hc] at hd
  cases hd
  rfl
def wStrI (we : WE) : WI := fun ρ Φ => we ρ fun d => match d with | .str z => Φ (signsD z) | _ => False
theorem di_str (h : PE X e (up G s we)) : PI X tg e (upI G s (wStrI we)) := pi_weak (pi_str h) fun σ H R ⟨an, O, ρ, Φ, S, hw, q⟩ => by
  refine ⟨an, O, ρ, _, S, hw, fun v H1 d h1 im k1 i1 => ?_⟩
  cases d with
  | str z => exact ⟨z, im, q _ H1 _ [] h1 src_str (fun p hp => nomatch hp) k1 i1⟩
  | _ => exact h1.elim
def wChain (f f' : PyData → PyData → (PyData → Prop) → Prop) (wa wb wc : WE) : WE := fun ρ Φ => wa ρ fun x => wb ρ fun y => f x y fun k => match k with | .bool t => (if t = true then wc ρ fun z => f' y z Φ else Φ (.bool false)) | _ => False
theorem up_chain {r r' : R2} {f f' : PyData → PyData → (PyData → Prop) → Prop} (hf : OpD G true s1 s2 r f) (hf' : OpD G s s2 s3 r' f') (σ : L2.St) (H : Hp) (Q : VK) (h : up G s (wChain f f' wa wb wc) σ H Q) : tChain r r' (up G s1 wa) (up G s2 wb) (up G s3 wc) σ H Q := by
  obtain ⟨an, O, ρ, Φ, S, h, q⟩ := h
  refine ⟨an, O, ρ, _, S, h, fun v H1 d h1 m1 k1 i1 => ?_⟩
  have S1 := S.keep k1 i1
  refine ⟨an, O, ρ, _, S1, h1, fun v2 H2 d2 h2 m2 k2 i2 => ?_⟩
  have S2 := S1.keep k2 i2
  refine hf an O σ ρ H2 v v2 d d2 _ _ S2 (S1.im k2 m1) m2 h2 fun w H3 z hz mz k3 i3 => ?_
  have S3 := S2.keep k3 i3
  cases z with
  | bool t =>
    refine ⟨t, mz, ?_⟩
    cases t with
    | false => exact q _ H3 _ hz rfl ((k1.trans k2).trans k3) i3
    | true =>
      refine ⟨an, O, ρ, _, S3, hz, fun v3 H4 d3 h3 m3 k4 i4 => ?_⟩
      have S4 := S3.keep k4 i4
      exact hf' an O σ ρ H4 v2 v3 d2 d3 Φ Q S4 (S3.im k4 (S2.im k3 m2)) m3 h3 fun w H5 z hz mz k5 i5 => q w H5 z hz mz ((((k1.trans k2).trans k3).trans k4).trans k5) i5
  | _ => exact hz.elim
theorem de_chain {op op' : CmpOp} {r r' : R2} {f f' : PyData → PyData → (PyData → Prop) → Prop} (ho : OpR X (compareOp op) r) (ho' : OpR X (compareOp op') r') (hf : OpD G true s1 s2 r f) (hf' : OpD G s s2 s3 r' f')
    (ha : PE X a (up G s1 wa)) (hb : PE X b (up G s2 wb)) (hc : PE X c (up G s3 wc)) (hm : lastMarks [op, op'] [b, c] = false := by with_unfolding_all rfl) : PE X (.Compare a [op, op'] [b, c] pos) (up G s (wChain f f' wa wb wc)) := pe_weak (pe_chain ho ho' ha hb hc hm) (up_chain hf hf')
theorem dt_chain {op op' : CmpOp} {r r' : R2} {f f' : PyData → PyData → (PyData → Prop) → Prop} (ho : OpR X (compareOp op) r) (ho' : OpR X (compareOp op') r') (hf : OpD G true s1 s2 r f) (hf' : OpD G true s2 s3 r' f')
    (ha : PE X a (up G s1 wa)) (hb : PE X b (up G s2 wb)) (hc : PE X c (up G s3 wc)) (hm : lastMarks [op, op'] [b, c] = false := by with_unfolding_all rfl) : PT X (.Compare a [op, op'] [b, c] pos) (upT G (wTest (wChain f f' wa wb wc))) := by
  refine pt_weak (pt_chain ho ho' ha hb hc hm) fun σ H Q h => ?_
  obtain ⟨an, O, ρ, Φ, S, h, q⟩ := up_test (s := true) σ H Q h
  exact up_chain hf hf' σ H _ ⟨an, O, ρ, Φ, S, h, q⟩
end
end DL

namespace DL
open PySem PySem.Spec PyProof.Rows L2

section
variable {P : Program} {w : World} {A : Around} {R : Result → Shared → Prop} {I : Addr} {fp wr : List Addr} {Ge : Array GenState → Array GenState → Prop} {Pv : Nat → Value → Prop} {St : Nat → Shared → Prop}
/-- the first i of ns lie in the set at a -/
def Laid (w : World) (h : Heap) (a : Addr) (ns : List Int) (i : Nat) : Prop := ∃ m, m ≤ i ∧ SetR w h a (fun j => decide (j ∈ ns.take i)) m
theorem Laid.move {h h' : Heap} {a : Addr} {ns : List Int} {i : Nat} (l : Laid w h a ns i) (k : ∀ o, h.get? a = some o → h'.get? a = some o) : Laid w h' a ns i := by
  obtain ⟨m, hm, r⟩ := l
  exact ⟨m, hm, r.at k⟩
theorem Laid.next {h' : Heap} {a : Addr} {ns : List Int} {i m : Nat} (hi : i < ns.length) (hm : m ≤ i) (r : SetR w h' a (fun j => decide (j ∈ ns.take i) || decide (j = ns.getD i 0)) (if decide (ns.getD i 0 ∈ ns.take i) = true then m else m + 1)) : Laid w h' a ns (i + 1) := by
  have e : ns.getD i 0 = ns[i] := by rw [List.getD_eq_getElem?_getD, List.getElem?_eq_getElem hi]; rfl
  refine ⟨_, ?_, r.congr fun j => ?_⟩
  · split <;> omega
  · have tk : ns.take (i + 1) = ns.take i ++ [ns[i]] := List.take_succ_eq_append_getElem hi
    rw [tk, e, Bool.eq_iff_iff]
    simp only [decide_eq_true_eq, Bool.or_eq_true, List.mem_append, List.mem_singleton]
theorem set_fill (ns : List Int) (W : WalksS P w A.in1 I fp wr Ge ns.length Pv St) (a : Addr) (away : a ∉ fp) (isInt : ∀ i v, Pv i v → ∃ t, v = .int (ns.getD i 0) t) (few : ns.length + 1 < scanBound) :
    ∀ (left i : Nat) (s : Shared), ns.length - i = left → i ≤ ns.length → St i s → Laid w s.heap a ns i →
      (∀ s', Moved (a :: wr) Ge s s' → Laid w s'.heap a ns ns.length → R (.ok (.ret .none)) s') → codeAny (model P w) A (.builtin "set.update.loop" ⟨[.ref a, .ref I], []⟩) R s := by
  have awr : a ∉ wr := fun z => away (W.sub _ z)
  have more : ∀ b ∈ wr, b ∈ a :: wr := fun b z => List.mem_cons_of_mem _ z
  intro left
  induction left with
  | zero =>
    intro i s e hi st l fin
    obtain rfl : i = ns.length := by omega
    refine codeAny_builtin F.entry_set_update_loop ?_
    rw [Around.under_plainId F.plain_set_update_loop _]
    refine wpAny_bind (m := pyNext (.ref I)) (W.done s _ _ st fun s2 mv => ?_)
    exact wpAny_pure (fin s2 (mv.mono more) (l.move fun o z => mv.heap a _ awr z))
  | succ left ih =>
    intro i s e hi st l fin
    have lt : i < ns.length := by omega
    refine codeAny_builtin F.entry_set_update_loop ?_
    rw [Around.under_plainId F.plain_set_update_loop _]
    refine wpAny_bind (m := pyNext (.ref I)) (W.item i s _ _ lt st fun v s2 pv st2 mv => ?_)
    obtain ⟨t, rfl⟩ := isInt i v pv
    obtain ⟨m, hm, r⟩ := l.move fun o z => mv.heap a _ awr z
    show wpAny _ A.in1 (holding [Value.int (ns.getD i 0) t] (setAdd a (.int (ns.getD i 0) t)) >>= _) _ _ s2
    refine wpAny_bind (wpAny_holding ?_)
    unfold setAdd
    refine wpAny_holding (wpAny_bind ((intKind P w).pyHash (k := ns.getD i 0) (intKind_is _ _ _ _) ?_))
    refine setR_add_hashed (s := { s2 with toks := s2.toks + 1 }) r (by omega) fun h2 sb r2 => ?_
    refine wpAny_pure ⟨plainId_quiet F.plain_set_update_loop _, ih (i + 1) _ (by omega) lt (W.frame _ s2 _ _ st2 (Nat.le_succ _) fun b hb o z => ?_) (Laid.next lt hm r2) fun s3 mv2 l3 => ?_⟩
    · rw [sb.2 b fun q => away (q ▸ hb)]; exact z
    · refine fin s3 (Moved.trans W.gtrans ((mv.mono more).then_heap (Nat.le_succ _) fun b o hb z => ?_) mv2) l3
      rw [sb.2 b fun q => hb (by rw [q]; exact List.mem_cons_self)]; exact z
end
section
variable {P : Program} {w : World} {A : Around} {E : Value → Shared → Prop} {s : Shared}
theorem set_made (v : Value) {Q : Value → Shared → Prop} (h : Q (.ref s.heap.objs.size) { s with heap := s.heap.push { cls := .type "set", dict := none, data := .set #[] 0 (.fresh 0 0 (!w.params.followText "set-order")) } }) :
    codeAny (model P w) A (.call (.builtin "set.__new__") ⟨[.type "set", v], []⟩) (wants Q E) s := by
  refine codeAny_of_tree ?_
  show wpAny _ A.in1 (do checkBuiltinCall "set.__new__" ⟨[.type "set", v], []⟩; again (.builtin "set.__new__" ⟨[.type "set", v], []⟩)) _ _ s
  refine wpAny_bind (wpAny_of_eq (F.newCall_set_1 v) (wpAny_pure ⟨plainId_quiet F.plain_set_new _, codeAny_builtin F.entry_set_new ?_⟩))
  rw [Around.under_plainId F.plain_set_new _]
  unfold Builtin.«set.__new__» Builtin.Frozenset.newClass
  have sub0 := sub_set_self
  obtain ⟨hp, g, d, tk, os⟩ := s
  dsimp only
  wp_walk
  refine wpAny_askSetting (wpAny_pure ?_)
  dsimp only
  simp only [newObj]
  exact wpAny_bind (wpAny_alloc (wpAny_pure (wpAny_pure h)))
set_option maxHeartbeats 4000000 in
theorem set_of_list {l : Addr} {items : Array Value} {ns : List Int} {Q : Value → Shared → Prop} (hh : A.handled = none) (hl : s.heap.IsList l items) (hi : IntsAre items.toList ns) (few : items.size + 1 < scanBound)
    (h : ∀ (h2 : Heap) (tk : Nat), Laid w h2 s.heap.objs.size ns ns.length → (∀ b o, b < s.heap.objs.size → s.heap.get? b = some o → h2.get? b = some o) → Q (.ref s.heap.objs.size) { s with heap := h2, toks := tk }) :
    wpAny (model P w) A (call (.type "set") [.ref l]) Q E s := by
  have len : items.size = ns.length := by rw [← hi.length, Array.length_toList]
  obtain ⟨c, tl, hmro⟩ := F.called_set.mro
  have hmade := F.called_set.made
  have hsub := F.called_set.sub
  refine wpAny_call (codeAny_of_tree ?_)
  show wpAny _ _ (callAny (.type "set") _) _ _ _
  refine wpAny_pure ⟨Code.quiet_builtin _ (by decide +kernel), codeAny_builtin F.entry_type_call ?_⟩
  rw [Around.under_plain (weight_type_call_type "set" [.ref l] []) rfl]
  have h1 := F.called_set.notType
  have h2 := F.called_set.canCreate
  have hct := F.typeCall_set_1 (.ref l)
  repeat (any_goals (first | assumption | wp_step))
  refine codeAny_mono (set_made (.ref l) (E := E) (Q := fun obj s₁ => obj = .ref s.heap.objs.size ∧ s₁ = { s with heap := s.heap.push { cls := .type "set", dict := none, data := .set #[] 0 (.fresh 0 0 (!w.params.followText "set-order")) } }) ⟨rfl, rfl⟩) fun r s₁ hr => ?_
  rcases r with e | fl
  · exact hr
  cases fl with
  | ret obj =>
    obtain ⟨rfl, rfl⟩ := hr
    have gZ : (s.heap.push { cls := .type "set", dict := none, data := .set #[] 0 (.fresh 0 0 (!w.params.followText "set-order")) }).get? s.heap.objs.size = some { cls := .type "set", dict := none, data := .set #[] 0 (.fresh 0 0 (!w.params.followText "set-order")) } := Heap.get?_push_size _ rfl
    have hT : Shared.TypeIs { s with heap := s.heap.push { cls := .type "set", dict := none, data := .set #[] 0 (.fresh 0 0 (!w.params.followText "set-order")) } } (.ref s.heap.objs.size) "set" := ⟨_, gZ, rfl⟩
    have hli := F.called_set.init.lookup
    have hbi := F.called_set.init.bind (.ref s.heap.objs.size)
    repeat (any_goals (first | assumption | wp_step))
    refine codeAny_mono (codeAny_call_builtin (R := wants (fun r s₂ => r = .none ∧ ∃ h2 tk, s₂ = { s with heap := h2, toks := tk } ∧ Laid w h2 s.heap.objs.size ns ns.length ∧
        ∀ b o, b < s.heap.objs.size → s.heap.get? b = some o → h2.get? b = some o) E) F.called_set.init.plain F.entry_set_init (check_set_init_1 hT ?_)) fun r₂ s₂ hr₂ => ?_
    · obtain ⟨⟨ocls, odict, odata, oslots⟩, hol, hcl, nl, hdl⟩ := hl
      simp only at hcl hdl
      subst hcl hdl
      have hol2 : (s.heap.push { cls := .type "set", dict := none, data := .set #[] 0 (.fresh 0 0 (!w.params.followText "set-order")) }).get? l = some { cls := .type "list", dict := odict, data := .seq items nl, slots := oslots } := Heap.get?_push_of_some _ hol
      have hsls := F.sub_list_set
      have hslf := F.sub_list_frozenset
      have hne : (Value.type "list" == Value.type "dict") = false := by decide
      have isl : (s.heap.push { cls := .type "set", dict := none, data := .set #[] 0 (.fresh 0 0 (!w.params.followText "set-order")) }).IsList l items := ⟨_, hol2, rfl, nl, rfl⟩
      unfold Builtin.«set.__init__» noKeywords Builtin.Frozenset.updateFrom
      generalize hPI : pyIter = PI
      wp_walk
      subst hPI
      refine wpAny_pyIter_list isl ?_
      refine wpAny_bind (wpAny_runValue ?_)
      have ltl : l < s.heap.objs.size := Heap.lt_size hol
      have zz : (s.heap.push { cls := .type "set", dict := none, data := .set #[] 0 (.fresh 0 0 (!w.params.followText "set-order")) }).objs.size = s.heap.objs.size + 1 := Heap.size_push ..
      have h3 : A.in1.in1.in1.handled = none := by simp [hh]
      have apart : l ≠ (s.heap.push { cls := .type "set", dict := none, data := .set #[] 0 (.fresh 0 0 (!w.params.followText "set-order")) }).objs.size := by rw [zz]; exact Nat.ne_of_lt (Nat.lt_succ_of_lt ltl)
      have away : s.heap.objs.size ∉ [(s.heap.push { cls := .type "set", dict := none, data := .set #[] 0 (.fresh 0 0 (!w.params.followText "set-order")) }).objs.size, l] := by
        rw [zz]
        simp only [List.mem_cons, List.not_mem_nil, or_false, not_or]
        exact ⟨Nat.ne_of_lt (Nat.lt_succ_self _), Nat.ne_of_gt ltl⟩
      have vals : ∀ (i : Nat) (v : Value), items[i]? = some v → ∃ t, v = .int (ns.getD i 0) t := fun i v hv => hi.int_at i v (by rw [Array.getElem?_toList]; exact hv)
      have W := (Walks.list (prog := P) (w := w) h3 _ l apart items).toS
      rw [len] at W
      refine set_fill ns W s.heap.objs.size away vals (by omega) (ns.length - 0) 0 _ (by omega) (Nat.zero_le _) ⟨⟨_, Heap.get?_push_size _ rfl, rfl, rfl⟩, isl.push _⟩ ?st ?fin
      case st =>
        refine ⟨0, Nat.le_refl _, ?_⟩
        have r0 := setR_fresh (h := s.heap) w
        exact (r0.at fun o z => Heap.get?_push_of_some _ z).congr fun k => by simp
      case fin =>
        intro s3 mv l3
        obtain ⟨h3, g3, d3, t3, o3⟩ := s3
        obtain rfl : g3 = s.gens := mv.gens
        obtain rfl : d3 = s.drawn := mv.drawn
        obtain rfl : o3 = s.os := mv.os
        show wpAny _ _ _ _ _ _
        refine wpAny_pure ?_
        show wpAny _ _ (ret Value.none) _ _ _
        refine wpAny_pure ⟨rfl, h3, t3, rfl, l3, fun b o hb e => ?_⟩
        refine mv.heap b o ?_ (Heap.get?_push_of_some _ (Heap.get?_push_of_some _ e))
        rw [zz]
        simp only [List.mem_cons, List.not_mem_nil, or_false, not_or]
        exact ⟨Nat.ne_of_lt hb, Nat.ne_of_lt (Nat.lt_succ_of_lt hb)⟩
    · rcases r₂ with e | fl₂
      · exact hr₂
      cases fl₂ with
      | ret r =>
        obtain ⟨rfl, h2, tk, rfl, l2, k2⟩ := hr₂
        repeat (any_goals (first | assumption | wp_step))
        exact h _ _ l2 k2
      | _ => exact hr₂.elim
  | _ => exact hr.elim
end
end DL

namespace DL
open PySem PySem.Spec PyProof.Rows L2

section
variable {P : Program} {w : World} {A : Around} {E : Value → Shared → Prop} {s : Shared} {a : Addr} {S : Int → Bool} {n : Nat}
/-- sorted(a set of ints) of any size -/
theorem sorted_ints {Q : Value → Shared → Prop} (R : SetR w s.heap a S n) (hh : A.handled = none)
    (hQ : ∀ s2 p (out : Array Value) (c : Nat) (ms : List Int), (∀ b o, s.heap.get? b = some o → s2.heap.get? b = some o) → s2.gens = s.gens → s2.os = s.os → s.heap.objs.size ≤ p → s2.heap.get? p = some (seqObj "list" out c) → IntsAre out.toList ms →
      ms.Pairwise (· < ·) → (∀ k, k ∈ ms ↔ S k = true) → out.size ≤ sizeLine → Q (.ref p) s2) : wpAny (model P w) A (call (.builtin "sorted") [.ref a]) Q E s := by
  obtain ⟨o, es, ep, t, ho, hex, hd, g, nd, hm, hb, hf, hn, hr, hl⟩ := R
  refine Calls.call_function_entry kind_sorted plain_sorted entry_sorted (args_sorted1 _) ?_
  unfold Builtin.«sorted»
  refine wpAny_bind (m := checkCount "sorted" 1 1 _) (wpAny_pure (wpAny_bind ?_))
  refine collect_set (A := A.in1) hh ⟨o, ho, hex.1, hd⟩ hf hb hr hl fun s1 vs k1 hz g1 o1 pm => ?_
  have lv : vs.length < scanBound := by rw [pm.length_eq, List.length_map, Array.length_toList]; exact hb
  have lv2 : vs.length ≤ sizeLine := Nat.le_trans (Nat.le_of_lt lv) (by decide)
  have isI : IntsAre vs (vs.map Builtin.Re.reRawOf) := L2.ints_of vs fun v hv => by
    obtain ⟨e, he, q⟩ := List.mem_map.mp (pm.mem_iff.mp hv)
    obtain ⟨k, tk, h1, _⟩ := g e he
    exact ⟨k, tk, by rw [← q]; exact h1⟩
  have pk : (vs.map Builtin.Re.reRawOf).Perm (es.toList.map keyOf) := by
    have q := pm.map Builtin.Re.reRawOf
    rw [List.map_map] at q
    exact q
  refine wpAny_bind (wpAny_newList ?_ lv2)
  have atL : (s1.heap.push (seqObj "list" vs.toArray 0)).get? s1.heap.objs.size = some (seqObj "list" vs.toArray 0) := Heap.get?_push_size _ rfl
  refine wpAny_bind (wpAny_holding (wpAny_call_entry slot_list_sort ⟨_, atL, rfl⟩ entry_list_sort (SrtO.list_sort_ord SrtO.swo_int atL lv2 (fun h2 => SrtO.ints_sortable isI h2) fun out x1 x2 => ⟨_, rfl, ?_⟩) (args_list_sort _)))
  obtain ⟨y1, y2, y3⟩ := SrtO.ints_out isI x1 x2
  obtain ⟨c, hc⟩ := sortedHeap_at (vs := vs) (out := out.toArray) atL
  have pn := y2.trans pk
  refine wpAny_pure ⟨_, rfl, hQ _ s1.heap.objs.size out.toArray c (out.map SrtO.iv) (fun b u e => ?_) g1 o1 hz hc y1 (lt_of_le_nodup _ y3 (pn.nodup_iff.mpr nd)) (fun k => by rw [pn.mem_iff, ← hm k]) ?_⟩
  · have q := k1 b u e
    have lt := Heap.lt_size q
    show (sortedHeap (s1.heap.push (seqObj "list" vs.toArray 0)) s1.heap.objs.size vs out.toArray).get? b = some u
    rw [sortedHeap_old (Nat.ne_of_lt lt) (by rw [size_push']; exact Nat.lt_succ_of_lt lt)]
    exact Heap.get?_push_of_some _ q
  · rw [List.size_toArray, x2.perm.length_eq]; exact lv2
end
section
variable {X : Cx} {G : Gx} {s s1 : Bool} {e : Expr} {we : WE} {ta : TE} {p p2 q pos : Pos}
def tSortSet (K : PySem.W.Frag) (ta : TE) : TE := fun σ H Q => ta σ H fun x H1 => ∃ (l : Addr) (ns : List Int), x = V.ref l ∧ SqL K H1 l (ns.map V.int) ∧ ns.length ≤ 4000 ∧
  ∀ (ms : List Int) (p : Addr), ms.Pairwise (· < ·) → (∀ k, k ∈ ms ↔ k ∈ ns) → H1 p = none → Q (.ref p) (upd H1 p (.lst (ms.map V.int)))
theorem pe_sortSet (hc : X.calm = true) (hg : Gl X "sorted") (hm : X.mg "sorted" = none) (hg2 : Gl X "set") (hm2 : X.mg "set" = none) (ha : PE X e ta) (na : starEach [e] X.env = (false, eval e X.env) :: starEach [] X.env := by rfl) :
    PE X (.Call (.Name "sorted" p) [.Call (.Name "set" p2) [e] [] q] [] pos) (tSortSet X.K ta) := ⟨fun pins s σ H Q I h => by
  refine Call_ (ld_blt I hg hm boot_sorted (callWith_builtin1 (args_cons ?_ rfl) rfl rfl))
  refine Call_ (ld_blt I hg2 hm2 boot_set (callWith_type1 (args_cons (thn (ha.run pins s σ H _ I h) fun v s1 ⟨x, H1, I1, r1, q1⟩ => args_nil ?_) na) na rfl))
  obtain ⟨l, ns, rfl, hq, h1, q1⟩ := q1
  cases r1
  obtain ⟨its, r, pl, hz⟩ := I1.list hq
  have len : its.toArray.size = ns.length := by rw [List.size_toArray, ← r.length, List.length_map]
  refine set_of_list (I1.ok.hd hc) pl.isList (ns := ns) (by simpa using r.ints) (by unfold scanBound; omega) fun h2 tk ⟨m, hm2, R⟩ hk => args_nil ?_
  have I2 : Inv X pins σ H1 { s1 with heap := h2, toks := tk } := I1.kept fun b o e => hk b o (Heap.lt_size e) e
  refine sorted_ints R (I2.ok.hd hc) fun s3 p out c ms k g o hp hg hi hs hmem hl => ?_
  have hlen : (ms.map V.int).length ≤ sizeLine := by rw [List.length_map, ← hi.length, Array.length_toList]; exact hl
  obtain ⟨h3, g3, d3, t3, o3⟩ := s3
  obtain rfl : o3 = s1.os := o
  have J : Inv X pins σ (upd H1 p (.lst (ms.map V.int))) ⟨h3, g3, d3, t3, s1.os⟩ := Inv.call (s := ⟨h2, s1.gens, s1.drawn, tk, s1.os⟩) (ch := []) I2 (Un.laid k hp (I2.hok.fresh hp)) (I2.hok.laid k hp ⟨hlen, out.toList, c, vals_of_ints hi, hg⟩) (by rw [show g3 = s1.gens from g]; exact I2.bare) (fun _ z => nomatch z)
  exact ⟨.ref p, _, J, rfl, q1 ms p hs (fun x => by rw [hmem]; simp) (I2.hok.fresh hp)⟩⟩
def wSortSet (we : WE) : WE := fun ρ Φ => we ρ fun d => match d with | .list xs => (∃ ns : List Int, xs = ns.map .int ∧ ns.length ≤ 4000 ∧ ∀ ms : List Int, ms.Pairwise (· < ·) → (∀ k, k ∈ ms ↔ k ∈ ns) → Φ (.list (ms.map .int))) | _ => False
theorem de_sortSet (hK : X.K = G.W.K) (hc : X.calm = true) (hg : Gl X "sorted") (hm : X.mg "sorted" = none) (hg2 : Gl X "set") (hm2 : X.mg "set" = none) (ha : PE X e (up G s we)) (na : starEach [e] X.env = (false, eval e X.env) :: starEach [] X.env := by rfl) :
    PE X (.Call (.Name "sorted" p) [.Call (.Name "set" p2) [e] [] q] [] pos) (up G s (wSortSet we)) := pe_weak (pe_sortSet hc hg hm hg2 hm2 ha na) fun σ H Q ⟨an, O, ρ, Φ, S, h, q⟩ => by
  rw [hK]
  refine ⟨an, O, ρ, _, S, h, fun v H1 d h1 im k1 i1 => ?_⟩
  have S1 := S.keep k1 i1
  cases d with
  | list xs =>
    obtain ⟨ns, rfl, hl, h1⟩ := h1
    obtain ⟨a, vs, rfl, r, n, m⟩ := im
    have e := ImA.ints m
    subst e
    refine ⟨a, ns, rfl, .inl (.inl r), hl, fun ms p o1 o2 hp => q _ _ _ (h1 ms o1 o2) (S1.lst hp (ImA.of_ints ms)) (k1.trans (Keep.new hp)) (S1.newI hp)⟩
  | _ => exact h1.elim
end
end DL

namespace DL
open PySem PySem.Spec PyProof.Rows L2

section
variable {X : Cx} {G : Gx} {s s1 s2 : Bool} {e a b : Expr} {we wa wb : WE} {wl wh : WO} {lo hi : Option Expr} {p p2 q pos : Pos}
mutual
theorem dOk.noDict : ∀ (n : Nat) (d : PyData), dOk n d = true → d.hasDict = false
  | n, .none, _ => by simp only [PyData.hasDict]
  | n, .bool _, _ => by simp only [PyData.hasDict]
  | n, .int _, _ => by simp only [PyData.hasDict]
  | n, .str x, _ => by simp only [PyData.hasDict]
  | 0, .list _, h => by simp [dOk] at h
  | 0, .tuple _, h => by simp [dOk] at h
  | n + 1, .list ds, h => by simp only [PyData.hasDict]; exact dOkA.noDict n ds (by simpa [dOk] using h)
  | n + 1, .tuple ds, h => by simp only [PyData.hasDict]; exact dOkA.noDict n ds (by simpa [dOk] using h)
  | n, .dict _, h => by cases n <;> simp [dOk] at h
theorem dOkA.noDict : ∀ (n : Nat) (ds : List PyData), dOkA n ds = true → PyData.hasDictAll ds = false
  | n, [], _ => by simp only [PyData.hasDictAll]
  | n, d :: ds, h => by
    have h2 : dOk n d = true ∧ dOkA n ds = true := by simpa [dOkA, Bool.and_eq_true] using h
    simp only [PyData.hasDictAll]
    rw [dOk.noDict n d h2.1, dOkA.noDict n ds h2.2]
    rfl
end
def rRepr (K : PySem.W.Frag) : List V → Hp → VK → Prop := fun vs H Q => ∃ x d, vs = [x] ∧ Dp K H x d ∧ Fit d ∧ d.showable = true ∧ d.shown.length ≤ sizeLine ∧ Q (.str d.shown) H
theorem cr_repr (hg : X.A.guards = some []) (hu : X.A.units + 65 < cLine) : CallR X (.builtin "repr") (rRepr X.K) := by
  intro pins s σ H xs us Q I r h
  obtain ⟨x, d, rfl, hd, hf, hs, hz, q⟩ := h
  obtain ⟨u, rfl, rx⟩ := vals1 r
  have fin : ∀ (h2 : Heap) (t : Tok) (tk : Nat), (∀ b o, s.heap.get? b = some o → h2.get? b = some o) → EP X pins σ Q (.str d.shown t) { s with heap := h2, toks := tk } := fun h2 t tk k => ⟨.str d.shown, H, I.kept k, ⟨t, rfl⟩, q⟩
  have all := dOk.all 20 d hf
  have seq : ∀ a, u = .ref a → wpAny (model X.prog X.w) X.A (call (.builtin "repr") [u]) (EP X pins σ Q) X.xe s := fun a ea => by
    subst ea
    obtain ⟨as, rd⟩ := Dp.reads I d x _ hd rx
    refine repr_of_reads' rd hs (fun z => by rw [dOk.noDict 20 d hf] at z; cases z) hg (by have := all.2.2; omega) (fun _ _ z => z) (fun h2 t tk k => fin h2 t tk k) hz
  cases hd with
  | non => cases rx; exact PySem.P.repr_of_none (fin s.heap _ _ fun _ _ z => z)
  | bl i =>
    cases rx
    refine PySem.P.repr_of_bool ?_
    have e := fin s.heap s.toks (s.toks + 1) fun _ _ z => z
    cases i <;> exact e
  | int i =>
    obtain ⟨t, rfl⟩ := rx
    exact PySem.P.repr_of_int (by simpa [PyData.showable] using hs) (fin s.heap _ _ fun _ _ z => z)
  | str z =>
    obtain ⟨t, rfl⟩ := rx
    exact PySem.P.repr_of_str (fin s.heap _ _ fun _ _ z => z) hz
  | lst h1 h2 => exact seq _ rx
  | tup h1 h2 => exact seq _ rx
def fRepr : FD := fun ds Φ => match ds with | [d] => Fit d ∧ d.showable = true ∧ d.shown.length ≤ 100000 ∧ Φ (.str d.shown) | _ => False
theorem cd_repr : CallD G s s1 (rRepr G.W.K) fRepr := by
  intro an O σ ρ H vs ds Φ Q S hv hf q
  unfold fRepr at hf
  split at hf
  · obtain ⟨v, rfl, im⟩ := im1 hv
    exact ⟨v, _, rfl, Im.dp _ v (dOk.plain hf.1) im, hf.1, hf.2.1, line5 hf.2.2.1, q _ H _ hf.2.2.2 rfl (Keep.refl H) S.inv⟩
  · exact hf.elim
def rInS : R2 := fun x y H Q => ∃ i j, x = .str i ∧ y = .str j ∧ Q (.bl (!(Builtin.Str.occurrences j i 0 j.length 1).isEmpty)) H
def fInS : PyData → PyData → (PyData → Prop) → Prop := fun x y Φ => match x, y with | .str i, .str j => Φ (.bool (!(Builtin.Str.occurrences j i 0 j.length 1).isEmpty)) | _, _ => False
theorem od_inS : OpD G s s1 s2 rInS fInS := by
  intro an O σ ρ H x y d e Φ Q S hx hy hf q
  unfold fInS at hf
  split at hf
  · exact ⟨_, _, hx, hy, q _ H _ hf rfl (Keep.refl H) S.inv⟩
  · exact hf.elim
theorem tuple_mul1 (l : Addr) (items : Array Value) (n : Nat) (dd : Option Addr) (sl : Array (Option Value)) (u : Tok) : Meets (Builtin.«tuple.__mul__» ⟨[.ref l, .int 1 u], []⟩) (fun _ R s => s.heap.get? l = some { cls := .type "tuple", dict := dd, data := .seq items n, slots := sl } ∧ R (.ok (.ret (Value.ref l))) s) :=
  .of_wp fun prog w A R s h => by
    obtain ⟨hp, g, d, tk, os⟩ := s
    obtain ⟨hl, h⟩ := h
    have f1 := AutoSeq1.idx_int
    have c0 : (decide ((1 : Int) < -(2 ^ 63)) || decide ((1 : Int) ≥ 2 ^ 63)) = false := by decide
    have c1 : (items.isEmpty || (1 : Int) == 1) = true := by simp
    wp_walk using AutoSeq1.wpAny_loadPart' hl
    repeat (first
      | (refine wpAny_ite_false (decide_eq_false (by rw [c0]; exact Bool.false_ne_true)) ?_; wp_walk using AutoSeq1.wpAny_loadPart' hl)
      | (refine wpAny_ite_true (decide_eq_true (by rw [c1])) ?_; wp_walk using AutoSeq1.wpAny_loadPart' hl))
    exact ⟨_, rfl, h⟩
def rRep1 (K : PySem.W.Frag) : R2 := fun x y H Q => ∃ l xs, x = .ref l ∧ y = .int 1 ∧ SqT K H l xs ∧ Q (.ref l) H
theorem op_rep1 : OpR X (binaryOp .Mult) (rRep1 X.K) := by
  intro pins s σ H x y v u Q I rx ry h
  obtain ⟨l, xs, rfl, rfl, hT, q⟩ := h
  cases rx
  obtain ⟨t, rfl⟩ := ry
  obtain ⟨its, r, ⟨⟨cls, dd, data, sl⟩, ho, hc, n, hd⟩, hs⟩ := I.tuple hT
  simp only at hc hd
  subst hc hd
  exact wpAny_binaryOp_repeat_ref (T := "tuple") (U := "int") (by decide) ⟨_, ho, rfl⟩ (fun s' => typeIs_int s' 1 t) noFill_tuple_mul F.fills_int_mul F.slot_int_rmul repeat_tuple F.slot_int_index.lookup
    (call_meets F.slot_int_rmul (typeIs_int s 1 t) F.entry_int_rmul (F.args_int_rmul_2 _ _) (int_rmul_tuple 1 t l its.toArray n dd sl)
      ⟨ho, rfl, ⟨_, ho, rfl⟩, call_meets F.slot_tuple_mul ⟨_, ho, rfl⟩ F.entry_tuple_mul (F.args_tuple_mul_2 _ _) (tuple_mul1 l its.toArray n dd sl t) ⟨ho, ⟨.ref l, H, I, rfl, q⟩⟩⟩)
/-- products: of ints, of a list or a tuple and an int -/
def fMulT : PyData → PyData → (PyData → Prop) → Prop := fun x y Φ => match x, y with
  | .tuple as, .int k => 1 ≤ k ∧ k ≤ 1000 ∧ as ≠ [] ∧ as.length ≤ 100 ∧ Φ (.tuple (List.replicate k.toNat as).flatten)
  | _, _ => False
def rMulT (K : PySem.W.Frag) : R2 := fun x y H Q => rRep1 K x y H Q ∨ rRepT K x y H Q
theorem op_mulT : OpR X (binaryOp .Mult) (rMulT X.K) := opR_or op_rep1 op_repT
theorem od_mulT : OpD G s s s2 (rMulT G.W.K) fMulT := by
  intro an O σ ρ H x y d e Φ Q S hx hy hf q
  unfold fMulT at hf
  split at hf
  · rename_i as k
    obtain ⟨h1, h2, h3, h4, hf⟩ := hf
    obtain rfl : y = .int k := hy
    have hx2 := hx
    obtain ⟨l, xs, rfl, r, m⟩ := hx
    have len := ImA.length m
    by_cases z : k = 1
    · subst z
      have e1 : (List.replicate (1 : Int).toNat as).flatten = as := by show (List.replicate 1 as).flatten = as; simp
      rw [e1] at hf
      exact .inl ⟨l, xs, rfl, rfl, r, q _ H _ hf hx2 (Keep.refl H) S.inv⟩
    · refine .inr ⟨l, k, xs, rfl, rfl, r, fun e => h3 ?_, by omega, h2, by omega, fun p hp => ?_⟩
      · exact List.eq_nil_of_length_eq_zero (by rw [← len, e]; rfl)
      · exact q _ _ _ hf (S.tup hp (ImA.rep m _)) (Keep.new hp) (S.newI hp)
  · exact hf.elim
def wListRg (we : WE) : WE := fun ρ Φ => we ρ fun d => match d with | .int n => n ≤ 100000 ∧ 0 ≤ n ∧ Φ (.list (intsFrom 0 n.toNat)) | _ => False
theorem ima_rg {W : Wd} {N : Addr → Prop} {H : Hp} {n : Int} : ImA W N H (intsFrom 0 n.toNat) (rgV 0 n) := by
  have e1 : intsFrom 0 n.toNat = ((List.range n.toNat).map fun i => (0 : Int) + (i : Nat)).map PyData.int := by unfold intsFrom; rw [List.map_map]; rfl
  have e2 : rgV 0 n = ((List.range n.toNat).map fun i => (0 : Int) + (i : Nat)).map V.int := by unfold rgV; rw [List.map_map, Int.sub_zero]; rfl
  rw [e1, e2]
  exact ImA.of_ints _
theorem de_listRg (hc : X.calm = true) (hg : Gl X "list") (hm : X.mg "list" = none) (hg2 : Gl X "range") (hm2 : X.mg "range" = none) (ha : PE X a (up G s1 wa)) (na : starEach [a] X.env = (false, eval a X.env) :: starEach [] X.env := by rfl) :
    PE X (.Call (.Name "list" p) [.Call (.Name "range" p2) [a] [] q] [] pos) (up G s (wListRg wa)) :=
  pe_weak (pe_listRg hc hg hm (prg_1 hg2 hm2 ha na)) fun σ H Q ⟨an, O, ρ, Φ, S, h, q⟩ => by
    refine ⟨an, O, ρ, _, S, h, fun v H1 d h1 im k1 i1 => ?_⟩
    have S1 := S.keep k1 i1
    cases d with
    | int n => exact ⟨n, im, ⟨by omega, by omega, by omega, by omega, by omega⟩, fun p hp => q _ _ _ h1.2.2 (S1.lst hp ima_rg) (k1.trans (Keep.new hp)) (S1.newI hp)⟩
    | _ => exact h1.elim
section
variable {x : Str} {p1 : Pos}
theorem de_slen (i : Nat) (hK : X.K = G.W.K) (hg : Gl X "len") (hm : X.mg "len" = none) (hN : X.N[i]? = some x := by rfl) (hv : Vis X.env.scope x := by first | exact Or.inl rfl | exact Or.inr (Or.inl rfl) | exact Or.inr (Or.inr rfl)) (hd : (x == ("__debug__" : Str)) = false := by decide)
    (hcd : (x == ("__classdict__" : Str)) = false := by decide) (he : starEach [.Name x p1] X.env = (false, eval (.Name x p1) X.env) :: starEach [] X.env := by rfl) : PE X (.Call (.Name "len" p) [.Name x p1] [] pos) (up G s (wSLen i)) :=
  pe_weak (pe_callB call_len_seq hg hm PySem.boot_len (pa_cons (pe_var hN hv hd hcd) pa_nil he) (by decide) (by decide) he) fun σ H Q ⟨an, O, ρ, Φ, S, h, q⟩ => by
    obtain ⟨ns, a, e1, e2, h⟩ := s_slot (α := Unit) (P := fun ns => Φ (.int ns.length)) S h
    refine ⟨.ref a, e1, a, ns.map V.int, rfl, .inl (by rw [hK]; exact e2.sql), ?_⟩
    rw [List.length_map]
    exact q _ H _ h rfl (Keep.refl H) S.inv
theorem de_ssl (i : Nat) (hK : X.K = G.W.K) (hl : PO X lo (upO G wl)) (hh : PO X hi (upO G wh)) (hN : X.N[i]? = some x := by rfl) (hv : Vis X.env.scope x := by first | exact Or.inl rfl | exact Or.inr (Or.inl rfl) | exact Or.inr (Or.inr rfl)) (hd : (x == ("__debug__" : Str)) = false := by decide)
    (hcd : (x == ("__classdict__" : Str)) = false := by decide) : PE X (.Subscript (.Name x p1) (.Slice lo hi none p2) pos) (up G s (wSSl i wl wh)) :=
  pe_weak (pe_slice sl_list (pe_var hN hv hd hcd) hl hh) fun σ H Q ⟨an, O, ρ, Φ, S, h, q⟩ => by
    obtain ⟨ns, a, e1, e2, h⟩ := s_slot (α := Unit) (P := fun ns => wl ρ fun lo => wh ρ fun hi => Φ (.list ((cutG ns lo hi).map .int))) S h
    refine ⟨.ref a, e1, an, O, ρ, _, S, h, fun lo H2 h2 k2 i2 => ?_⟩
    have S2 := S.keep k2 i2
    refine ⟨an, O, ρ, _, S2, h2, fun hi H3 h3 k3 i3 => ?_⟩
    have S3 := S2.keep k3 i3
    refine ⟨a, ns.map V.int, rfl, by rw [hK]; exact ((e2.keep k2).keep k3).sql, fun p hp => q _ _ _ h3 (S3.lst hp ?_) ((k2.trans k3).trans (Keep.new hp)) (S3.newI hp)⟩
    rw [cutV_cutG, ← cut_map]
    exact ImA.of_ints _
theorem de_six (i : Nat) (hK : X.K = G.W.K) (hb : PE X b (up G s2 wb)) (hs : PlainIx b) (hN : X.N[i]? = some x := by rfl) (hv : Vis X.env.scope x := by first | exact Or.inl rfl | exact Or.inr (Or.inl rfl) | exact Or.inr (Or.inr rfl)) (hd : (x == ("__debug__" : Str)) = false := by decide)
    (hcd : (x == ("__classdict__" : Str)) = false := by decide) : PE X (.Subscript (.Name x p1) b pos) (up G s (wSIx i wb)) :=
  pe_weak (pe_ix ix_list (pe_var hN hv hd hcd) hb hs) fun σ H Q ⟨an, O, ρ, Φ, S, h, q⟩ => by
    obtain ⟨ns, a, e1, e2, h⟩ := s_slot (α := Unit) (P := fun ns => wb ρ fun y => match y with | .int k => (∃ d, atI ns k = some d ∧ Φ (.int d)) | _ => False) S h
    refine ⟨.ref a, e1, an, O, ρ, _, S, h, fun v H1 d h1 im k1 i1 => ?_⟩
    cases d with
    | int k =>
      obtain ⟨j, hj, hq⟩ := h1
      exact ⟨a, ns.map V.int, k, .int j, rfl, im, by rw [hK]; exact (e2.keep k1).sql, atI_map hj, q _ H1 _ hq rfl k1 i1⟩
    | _ => exact h1.elim
end
end
end DL

namespace DL
open PySem PySem.Spec PyProof.Rows L2

section
variable {X : Cx} {G : Gx} {an src : List (PyData × V)} {O O2 O4 : Nat → Option Addr} {σ σ4 : L2.St} {H H1 H2 : Hp} {ρ ρ4 : Ev} {D : Addr} {acc : List PyData}
/-- the list being made lies at D -/
structure Mk2 (G : Gx) (an : List (PyData × V)) (O2 : Nat → Option Addr) (σ : L2.St) (ρ : Ev) (H1 : Hp) (D : Addr) (acc : List PyData) (ws : List V) (H : Hp) : Prop where
  few : acc.length ≤ 100000
  at_ : H D = some (.lst ws)
  im : ImA G.W (Nv G.A O2) H acc ws
  sta : Sta G an O2 σ H ρ
  c1 : ∀ a o, a ≠ D → H1 a = some o → ¬ G.R.M a → H a = some o
  c2 : ∀ a xs, H1 a = some (.tup xs) → H a = some (.tup xs)
  c3 : ∀ a o u, H1 a = some (.frz o u) → H a = some (.frz o u)
theorem Mk2.keep {ws : List V} {j : Nat} (m : Mk2 G an O2 σ ρ H1 D acc ws H) (hO : O2 j = some D) (k : Keep G.R.M H H2) (i : G.R.I H2) : Mk2 G an O2 σ ρ H1 D acc ws H2 :=
  ⟨m.few, k.ob D _ m.at_ (m.sta.nM hO), ImA.keep (k.mono fun a z => .inl (m.sta.ra a z)) _ _ m.im, m.sta.keep k i, fun a o n e z => k.ob a o (m.c1 a o n e z) z, fun a xs e => k.tp a xs (m.c2 a xs e), fun a o u e => k.fz a o u (m.c3 a o u e)⟩
theorem Mk2.push {ws : List V} {j : Nat} {d : PyData} {y : V} (m : Mk2 G an O2 σ ρ H1 D acc ws H) (hj : ρ.length ≤ j) (hO : O2 j = some D) (hl : acc.length < 100000) (hy : Im G.W (Nv G.A O2) H d y) : Mk2 G an O2 σ ρ H1 D (acc ++ [d]) (ws ++ [y]) (upd H D (.lst (ws ++ [y]))) := by
  have kD : Keep (Nv G.A O2) H (upd H D (.lst (ws ++ [y]))) := Keep.set m.at_ (.inr ⟨j, hO⟩)
  refine ⟨by rw [List.length_append]; exact hl, upd_same, ImA.keep kD _ _ (ImA.append m.im (ImA.one hy)), m.sta.chgP hj hO m.at_, fun a o n e z => ?_, fun a xs e => kD.tp a xs (m.c2 a xs e), fun a o u e => kD.fz a o u (m.c3 a o u e)⟩
  rw [upd_ne n]
  exact m.c1 a o n e z
variable {wi wi1 : WI} {g g1 : WG} {wt wt1 : WT} {we : WE} {vs vs1 is is1 : List Nat}
def wLc2 (wi : WI) (g : WG) (wt : WT) (wi1 : WI) (g1 : WG) (wt1 : WT) (we : WE) (vs vs1 : List Nat) : WF := fun ρ Φ => noOwn ρ vs = true ∧ wi ρ fun ds => ∃ J : Nat → List PyData → Prop, J 0 [] ∧
  (∀ (i : Nat) (d : PyData) (acc : List PyData), ds[i]? = some d → J i acc → acc.length ≤ 100000 → g d (wipeE ρ vs) fun ρ2 => wt ρ2 fun b => if b = true then (noOwn ρ2 vs1 = true ∧ wi1 ρ2 fun es => ∃ J1 : Nat → List PyData → Prop, J1 0 acc ∧
    (∀ (j : Nat) (e : PyData) (acc1 : List PyData), es[j]? = some e → J1 j acc1 → acc1.length ≤ 100000 → g1 e (wipeE ρ2 vs1) fun ρ3 => wt1 ρ3 fun b1 => if b1 = true then we ρ3 fun y => acc1.length < 100000 ∧ J1 (j + 1) (acc1 ++ [y]) else J1 (j + 1) acc1) ∧
    ∀ acc1, J1 es.length acc1 → J (i + 1) acc1) else J (i + 1) acc) ∧ ∀ acc, J ds.length acc → Φ acc
theorem wipe_len2 {σ σ2 : L2.St} {vs : List Nat} (h : L2.wipe σ2 vs = L2.wipe σ vs) : σ2.length = σ.length := by
  rw [← wipe_length σ2 vs, h, wipe_length]
theorem up_lc2 (hv : ∀ i ∈ is, i ∈ vs) (hv1 : ∀ i ∈ is1, i ∈ vs1) (hv2 : ∀ i ∈ vs1, i ∈ vs) (σ : L2.St) (H : Hp) (Q : VK) (h : upF G (wLc2 wi g wt wi1 g1 wt1 we vs vs1) σ H Q) :
    tLc2 (upI G true wi) (upG G is g) (upT G wt) (upI G true wi1) (upG G is1 g1) (upT G wt1) (up G true we) vs vs1 σ H Q := by
  obtain ⟨an, O, ρ, Φ, S, ⟨hno, h⟩, q⟩ := h
  have hno := noOwn_at hno
  refine ⟨an, O, ρ, _, S, h, fun J H1 ds src h1 sv im k1 i1 D hD => ?_⟩
  obtain ⟨JJ, j0, jt, je⟩ := h1
  have S1 := (S.keep k1 i1).ana im
  have hD0 : H D = none := S1.back k1 hD
  obtain ⟨bd, hbd⟩ := S1.ob
  obtain ⟨jD, hjD⟩ : ∃ n, n = max bd ρ.length := ⟨_, rfl⟩
  have hj : ρ.length ≤ jD := hjD ▸ Nat.le_max_right _ _
  have start := S1.own (H' := upd H1 D (.lst [])) hD upd_same (Keep.new hD) (S1.newI hD) jD hj
  generalize hO2 : setO O jD (some D) = O2 at start
  have oD : O2 jD = some D := by rw [← hO2]; exact setO_same
  have nvD : ∀ a, Nv G.A O2 a → Nv G.A O a ∨ a = D := fun a z => by
    rcases z with z | ⟨i, z⟩
    · exact .inl (.inl z)
    · rw [← hO2] at z
      by_cases y : i = jD
      · rw [y, setO_same] at z; cases z; exact .inr rfl
      · rw [setO_ne y] at z; exact .inl (.inr ⟨i, z⟩)
  have nvD' : ∀ a, Nv G.A O a ∨ a = D → Nv G.A O2 a := fun a z => by
    rcases z with (z | ⟨i, z⟩) | z
    · exact .inl z
    · by_cases y : i = jD
      · rw [y, hbd _ (hjD ▸ Nat.le_max_left _ _)] at z; cases z
      · exact .inr ⟨i, by rw [← hO2, setO_ne y]; exact z⟩
    · rw [z]; exact .inr ⟨_, oD⟩
  have kD : Keep G.R.M H1 (upd H1 D (.lst [])) := Keep.new hD
  -- a slot that is forgotten is none of the avoided places
  have stays : ∀ {O4 : Nat → Option Addr} {is' : List Nat}, Less is' O2 O4 → (∀ i ∈ is', i ∈ vs) → ∀ i a, O2 i = some a → O4 i = some a := fun {O4 is'} x4 hs i a e => by
    rcases x4 i a e with y | y
    · obtain ⟨y1, y2⟩ := hno i (hs i y)
      rcases start.oe i a e with w | ⟨ds, w⟩
      · omega
      · exact absurd w (y2 ds)
    · exact y
  have sub : ∀ {O4 : Nat → Option Addr}, (∀ i a, O2 i = some a → O4 i = some a) → ∀ {H6 : Hp} {d : PyData} {v : V}, Im G.W (Nv G.A O4) H6 d v → Im G.W (Nv G.A O2) H6 d v := fun {O4} hs {H6 d v} m =>
    Im.avoid (fun a o _ z => z.elim .inl fun ⟨l, z⟩ => .inr ⟨l, hs l a z⟩) _ _ m
  refine ⟨fun i m H' => i + m = ds.length ∧ ∃ acc ws, JJ i acc ∧ Mk2 G (src ++ an) O2 σ ρ H1 D acc ws H', ⟨ds.length, by omega, [], [], j0, Nat.zero_le _, upd_same, rfl, start, fun a o n e _ => by rw [upd_ne n]; exact e, fun a xs e => kD.tp a xs e, fun a o u e => kD.fz a o u e⟩, ?_⟩
  rintro i m H2 ⟨hm, acc, ws, ja, mk⟩
  have sv2 := sv (Nv G.A O2) H2 i fun p hp => mk.sta.as p (List.mem_append_left _ hp)
  by_cases hlt : i < ds.length
  · obtain ⟨go, yl⟩ := sv2.1 hlt
    refine .inr ⟨go, fun H' => ∃ acc ws, JJ (i + 1) acc ∧ Mk2 G (src ++ an) O2 σ ρ H1 D acc ws H', fun H' hN => ⟨m - 1, by omega, by omega, hN⟩, fun x H3 y => ?_⟩
    obtain ⟨k3, iv⟩ := yl x H3 y
    have hd : ds[i]? = some ds[i] := List.getElem?_eq_getElem hlt
    have mk3 := mk.keep oD (Keep.none k3) (stK_of mk.sta.inv k3)
    refine ⟨src ++ an, O2, wipeE ρ vs, ds[i], _, mk3.sta.wipe vs fun v hv => (hno v hv).2, iv _ hd, jt i _ acc hd ja mk.few, fun O4 σ4 ρ4 S4 h4 w4 x4 => ?_⟩
    have st4 := stays x4 hv
    have l4 : ρ4.length = ρ.length := by
      rw [← S4.len, wipe_len2 (w4 vs hv), wipe_length, mk3.sta.len]
    refine ⟨?_, src ++ an, O4, ρ4, _, S4, h4, fun b H5 hb k5 i5 => ?_⟩
    · rw [w4 vs hv]
      exact wipe_sub σ vs vs fun _ h => h
    · have mk5 := mk3.keep oD k5 i5
      have S5 := S4.keep k5 i5
      cases b with
      | false =>
        rw [if_neg Bool.false_ne_true] at hb
        show (if false = true then _ else _)
        rw [if_neg Bool.false_ne_true]
        exact ⟨acc, ws, hb, mk5⟩
      | true =>
        rw [if_pos rfl] at hb
        show (if true = true then _ else _)
        rw [if_pos rfl]
        obtain ⟨hno1, hb⟩ := hb
        have hno1 := noOwn_at hno1
        refine ⟨src ++ an, O4, ρ4, _, S5, hb, fun J1 H6 es src1 h6 sv1 im1 k6 i6 => ?_⟩
        obtain ⟨JI, ji0, jit, jie⟩ := h6
        have mk6 := mk5.keep oD k6 i6
        have S6 := (S5.keep k6 i6).ana im1
        refine ⟨fun j k H' => j + k = es.length ∧ ∃ acc ws, JI j acc ∧ Mk2 G (src ++ an) O2 σ ρ H1 D acc ws H' ∧ Sta G (src1 ++ (src ++ an)) O4 σ4 H' ρ4, ⟨es.length, by omega, acc, ws, ji0, mk6, S6⟩, ?_⟩
        rintro j k H7 ⟨hk, acc7, ws7, ja7, mk7, S7⟩
        have sv7 := sv1 (Nv G.A O4) H7 j fun p hp => S7.as p (List.mem_append_left _ hp)
        by_cases hlt7 : j < es.length
        · obtain ⟨go7, yl7⟩ := sv7.1 hlt7
          refine .inr ⟨go7, fun H' => ∃ acc ws, JI (j + 1) acc ∧ Mk2 G (src ++ an) O2 σ ρ H1 D acc ws H' ∧ Sta G (src1 ++ (src ++ an)) O4 σ4 H' ρ4, fun H' hN => ⟨k - 1, by omega, by omega, hN⟩, fun x8 H8 y8 => ?_⟩
          obtain ⟨k8, iv8⟩ := yl7 x8 H8 y8
          have hd8 : es[j]? = some es[j] := List.getElem?_eq_getElem hlt7
          have K8 := Keep.none (M := G.R.M) k8
          have I8 := stK_of mk7.sta.inv k8
          have mk8 := mk7.keep oD K8 I8
          have S8 := S7.keep K8 I8
          refine ⟨src1 ++ (src ++ an), O4, wipeE ρ4 vs1, es[j], _, S8.wipe vs1 fun v hv => (hno1 v hv).2, iv8 _ hd8, jit j _ acc7 hd8 ja7 mk7.few, fun O9 σ9 ρ9 S9 h9 w9 x9 => ?_⟩
          have st9 : ∀ i a, O4 i = some a → O9 i = some a := fun l a e => by
            rcases x9 l a e with y | y
            · obtain ⟨y1, y2⟩ := hno1 l (hv1 l y)
              rcases S8.oe l a e with w | ⟨ds, w⟩
              · omega
              · exact absurd w (y2 ds)
            · exact y
          refine ⟨?_, src1 ++ (src ++ an), O9, ρ9, _, S9, h9, fun b1 H10 hb1 k10 i10 => ?_⟩
          · rw [w9 vs1 hv1]
            exact wipe_sub σ4 vs1 vs1 fun _ h => h
          · have mk10 := mk8.keep oD k10 i10
            cases b1 with
            | false =>
              rw [if_neg Bool.false_ne_true] at hb1
              show (if false = true then _ else _)
              rw [if_neg Bool.false_ne_true]
              exact ⟨acc7, ws7, hb1, mk10, S8.keep k10 i10⟩
            | true =>
              rw [if_pos rfl] at hb1
              show (if true = true then _ else _)
              rw [if_pos rfl]
              refine ⟨src1 ++ (src ++ an), O9, ρ9, _, S9.keep k10 i10, hb1, fun y H11 d11 h11 im11 k11 i11 => ?_⟩
              have mk11 := mk10.keep oD k11 i11
              have S11 := (S8.keep k10 i10).keep k11 i11
              refine ⟨ws7, mk11.at_, ?_, acc7 ++ [d11], ws7 ++ [y], h11.2, mk11.push hj oD h11.1 (sub (fun l a e => st9 l a (st4 l a e)) im11), S11.chgP (by rw [l4]; exact hj) (st4 _ _ oD) mk11.at_⟩
              rw [ImA.length mk11.im]
              exact Nat.lt_of_lt_of_le h11.1 (by decide)
        · have e : j = es.length := by omega
          exact .inl ⟨sv7.2 (by omega), acc7, ws7, jie acc7 (by rw [← e]; exact ja7), mk7⟩
  · have e : i = ds.length := by omega
    refine .inl ⟨sv2.2 (by omega), q D H2 acc ws (je acc (by rw [← e]; exact ja)) hD0 mk.at_ (ImA.avoid (fun a o _ z => nvD' a z) _ _ mk.im) ?_ mk.sta.inv⟩
    exact ⟨fun a o e1 z => mk.c1 a o (ne_of_none e1 hD0) (k1.ob a o e1 z) z, fun a xs e1 => mk.c2 a xs (k1.tp a xs e1), fun a o u e1 => mk.c3 a o u (k1.fz a o u e1)⟩
variable {tg iter tg1 iter1 elt : Expr} {ifs ifs1 : List Expr} {scope : Scope} {own : List (Str × Nat)} {pos : Pos}
theorem df_lc2 (hc : X.calm = true) (hN : X.N.Nodup) (hi : PI X tg iter (upI G true wi)) (ok : BlkOk X.N X.env.scope scope own) (hg : InBlk X scope fun Y => PG Y tg (upG G is g)) (ht : InBlk X scope fun Y => PTs Y ifs (upT G wt))
    (hi1 : InBlk X scope fun Y => PI Y tg1 iter1 (upI G true wi1)) (hg1 : InBlk X scope fun Y => PG Y tg1 (upG G is1 g1)) (ht1 : InBlk X scope fun Y => PTs Y ifs1 (upT G wt1)) (he : InBlk X scope fun Y => PE Y elt (up G true we))
    (hv : ∀ i ∈ is, i ∈ own.map (·.2) := by decide) (hv1 : ∀ i ∈ is1, i ∈ vs1 := by decide) (hv2 : ∀ i ∈ vs1, i ∈ own.map (·.2) := by decide) (hs : ∀ x, foldedSetIterable iter X.env x = pure x := by intro _; rfl) (hs1 : ∀ env x, foldedSetIterable iter1 env x = pure x := by intro _ _; rfl) :
    PE X (.ListComp elt [⟨tg, iter, ifs, 0⟩, ⟨tg1, iter1, ifs1, 0⟩] scope pos) (upF G (wLc2 wi g wt wi1 g1 wt1 we (own.map (·.2)) vs1)) := pe_weak (pe_lc2 hc hN hi ok hv2 hg ht hi1 hg1 ht1 he hs hs1) (up_lc2 hv hv1 hv2)
end
end DL

namespace DL
open PySem PySem.Spec PyProof.Rows L2

def wYes : WT := fun _ Φ => Φ true
def wCt : WS := fun W ρ => W.ct ρ
def wNever : WS := fun _ _ => False
section
variable {X : Cx} {G : Gx} {s : Bool} {e : Expr} {we : WE} {pos : Pos}
theorem call_minU (hc : X.calm = true) : CallR X (.builtin "min") (fun vs H Q => (∃ i j, vs = [.int i, .int j] ∧ Q (.int (if j < i then j else i)) H) ∨ rMin X.K vs H Q) := callR_or (call_min2 hc) (cr_min hc)
theorem call_maxU (hc : X.calm = true) : CallR X (.builtin "max") (fun vs H Q => (∃ i j, vs = [.int i, .int j] ∧ Q (.int (if j > i then j else i)) H) ∨ rMax X.K vs H Q) := callR_or (call_max2 hc) (cr_max hc)
/-- a module's constant -/
structure Cst (mg : Str → Option Value) (x : Str) (d : PyData) : Prop where
  ex : ∃ (u : Value) (v : V), mg x = some u ∧ RelV v u ∧ ∀ (W : Wd) (N : Addr → Prop) (H : Hp), Im W N H d v
theorem Cst.rule {x : Str} {d : PyData} (c : Cst X.mg x d) (hg : Gl X x) (hdb : (x == ("__debug__" : Str)) = false := by decide) : PE X (.Name x pos) (up G s (wC d)) := by
  obtain ⟨u, v, h1, h2, h3⟩ := c.ex
  exact de_glob hg h1 h2 (fun N H => h3 _ N H) hdb
theorem Cst.int {mg : Str → Option Value} {x : Str} {i : Int} {t : Tok} (h : mg x = some (.int i t)) : Cst mg x (.int i) := ⟨_, .int i, h, ⟨t, rfl⟩, fun _ _ _ => rfl⟩
theorem Cst.str {mg : Str → Option Value} {x : Str} {i : Str} {t : Tok} (h : mg x = some (.str i t)) : Cst mg x (.str i) := ⟨_, .str i, h, ⟨t, rfl⟩, fun _ _ _ => rfl⟩
end
end DL

namespace DL
open PySem PySem.Spec PyProof.Rows L2

theorem sq {w1 w2 : WS} {W : WX} {ρ : Ev} (h : w1 { W with nx := fun ρ2 => w2 W ρ2 } ρ) : wSq w1 w2 W ρ := h
/-- a comprehension that maps -/
theorem lc_map {wi : WI} {g : WG} {we : WE} {vs : List Nat} {ρ : Ev} {ds : List PyData} (f : PyData → PyData) {Φ : List PyData → Prop} (hn : noOwn ρ vs = true) (hi : ∀ Ψ, Ψ ds → wi ρ Ψ) (hl : ds.length ≤ 100000)
    (h : ∀ d ∈ ds, ∀ Ψ : PyData → Prop, Ψ (f d) → g d (wipeE ρ vs) fun ρ2 => we ρ2 Ψ) (q : Φ (ds.map f)) : wLc wi g wYes we vs ρ Φ := by
  refine ⟨hn, hi _ ⟨fun i acc => acc = (ds.take i).map f, rfl, fun i d acc hd ha hl2 => ?_, fun acc ha => ?_⟩⟩
  · have hi : i < ds.length := (List.getElem?_eq_some_iff.mp hd).1
    have hdi : ds[i] = d := (List.getElem?_eq_some_iff.mp hd).2
    refine h d (List.mem_of_getElem? hd) _ ⟨?_, ?_⟩
    · rw [ha, List.length_map, List.length_take]; omega
    · show acc ++ [f d] = (ds.take (i + 1)).map f
      rw [List.take_succ_eq_append_getElem hi, List.map_append, hdi, ha]; rfl
  · rw [ha, List.take_length]; exact q
/-- a comprehension with a test -/
theorem lc_filter {wi : WI} {g : WG} {wt : WT} {we : WE} {vs : List Nat} {ρ : Ev} {ds : List PyData} (p : PyData → Bool) (f : PyData → PyData) {Φ : List PyData → Prop} (hn : noOwn ρ vs = true) (hi : ∀ Ψ, Ψ ds → wi ρ Ψ) (hl : ds.length ≤ 100000)
    (h : ∀ d ∈ ds, ∀ (Ψ : PyData → Prop) (Θ : Prop), (p d = true → Ψ (f d)) → (p d = false → Θ) → g d (wipeE ρ vs) fun ρ2 => wt ρ2 fun b => if b = true then we ρ2 Ψ else Θ) (q : Φ ((ds.filter p).map f)) : wLc wi g wt we vs ρ Φ := by
  refine ⟨hn, hi _ ⟨fun i acc => acc = ((ds.take i).filter p).map f, rfl, fun i d acc hd ha hl2 => ?_, fun acc ha => ?_⟩⟩
  · have hi : i < ds.length := (List.getElem?_eq_some_iff.mp hd).1
    have hdi : ds[i] = d := (List.getElem?_eq_some_iff.mp hd).2
    refine h d (List.mem_of_getElem? hd) _ _ (fun hp => ⟨?_, ?_⟩) fun hp => ?_
    · have l1 : acc.length ≤ i := by rw [ha, List.length_map]; exact Nat.le_trans (List.length_filter_le _ _) (by rw [List.length_take]; omega)
      omega
    · show acc ++ [f d] = ((ds.take (i + 1)).filter p).map f
      rw [List.take_succ_eq_append_getElem hi, List.filter_append, List.map_append, hdi, List.filter_cons_of_pos hp, ha]; rfl
    · show acc = ((ds.take (i + 1)).filter p).map f
      rw [List.take_succ_eq_append_getElem hi, List.filter_append, hdi, List.filter_cons_of_neg (by rw [hp]; exact Bool.false_ne_true), ha]; simp
  · rw [ha, List.take_length]; exact q
/-- a comprehension whose elements are any that satisfy R (draws) -/
theorem lc_any {wi : WI} {g : WG} {we : WE} {vs : List Nat} {ρ : Ev} {ds : List PyData} (R : Nat → PyData → Prop) {Φ : List PyData → Prop} (hn : noOwn ρ vs = true) (hi : ∀ Ψ, Ψ ds → wi ρ Ψ) (hl : ds.length ≤ 100000)
    (h : ∀ i d, ds[i]? = some d → ∀ Ψ : PyData → Prop, (∀ y, R i y → Ψ y) → g d (wipeE ρ vs) fun ρ2 => we ρ2 Ψ) (q : ∀ ys : List PyData, ys.length = ds.length → (∀ i y, ys[i]? = some y → R i y) → Φ ys) : wLc wi g wYes we vs ρ Φ := by
  refine ⟨hn, hi _ ⟨fun i acc => acc.length = min i ds.length ∧ ∀ j y, acc[j]? = some y → R j y, ⟨by simp, fun j y e => by simp at e⟩, fun i d acc hd ha hl2 => ?_, fun acc ha => ?_⟩⟩
  · have hi : i < ds.length := (List.getElem?_eq_some_iff.mp hd).1
    refine h i d hd _ fun y hy => ⟨?_, ?_, fun j z hz => ?_⟩
    · rw [ha.1]; omega
    · rw [List.length_append, ha.1]; simp; omega
    · by_cases e : j < acc.length
      · rw [List.getElem?_append_left e] at hz
        exact ha.2 j z hz
      · rw [List.getElem?_append_right (by omega)] at hz
        have e2 : j - acc.length = 0 := by
          cases q : j - acc.length with
          | zero => rfl
          | succ n => rw [q] at hz; simp at hz
        rw [e2] at hz
        have e3 : y = z := by simpa using hz
        have e4 : j = i := by rw [ha.1] at e e2; omega
        rw [e4, ← e3]; exact hy
  · exact q acc (by rw [ha.1]; simp) ha.2
/-- the truth of all, of any, over what a comprehension makes -/
theorem map_bools {α : Type} (ds : List α) (p : α → Bool) : ds.map (fun x => PyData.bool (p x)) = (ds.map p).map .bool := by rw [List.map_map]; rfl
/-- a for that goes through -/
theorem for_all {wi : WI} {g : WG} {wb : WS} {W : WX} {ρ : Ev} {ds : List PyData} (J : Nat → Ev → Prop) (hi : ∀ Ψ, Ψ ds → wi ρ Ψ) (h0 : J 0 ρ)
    (h : ∀ i d ρ2, ds[i]? = some d → J i ρ2 → g d ρ2 fun ρ3 => wb { W with nx := fun ρ4 => J (i + 1) ρ4, ct := fun ρ4 => J (i + 1) ρ4, bk := W.nx } ρ3) (q : ∀ ρ2, J ds.length ρ2 → W.nx ρ2) : wFor wi g wb W ρ := hi _ ⟨J, h0, h, q⟩
mutual
def noB : PyData → Bool
  | .bool _ => false
  | .dict _ => false
  | .list xs => noBA xs
  | .tuple xs => noBA xs
  | _ => true
def noBA : List PyData → Bool
  | [] => true
  | x :: xs => noB x && noBA xs
end
mutual
theorem eqv_iff : ∀ (d e : PyData), noB d = true → noB e = true → (PyData.eqv d e = true ↔ d = e)
  | .none, .none, _, _ => by simp [PyData.eqv]
  | .int i, .int j, _, _ => by simp [PyData.eqv]
  | .str i, .str j, _, _ => by simp [PyData.eqv]
  | .list xs, .list ys, h, k => by
    simp only [PyData.eqv, PyData.list.injEq]
    exact eqvA_iff xs ys (by simpa [noB] using h) (by simpa [noB] using k)
  | .tuple xs, .tuple ys, h, k => by
    simp only [PyData.eqv, PyData.tuple.injEq]
    exact eqvA_iff xs ys (by simpa [noB] using h) (by simpa [noB] using k)
  | .bool _, _, h, _ => by simp [noB] at h
  | .dict _, _, h, _ => by simp [noB] at h
  | _, .bool _, _, h => by simp [noB] at h
  | _, .dict _, _, h => by simp [noB] at h
  | .none, .int _, _, _ | .none, .str _, _, _ | .none, .list _, _, _ | .none, .tuple _, _, _ => by simp [PyData.eqv]
  | .int _, .none, _, _ | .int _, .str _, _, _ | .int _, .list _, _, _ | .int _, .tuple _, _, _ => by simp [PyData.eqv]
  | .str _, .none, _, _ | .str _, .int _, _, _ | .str _, .list _, _, _ | .str _, .tuple _, _, _ => by simp [PyData.eqv]
  | .list _, .none, _, _ | .list _, .int _, _, _ | .list _, .str _, _, _ | .list _, .tuple _, _, _ => by simp [PyData.eqv]
  | .tuple _, .none, _, _ | .tuple _, .int _, _, _ | .tuple _, .str _, _, _ | .tuple _, .list _, _, _ => by simp [PyData.eqv]
theorem eqvA_iff : ∀ (d e : List PyData), noBA d = true → noBA e = true → (PyData.eqvAll d e = true ↔ d = e)
  | [], [], _, _ => by simp [PyData.eqvAll]
  | x :: xs, y :: ys, h, k => by
    have h2 : noB x = true ∧ noBA xs = true := by simpa [noBA, Bool.and_eq_true] using h
    have k2 : noB y = true ∧ noBA ys = true := by simpa [noBA, Bool.and_eq_true] using k
    simp only [PyData.eqvAll, Bool.and_eq_true, List.cons.injEq]
    rw [eqv_iff x y h2.1 k2.1, eqvA_iff xs ys h2.2 k2.2]
  | [], _ :: _, _, _ => by simp [PyData.eqvAll]
  | _ :: _, [], _, _ => by simp [PyData.eqvAll]
end
theorem noBA_iff : ∀ {xs : List PyData}, noBA xs = true ↔ ∀ x ∈ xs, noB x = true
  | [] => by simp [noBA]
  | x :: xs => by simp [noBA, Bool.and_eq_true, noBA_iff (xs := xs)]
theorem eqv_self {d : PyData} (h : noB d = true) : PyData.eqv d d = true := (eqv_iff d d h h).mpr rfl
/-- x in a list of such -/
theorem memD_iff {d : PyData} {xs : List PyData} (h : noB d = true) (k : ∀ x ∈ xs, noB x = true) : memD d xs = true ↔ d ∈ xs := by
  unfold memD
  rw [List.any_eq_true]
  constructor
  · rintro ⟨x, hx, e⟩
    rw [(eqv_iff x d (k x hx) h).mp e] at hx
    exact hx
  · intro hx
    exact ⟨d, hx, eqv_self h⟩
/-- how deep: lists of data that are n deep -/
theorem fit_tuple {xs : List PyData} {n : Nat} (h : ∀ x ∈ xs, dOk n x = true) : dOk (n + 1) (.tuple xs) = true := by
  simp only [dOk]
  exact dOkA_iff.mpr h
theorem fit_list {xs : List PyData} {n : Nat} (h : ∀ x ∈ xs, dOk n x = true) : dOk (n + 1) (.list xs) = true := by
  simp only [dOk]
  exact dOkA_iff.mpr h
mutual
theorem dOk_mono : ∀ (n m : Nat) (d : PyData), n ≤ m → dOk n d = true → dOk m d = true
  | n, m, .none, _, _ => by cases m <;> simp [dOk]
  | n, m, .bool _, _, _ => by cases m <;> simp [dOk]
  | n, m, .int _, _, _ => by cases m <;> simp [dOk]
  | n, m, .str x, _, h => by cases n <;> cases m <;> simpa [dOk] using h
  | 0, m, .list _, _, h => by simp [dOk] at h
  | 0, m, .tuple _, _, h => by simp [dOk] at h
  | n + 1, 0, .list ds, l, h => by omega
  | n + 1, 0, .tuple ds, l, h => by omega
  | n + 1, m + 1, .list ds, l, h => by simp only [dOk] at h ⊢; exact dOkA_mono n m ds (by omega) h
  | n + 1, m + 1, .tuple ds, l, h => by simp only [dOk] at h ⊢; exact dOkA_mono n m ds (by omega) h
  | n, m, .dict _, _, h => by cases n <;> simp [dOk] at h
theorem dOkA_mono : ∀ (n m : Nat) (ds : List PyData), n ≤ m → dOkA n ds = true → dOkA m ds = true
  | n, m, [], _, _ => rfl
  | n, m, d :: ds, l, h => by
    have h2 : dOk n d = true ∧ dOkA n ds = true := by simpa [dOkA, Bool.and_eq_true] using h
    simp only [dOkA, Bool.and_eq_true]
    exact ⟨dOk_mono n m d l h2.1, dOkA_mono n m ds l h2.2⟩
end
theorem fit_of {n : Nat} {d : PyData} (h : dOk n d = true) (hn : n ≤ 20 := by decide) : Fit d := dOk_mono n 20 d hn h
/-- parts of lists -/
theorem cutG_none {α : Type} {xs : List α} {i : Nat} (h : i ≤ xs.length) : cutG xs none (some (i : Int)) = xs.take i := by
  unfold cutG
  rw [HT.sIx_none, HT.sIx_nat, Nat.sub_zero, List.drop_zero, Nat.min_eq_left h]
theorem cutG_some {α : Type} {xs : List α} {i : Nat} : cutG xs (some (i : Int)) none = xs.drop i := by
  unfold cutG
  rw [HT.sIx_none, HT.sIx_nat]
  by_cases h : i ≤ xs.length
  · rw [Nat.min_eq_left h, List.take_of_length_le]
    rw [List.length_drop]
    exact Nat.le_refl _
  · rw [Nat.min_eq_right (by omega), List.drop_length, List.drop_eq_nil_of_le (by omega), List.take_nil]
theorem fNe_i {x y : PyData} {Φ : PyData → Prop} (h1 : Fit x) (h2 : Fit y) (q : Φ (.bool (!PyData.eqv x y))) : fNe x y Φ := by
  unfold fNe
  split
  · rename_i a b
    have e : PyData.eqv (.str a) (.str b) = decide (a = b) := by
      simp only [PyData.eqv]
      by_cases h : a = b <;> simp [h]
    rw [e] at q
    exact q
  · exact ⟨h1, h2, q⟩
theorem fEq_i {x y : PyData} {Φ : PyData → Prop} (h1 : Fit x) (h2 : Fit y) (q : Φ (.bool (PyData.eqv x y))) : fEq x y Φ := by
  unfold fEq
  split
  · rename_i a b
    have e : PyData.eqv (.str a) (.str b) = decide (a = b) := by
      simp only [PyData.eqv]
      by_cases h : a = b <;> simp [h]
    rw [e] at q
    exact q
  · exact ⟨h1, h2, q⟩
theorem shownAll_map : ∀ xs : List PyData, PyData.shownAll xs = xs.map PyData.shown
  | [] => by simp [PyData.shownAll]
  | x :: xs => by simp [PyData.shownAll, shownAll_map xs]
theorem showableAll_iff : ∀ {xs : List PyData}, PyData.showableAll xs = true ↔ ∀ x ∈ xs, x.showable = true
  | [] => by simp [PyData.showableAll]
  | x :: xs => by simp [PyData.showableAll, Bool.and_eq_true, showableAll_iff (xs := xs)]
theorem piled_le {m : Nat} : ∀ {ts : List Str}, (∀ t ∈ ts, t.length ≤ m) → piled ts ≤ ts.length * (m + 2)
  | [], _ => by simp [piled]
  | t :: ts, h => by
    have ih := piled_le (ts := ts) fun x hx => h x (List.mem_cons_of_mem _ hx)
    have h1 := h t List.mem_cons_self
    have e : piled (t :: ts) = t.length + 2 + piled ts := by simp [piled]
    rw [e, List.length_cons, Nat.add_one_mul]
    omega
theorem Str.len_append (a b : Str) : (a ++ b).length = a.length + b.length := by
  show (a.cps ++ b.cps).size = _
  rw [Array.size_append]
  rfl
theorem shown_tuple {xs : List PyData} {m : Nat} (h : ∀ x ∈ xs, x.showable = true ∧ x.shown.length ≤ m) : (PyData.tuple xs).showable = true ∧ (PyData.tuple xs).shown.length ≤ xs.length * (m + 2) + 3 := by
  refine ⟨by simp only [PyData.showable]; exact showableAll_iff.mpr fun x hx => (h x hx).1, ?_⟩
  simp only [PyData.shown]
  rw [shownAll_map]
  have p := piled_le (m := m) (ts := xs.map PyData.shown) fun t ht => by
    obtain ⟨x, hx, rfl⟩ := List.mem_map.mp ht
    exact (h x hx).2
  rw [List.length_map] at p
  unfold tupleText
  rw [Str.len_append, Str.len_append]
  have j : (Str.join ", " (xs.map PyData.shown)).length ≤ xs.length * (m + 2) := by
    cases xs with
    | nil => exact Nat.zero_le _
    | cons x r =>
      have := join_length_add ((x :: r).map PyData.shown) (by simp)
      omega
  have e1 : (("(" : Str)).length = 1 := rfl
  have e2 : (((if (xs.map PyData.shown).length == 1 then ",)" else ")" : String) : Str)).length ≤ 2 := by split <;> decide
  omega
theorem shown_none : PyData.none.showable = true ∧ PyData.none.shown.length ≤ 4 := ⟨rfl, by decide⟩
theorem shown_int {i : Int} {k : Nat} (h : i.natAbs < 2 ^ k) (hk : 0 < k) (hk2 : k ≤ 1920) : (PyData.int i).showable = true ∧ (PyData.int i).shown.length ≤ k + 1 := by
  have l := PySem.Flt.log2_lt_of hk h
  refine ⟨by simp only [PyData.showable]; exact decide_eq_true (by omega), ?_⟩
  simp only [PyData.shown]
  have q := int_text_length_le hk l
  have e : ((toString i : String) : Str).length = (toString i).length := PySem.ofString_length _
  omega
/-- a comprehension whose test is drawn: some of them, in their order -/
theorem lc_some {wi : WI} {g : WG} {wt : WT} {we : WE} {vs : List Nat} {ρ : Ev} {ds : List PyData} {Φ : List PyData → Prop} (hn : noOwn ρ vs = true) (hi : ∀ Ψ, Ψ ds → wi ρ Ψ) (hl : ds.length ≤ 100000)
    (h : ∀ d ∈ ds, ∀ (Ψ : PyData → Prop) (Θ : Prop), Ψ d → Θ → g d (wipeE ρ vs) fun ρ2 => wt ρ2 fun b => if b = true then we ρ2 Ψ else Θ) (q : ∀ ys, ys.Sublist ds → Φ ys) : wLc wi g wt we vs ρ Φ := by
  refine ⟨hn, hi _ ⟨fun i acc => acc.Sublist (ds.take i), List.Sublist.refl _, fun i d acc hd ha hl2 => ?_, fun acc ha => ?_⟩⟩
  · have hi : i < ds.length := (List.getElem?_eq_some_iff.mp hd).1
    have hdi : ds[i] = d := (List.getElem?_eq_some_iff.mp hd).2
    have tk : ds.take (i + 1) = ds.take i ++ [d] := by rw [List.take_succ_eq_append_getElem hi, hdi]
    refine h d (List.mem_of_getElem? hd) _ _ ⟨?_, ?_⟩ ?_
    · have := ha.length_le
      rw [List.length_take] at this
      omega
    · show (acc ++ [d]).Sublist (ds.take (i + 1))
      rw [tk]
      exact ha.append (List.Sublist.refl _)
    · show acc.Sublist (ds.take (i + 1))
      rw [tk]
      exact ha.trans (List.sublist_append_left _ _)
  · refine q acc ?_
    have ha : acc.Sublist (ds.take ds.length) := ha
    rw [List.take_length] at ha
    exact ha
end DL

namespace DL
open PySem PySem.Spec PyProof.Rows L2

/-- the drawn state: at b a list of the list at c (amounts not below 0) and one amount -/
def drw (b c : Addr) : Res where
  M := fun a => a = b ∨ a = c
  I := fun H => b ≠ c ∧ ∃ (ks : List Int) (k : Int), H b = some (.lst [.ref c, .int k]) ∧ H c = some (.lst (ks.map .int)) ∧ (∀ x ∈ ks, 0 ≤ x) ∧ ks.length ≤ 1000 ∧ 0 ≤ k ∧ k < 2147483647
  b := b
  st := fun H H' ⟨n, ks, k, h1, h2, h3, h4⟩ q => ⟨n, ks, k, q b _ (.inl rfl) h1, q c _ (.inr rfl) h2, h3, h4⟩
  al := fun H a ⟨_, ks, k, h1, h2, _⟩ m => m.elim (fun e => ⟨_, e ▸ h1⟩) (fun e => ⟨_, e ▸ h2⟩)
theorem dpInts {K : PySem.W.Frag} {H : Hp} : ∀ ks : List Int, DpAll K H (ks.map V.int) (ks.map PyData.int)
  | [] => .nil
  | k :: ks => .cons (.int k) (dpInts ks)
theorem shInts (ks : List Int) : SeqAt.shaped (.list (ks.map PyData.int)) = true :=
  dOk.shaped (n := 2) (by show dOkA 1 _ = true; rw [dOkA_iff]; intro d hd; obtain ⟨i, _, rfl⟩ := List.mem_map.mp hd; rfl)
theorem eqvNil (ks : List Int) : PyData.eqv (.list (ks.map PyData.int)) (.list []) = ks.isEmpty := by
  cases ks <;> rfl
structure Dr (b c : Addr) (H0 H : Hp) (ks : List Int) (k : Int) : Prop where
  kp : Keep (drw b c).M H0 H
  ne : b ≠ c
  hb : H b = some (.lst [.ref c, .int k])
  hc : H c = some (.lst (ks.map .int))
  nn : ∀ x ∈ ks, 0 ≤ x
  few : ks.length ≤ 1000
  k0 : 0 ≤ k
  k1 : k < 2147483647
theorem Dr.I {b c : Addr} {H0 H : Hp} {ks : List Int} {k : Int} (D : Dr b c H0 H ks k) : (drw b c).I H := ⟨D.ne, ks, k, D.hb, D.hc, D.nn, D.few, D.k0, D.k1⟩
theorem Dr.new {b c : Addr} {H0 H : Hp} {ks : List Int} {k : Int} (D : Dr b c H0 H ks k) {p : Addr} {o : HO} (hp : H p = none) : Dr b c H0 (upd H p o) ks k :=
  ⟨D.kp.trans (Keep.new hp), D.ne, by rw [upd_ne (ne_of_none D.hb hp)]; exact D.hb, by rw [upd_ne (ne_of_none D.hc hp)]; exact D.hc, D.nn, D.few, D.k0, D.k1⟩
theorem Dr.setc {b c : Addr} {H0 H : Hp} {ks : List Int} {k : Int} (D : Dr b c H0 H ks k) (ks' : List Int) (nn : ∀ x ∈ ks', 0 ≤ x) (few : ks'.length ≤ 1000) {xs : List V} (e : xs = ks'.map .int) : Dr b c H0 (upd H c (.lst xs)) ks' k :=
  ⟨D.kp.trans (Keep.set D.hc (.inr rfl)), D.ne, by rw [upd_ne D.ne]; exact D.hb, by rw [upd_same, e], nn, few, D.k0, D.k1⟩
theorem Dr.setb {b c : Addr} {H0 H : Hp} {ks : List Int} {k : Int} (D : Dr b c H0 H ks k) (k' : Int) (k0 : 0 ≤ k') (k1 : k' < 2147483647) : Dr b c H0 (upd H b (.lst [.ref c, .int k'])) ks k' :=
  ⟨D.kp.trans (Keep.set D.hb (.inl rfl)), D.ne, by rw [upd_same], by rw [upd_ne (Ne.symm D.ne)]; exact D.hc, D.nn, D.few, k0, k1⟩
theorem lastInt (l : List Int) (x : Int) : ((l ++ [x]).map V.int)[((l ++ [x]).map V.int).length - 1]? = some (.int x) := by
  rw [List.map_append, List.length_append, List.map_singleton, List.length_singleton, Nat.add_sub_cancel, List.getElem?_append_right (Nat.le_refl _), Nat.sub_self]; rfl
theorem dropInt (l : List Int) (x : Int) : ((l ++ [x]).map V.int).dropLast = l.map V.int := by
  rw [List.map_append, List.map_singleton, List.dropLast_concat]
/-- one amount drawn, below the argument -/
def F_draw : FD := fun ds Φ => ∃ k : Int, ds = [.int k] ∧ 0 < k ∧ k < 1073741824 ∧ ∀ r, 0 ≤ r → r < k → Φ (.int r)

def wRev (we : WE) : WE := fun ρ Φ => we ρ fun d => match d with | .list xs => Φ (.list xs.reverse) | _ => False
theorem ImA.rev {W : Wd} {N : Addr → Prop} {H : Hp} : ∀ {ds : List PyData} {vs : List V}, ImA W N H ds vs → ImA W N H ds.reverse vs.reverse
  | [], _, h => by cases h; rfl
  | d :: ds, _, h => by
    obtain ⟨v, r, rfl, q1, q2⟩ := h
    rw [List.reverse_cons, List.reverse_cons]
    exact ImA.append (ImA.rev q2) (ImA.one q1)
theorem de_rev {X : Cx} {G : Gx} {s : Bool} {e : Expr} {we : WE} {k : Nat} {p1 p2 p3 pos : Pos} (hK : X.K = G.W.K) (h : PE X e (up G s we)) : PE X (.Subscript e (.Slice none none (some (.UnaryOp .USub (.Constant (.int 1) k p1) p2)) p3) pos) (up G s (wRev we)) :=
  pe_weak (pe_revL h) fun σ H Q ⟨an, O, ρ, Φ, S, h, q⟩ => by
    refine ⟨an, O, ρ, _, S, h, fun v H1 d h1 im k1 i1 => ?_⟩
    cases d with
    | list xs =>
      obtain ⟨a, vs, rfl, r, n, m⟩ := im
      have S1 := S.keep k1 i1
      exact ⟨a, vs, rfl, .inl (.inl r), fun p hp => q _ _ _ h1 (S1.lst hp (ImA.rev m)) (k1.trans (Keep.new hp)) (S1.newI hp)⟩
    | _ => exact h1.elim

def spS (W : Wd) (F : List Int → (PyData → Prop) → Prop) : Sp := fun vs H Q _ => ∃ (a : Addr) (N : Addr → Prop) (ns : List Int) (Φ : PyData → Prop), vs = [.ref a] ∧ SqS W.K H a (ns.map V.int) ∧ (∀ a, N a → ∃ o, H a = some o) ∧ F ns Φ ∧
  ∀ v H' d, Φ d → Im W N H' d v → Keep (fun _ => False) H H' → Q v H'
def evS (n : Nat) (ns : List Int) : Ev := .s ns :: List.replicate (n - 1) .u
def evS1 (n : Nat) (ns : List Int) : Ev := .s ns :: .m :: List.replicate (n - 2) .u
theorem sta_startS {G : Gx} {ns : List Str} {is : List Int} {a : Addr} (hl : 1 ≤ ns.length) (hI : G.R.I G.H0) (al : ∀ a, G.A a → ∃ o, G.H0 a = some o) (ra : ∀ a, G.R.M a → G.A a) (hs : SqS G.W.K G.H0 a (is.map V.int)) :
    Sta G [] (fun _ => none) (start ns [.ref a]) G.H0 (evS ns.length is) := by
  refine ⟨hI, Keep.refl _, al, ra, fun i p e => (nomatch e), fun i j p e => (nomatch e), ⟨0, fun _ _ => rfl⟩, fun i p e => (nomatch e), ?_, fun i => ?_, fun p hp => (nomatch hp)⟩
  · unfold L2.start evS
    simp only [List.length_append, List.length_map, List.length_replicate, List.length_cons, List.length_nil]
    omega
  · cases i with
    | zero => exact ⟨a, rfl, hs⟩
    | succ i =>
      rw [nth_ev]
      unfold evS
      rw [List.getElem?_cons_succ, List.getElem?_replicate]
      split <;> trivial
/-- the law's own frame, once the drawn state stands in slot 1 -/
theorem sta_law {G : Gx} {σ : L2.St} {n : Nat} {is : List Int} {a : Addr} (hn : 2 ≤ n) (hσ : σ.length = n) (h0 : σ[0]? = some (some (.ref a))) (h1 : σ[1]? = some (some (.ref G.R.b))) (hI : G.R.I G.H0) (al : ∀ a, G.A a → ∃ o, G.H0 a = some o) (ra : ∀ a, G.R.M a → G.A a) (hs : SqS G.W.K G.H0 a (is.map V.int)) :
    Sta G [] (fun _ => none) σ G.H0 (evS1 n is) := by
  refine ⟨hI, Keep.refl _, al, ra, fun i p e => (nomatch e), fun i j p e => (nomatch e), ⟨0, fun _ _ => rfl⟩, fun i p e => (nomatch e), ?_, fun i => ?_, fun p hp => (nomatch hp)⟩
  · unfold evS1
    simp only [List.length_replicate, List.length_cons]
    omega
  · match i with
    | 0 => exact ⟨a, h0, hs⟩
    | 1 => exact h1
    | i + 2 =>
      rw [nth_ev]
      unfold evS1
      rw [List.getElem?_cons_succ, List.getElem?_cons_succ, List.getElem?_replicate]
      split <;> trivial
section
variable {P : Program} {w : World} {mg : Str → Option Value} {base : Heap} {W : Wd} {k : Nat} {f : Addr} {fd : FuncData} {N : List Str} {x p qual : Str} {st : Stmt} {F : List Int → (PyData → Prop) → Prop}
theorem ok_script (Fn : Fun W.K x qual st f fd) (S : FnScope N [p] (defScope st)) (hn : 1 ≤ N.length)
    (body : ∀ (cdv : Value) (A : Around) (env : List Env) (s : Shared) (H : Hp) (E : XK) (N0 : Addr → Prop), Rg k (A.deeper (envOfC qual (defScope st) s.heap.objs.size f cdv)) →
      ∃ ws, PSs (cxOf CX0 P w W.K mg base N qual (defScope st) f cdv A env s H E).nox (defBody st) (upS ⟨W, Res.none, N0, H⟩ ws) ∧ ∀ ns Φ, F ns Φ → ws (retX Φ) (evS N.length ns)) :
    FnG P w W.K mg base CX0 (k + 1) f fd [p] (spS W F) := by
  refine FnG.mk' Fn S (fun vs H Q E h => ?_) fun cdv A env s H vs Q E hr h => ?_
  · obtain ⟨a, N', ns, Φ, rfl, _⟩ := h
    rfl
  · obtain ⟨a, N', ns, Φ, rfl, hs, al, hF, q⟩ := h
    obtain ⟨ws, pt, hw⟩ := body cdv A env s H E N' hr
    refine ⟨_, pt.nox, [], _, _, retX Φ, sta_startS (G := ⟨W, Res.none, N', H⟩) hn True.intro al (fun a z => z.elim) hs, hw ns Φ hF, ?_, ?_, ?_, ?_⟩
    · exact fun O2 σ2 H2 ρ2 S2 z => q .non H2 .none z rfl S2.kp
    · exact fun v H2 d z m kk _ => q v H2 d z m kk
    · exact fun O2 σ2 H2 ρ2 S2 z => z
    · exact fun O2 σ2 H2 ρ2 S2 z => z
end
theorem pss_ex {X : Cx} {sts : List Stmt} {ι : Type} {t : ι → TS} (h : ∀ i, PSs X sts (t i)) : PSs X sts (fun D σ H => ∃ i, t i D σ H) := ⟨fun pins s σ H D I ⟨i, q⟩ => (h i).run pins s σ H D I q⟩

/-- what _law_heap gives back: data, with the amounts' bounds -/
def HeapOk (d : PyData) : Prop := ∃ (ks : List Int) (k : Int), d = .list [.list (ks.map .int), .int k] ∧ (∀ x ∈ ks, 0 ≤ x) ∧ ks.length ≤ 1000 ∧ 0 ≤ k ∧ k < 2147483647
theorem heap_made {W : Wd} {H H' : Hp} {d : PyData} {v : V} (h : HeapOk d) (im : Im W (fun a => ∃ o, H a = some o) H' d v) : ∃ b c, v = .ref b ∧ (drw b c).I H' ∧ H b = none ∧ H c = none := by
  obtain ⟨ks, k, rfl, h1, h2, h3, h4⟩ := h
  obtain ⟨b, xs, rfl, e1, n1, m1⟩ := im
  obtain ⟨v1, r1, rfl, m2, m3⟩ := m1
  obtain ⟨v2, r2, rfl, m4, m5⟩ := m3
  obtain rfl : r2 = [] := m5
  obtain rfl : v2 = .int k := m4
  obtain ⟨c, ys, rfl, e2, n2, m6⟩ := m2
  obtain rfl := ImA.ints m6
  have nn : ∀ {a : Addr}, ¬ (∃ o, H a = some o) → H a = none := fun {a} n => by
    cases q : H a with
    | none => rfl
    | some o => exact absurd ⟨o, q⟩ n
  refine ⟨b, c, rfl, ⟨fun e => ?_, ks, k, e1, e2, h1, h2, h3, h4⟩, nn n1, nn n2⟩
  subst e
  rw [e1] at e2
  injection e2 with e2
  injection e2 with e2
  cases ks with
  | nil => cases e2
  | cons x r => injection e2 with z _; cases z

/-- the instance that is being made -/
def ownR (x C dx : Addr) : Res where
  M := fun a => a = x
  I := fun H => H x = some (.ins C dx [])
  b := x
  st := fun H H' h q => q x _ rfl h
  al := fun H a h m => ⟨_, (show a = x from m) ▸ h⟩
abbrev FI := List PyData → (List (PyData × PyData) → Prop) → Prop
def spI (W : Wd) (C : Addr) (n : Nat) (F : FI) : Sp := fun vs H Q _ => ∃ (x dx : Addr) (vs' : List V) (N : Addr → Prop) (ds : List PyData) (Φ : List (PyData × PyData) → Prop), vs = .ref x :: vs' ∧ vs.length = n ∧ H x = some (.ins C dx []) ∧ N x ∧
  (∀ a, N a → ∃ o, H a = some o) ∧ ImA W N H ds vs' ∧ F ds Φ ∧ ∀ fs H' kvs, Φ kvs → H' x = some (.ins C dx fs) → ImF W N H' kvs fs → Keep (fun a => a = x) H H' → Q .non H'
theorem Rg.make {k : Nat} {A : Around} (r : Rg (k + 1) A) (C : Addr) (us : List Value) (kw : List (Str × Value)) : Rg k (A.under (.builtin "type.__call__" ⟨.ref C :: us, kw⟩)) :=
  ⟨r.room.make C us kw, by
    have e : (Code.builtin "type.__call__" ⟨.ref C :: us, kw⟩).guards = [] := by
      unfold Code.guards
      rw [show (Code.builtin "type.__call__" ⟨.ref C :: us, kw⟩).isGuard = false from rfl]
      rfl
    show pushGuards (Code.builtin "type.__call__" ⟨.ref C :: us, kw⟩).guards A.guards = some []
    rw [e, r.free]
    rfl⟩
section
variable {X : Cx} {G : Gx} {k n : Nat} {f C : Addr} {fd : FuncData} {ps : List Str} {sp : Sp} {x : Str} {e : Expr} {es : List Expr} {t : TA} {p pos : Pos} {CX : CXT} {E : XK} {F : FI} {s : Bool} {wr : WA}
theorem run_makeG {pins : List (Addr × Obj)} {σ : L2.St} {H : Hp} {sh : Shared} {Q : VK} {us : List Value} {vs : List V} (M : Mk X.K C f) (Fn : FnG X.prog X.w X.K X.mg X.base CX k f fd ps sp) (hr : Rg (k + 1) X.A) (hb : Binds X.K fd ps [])
    (hx : Passes CX X E) (I : Inv X pins σ H sh) (r : Vals vs us)
    (h : ∀ x dx, H x = none → H dx = none → dx ≠ x → sp (.ref x :: vs) (upd (upd H dx (.own x)) x (.ins C dx [])) (fun v H2 => v = .non ∧ Q (.ref x) H2) E) :
    wpAny (model X.prog X.w) X.A (call (.ref C) us) (EP X pins σ Q) X.xe sh := by
  have hq := h (sh.heap.objs.size + 1) sh.heap.objs.size (I.hok.fresh (Nat.le_succ _)) (I.hok.fresh (Nat.le_refl _)) (Nat.ne_of_lt (Nat.lt_succ_self _))
  have I2 := Inv.made (C := C) I
  have r2 : Vals (V.ref (sh.heap.objs.size + 1) :: vs) (Value.ref (sh.heap.objs.size + 1) :: us) := .cons rfl r
  have hl : (Value.ref (sh.heap.objs.size + 1) :: us).length = ps.length := by
    have e := r2.length
    rw [Fn.size _ _ _ _ hq] at e
    exact e.symm
  have hb2 := hb _ (Value.ref (sh.heap.objs.size + 1) :: us) I2.kIn (by rw [List.append_nil]; exact hl)
  rw [List.append_nil] at hb2
  refine wpAny_call (make_map (f := f) I.kIn M.makes M.init (beq_iff_eq.mp M.fn) (codeAny_mono (Fn.goes _ X.stack _ _ ⟨Value.ref (sh.heap.objs.size + 1) :: us, []⟩ (Value.ref (sh.heap.objs.size + 1) :: us) _ _ E (hr.make C us [])
    (I2.env0.make C us []) hb2 r2 hq) fun r s' hq' => ?_))
  cases r with
  | error e => exact hx pins σ _ _ e s' I2 hq'
  | ok fl =>
    cases fl with
    | ret u =>
      obtain ⟨v, H', I3, rv, ev, q3⟩ := I2.after hq'
      subst ev
      exact ⟨rv, ⟨V.ref (sh.heap.objs.size + 1), H', I3, rfl, q3⟩⟩
    | next => exact False.elim hq'
    | brk => exact False.elim hq'
    | cont => exact False.elim hq'
theorem pe_makeG (M : Mk X.K C f) (Fn : FnG X.prog X.w X.K X.mg X.base CX k f fd ps sp) (hr : Rg (k + 1) X.A) (hg : Gl X x) (hm : X.mg x = some (.ref C)) (hb : Binds X.K fd ps []) (hx : Passes CX X E)
    (ha : PA X (e :: es) t) (hdb : (x == ("__debug__" : Str)) = false := by decide) (he : starEach (e :: es) X.env = (false, eval e X.env) :: starEach es X.env := by rfl) (hpl : (backTo pos (starEach es X.env)).any (·.1) = false := by rfl) :
    PE X (.Call (.Name x p) (e :: es) [] pos) (fun σ H Q => t σ H fun vs H1 => ∀ x dx, H1 x = none → H1 dx = none → dx ≠ x → sp (.ref x :: vs) (upd (upd H1 dx (.own x)) x (.ins C dx [])) (fun v H2 => v = .non ∧ Q (.ref x) H2) E) := by
  refine ⟨fun pins s σ H Q I h => ?_⟩
  refine wpAny_Call_Name_kw (ld_glob I hg hm ?_ hdb)
  refine PySem.W.callWith_K (h₀ := X.base) I.ok.mod.kin M.kp (thn (ha.run pos pins s σ H _ I h) fun us s1 ⟨vs, H1, I1, r, q⟩ => ⟨I1.kIn, ?_⟩) he hpl
  exact run_makeG M Fn hr hb hx I1 r q
/-- a class of the module whose __init__ keeps a promise -/
structure CalI (P : Program) (w : World) (W : Wd) (mg : Str → Option Value) (base : Heap) (k : Nat) (x : Str) (ks ps : List Str) (F : FI) : Prop where
  ex : ∃ (f : Addr) (fd : FuncData), Mk W.K (W.kc ks) f ∧ mg x = some (.ref (W.kc ks)) ∧ Binds W.K fd ps [] ∧ FnG P w W.K mg base CX0 k f fd ps (spI W (W.kc ks) ps.length F)
def wMake (F : FI) (ks : List Str) (n : Nat) (wr : WA) : WE := fun ρ Φ => wr ρ fun xs => xs.length + 1 = n ∧ F xs fun kvs => namesOf kvs = ks ∧ Φ (.dict kvs)
theorem de_make {ks : List Str} {j : Nat} (Cl : CalI X.prog X.w G.W X.mg X.base k x ks ps F) (hK : X.K = G.W.K) (hr : Rg j X.A) (hkj : k + 1 ≤ j) (hg : Gl X x) (ha : PA X (e :: es) (upA G s wr)) (hn : ps.length = n := by rfl) (hdb : (x == ("__debug__" : Str)) = false := by decide)
    (he : starEach (e :: es) X.env = (false, eval e X.env) :: starEach es X.env := by rfl) (hpl : (backTo pos (starEach es X.env)).any (·.1) = false := by rfl) :
    PE X (.Call (.Name x p) (e :: es) [] pos) (up G s (wMake F ks n wr)) := by
  subst hn
  obtain ⟨f, fd, M, hm, hb, Fn⟩ := Cl.ex
  rw [← hK] at M hb Fn
  refine pe_weak (pe_makeG (E := fun _ _ _ => False) M Fn (hr.mono hkj) hg hm hb pass0 ha hdb he hpl) fun σ H Q ⟨an, O, ρ, Φ, S, h, q⟩ => ?_
  refine ⟨an, O, ρ, _, S, h, fun vs H1 ds h1 im k1 i1 y dx hy hdx hne => ?_⟩
  have S1 := S.keep k1 i1
  have hy2 : (upd H1 dx (.own y)) y = none := by rw [upd_ne (Ne.symm hne)]; exact hy
  have K2 : ∀ M, Keep M H1 (upd (upd H1 dx (.own y)) y (.ins (G.W.kc ks) dx [])) := fun M => (Keep.new hdx).trans (Keep.new hy2)
  have im2 : ImA G.W (fun a => Nn G O s a ∨ a = y) H1 ds vs := ImA.avoid (fun a o e z => z.elim id fun z => by rw [z, hy] at e; cases e) _ _ im
  refine ⟨y, dx, vs, fun a => Nn G O s a ∨ a = y, ds, _, rfl, ?_, upd_same, .inr rfl, fun a z => ?_, ImA.keep (K2 _) _ _ im2, h1.2, fun fs H3 kvs hk hx3 imf kp => ⟨rfl, ?_⟩⟩
  · rw [List.length_cons, ImA.length im]; exact h1.1
  · rcases z with z | z
    · obtain ⟨o, e1⟩ := S1.there (nn_v z)
      exact ⟨o, (K2 fun _ => False).ob a o e1 id⟩
    · exact ⟨_, by rw [z, upd_same]⟩
  have ob : ∀ a o, H1 a = some o → H3 a = some o := fun a o e1 => kp.ob a o ((K2 fun _ => False).ob a o e1 id) (ne_of_none e1 hy)
  have K3 : Keep G.R.M H1 H3 := ⟨fun a o e1 _ => ob a o e1, fun a xs e1 => ob a _ e1, fun a o u e1 => ob a _ e1⟩
  refine q (.ref y) H3 (.dict kvs) hk.2 ⟨y, dx, fs, rfl, ?_, S1.fresh hy, ImF.avoid (fun a o _ z => .inl z) _ _ imf⟩ (k1.trans K3) (G.R.st _ _ i1 fun a o _ e1 => ob a o e1)
  rw [ImF.names imf, hk.1]
  exact hx3
end
theorem sqs_of {K : PySem.W.Frag} {H : Hp} {a : Addr} {xs : List V} (hO : Only H) (h : SqL K H a xs) : SqS K H a xs := by
  rcases h with (h | ⟨o, h⟩) | h
  · rcases hO a with z | ⟨o, ys, z⟩
    · rw [h] at z; cases z
    · rw [h] at z; cases z
  · exact .inl ⟨o, h⟩
  · exact .inr h
/-- the law's promise: true, for each script of at most n numbers -/
def spLaw (K : PySem.W.Frag) (n : Nat) : Sp := fun vs H Q _ => ∃ (a : Addr) (ns : List Int), vs = [.ref a] ∧ SqS K H a (ns.map V.int) ∧ ns.length ≤ n ∧ ∀ H', Q (.bl true) H'
end DL

namespace DL
open PySem PySem.Spec PyProof.Rows L2

/-- the law keeps its promise in whatever heap knows of the script alone -/
theorem law_goes {P : Program} {w : World} {K : PySem.W.Frag} {mg mb : Str → Option Value} {k m : Nat} {g p : Addr} {fd : FuncData} {y : Str} {t : Shared} {us : List Value} {is : List Int}
    (inK : K.In t.heap) (gl : t.heap.Ns mainGlobals mg) (bl : t.heap.Ns builtinsNs mb) (bo : ∀ x : Str, x ≠ "__name__" → mb x = bootBuiltins x) (nl : t.heap.NoLimit) (ge : t.gens = #[])
    (at_ : t.heap.get? p = some { cls := .type "list", data := .seq us.toArray }) (ai : IntsAre us is) (le : is.length ≤ sizeLine) (lm : is.length ≤ m) (rg : Rg k callerA)
    (F : ∀ base : Heap, K.In base → base.Ns mainGlobals mg → FnG P w K mg base CX0 k g fd [y] (spLaw K m)) (bi : ∀ (s : Shared) (u : Value), BindsTo s fd ⟨[u], []⟩ [(y, u)])
    (H : Hp) (only : Only H) (sq : SqL K H p (is.map V.int)) (ok : HOk P w H t.heap) (one : ∀ b, H b ≠ none → b = p) (mine : H p ≠ none → K.lookup p = none) :
    codeAny (model P w) callerA (.call (.ref g) ⟨[.ref p], []⟩) (fun r t' => r = .ok (.ret (.bool true)) ∧ OldK t.heap t'.heap ∧ t'.os = t.os ∧ AllBare t'.gens) t := by
  -- what is no object of H stands in the heap without H
  have keepB : ∀ {b : Addr} {o : Obj}, t.heap.get? b = some o → H b = none → (hidT t.heap H).get? b = some o := fun e1 e2 => hidT_get e1 e2
  have away : ∀ {b : Addr}, b ≠ p → H b = none := fun {b} ne => by
    cases e : H b with
    | none => rfl
    | some v => exact absurd (one b (by rw [e]; simp)) ne
  have dicts : ∀ {b : Addr} {o : Obj} {es : Array DictEntry} {ep : Nat}, t.heap.get? b = some o → o.data = .dict es ep → H b = none := fun {b o es ep} e d => by
    by_cases z : b = p
    · rw [z, at_] at e
      injection e with e
      rw [← e] at d
      cases (show Data.seq us.toArray _ = Data.dict es ep from d)
    · exact away z
  have names : ∀ {b : Addr} {f : Str → Option Value}, t.heap.Ns b f → (hidT t.heap H).Ns b f := fun {b f} ⟨o, es, ep, e1, e2, e3⟩ => ⟨o, es, ep, keepB e1 (dicts e1 e2), e2, e3⟩
  have inB : K.In (hidT t.heap H) := fun b o e => keepB (inK b o e) (by
    by_cases z : b = p
    · cases q : H p with
      | none => rw [z]; exact q
      | some v =>
        have := mine (by rw [q]; simp)
        rw [z, this] at e
        cases e
    · exact away z)
  have md : Mod K mg (hidT t.heap H) := ⟨inB, names gl, ⟨mb, names bl, bo⟩, by obtain ⟨mc, l1, l2⟩ := nl; exact ⟨mc, names l1, l2⟩⟩
  have start : Env0 P w K mg (hidT t.heap H) callerA [] t H := ⟨rfl, md, fun b o e => of_hidT e, Nat.le_of_eq (hidT_size _ _), trivial, fun b hb => (by have z : b ∈ ([] : List Addr) := hb; cases z), ok, .of_eq ge⟩
  have said : spLaw K m [.ref p] H (fun v _ => v = .bl true) (fun _ _ _ => False) := ⟨p, is, rfl, sqs_of only sq, lm, fun _ => rfl⟩
  refine codeAny_mono ((F _ inB (names gl)).goes callerA [] t H ⟨[.ref p], []⟩ [.ref p] [.ref p] _ _ rg start (bi t (.ref p)) (.cons rfl .nil) said) fun res t' h => ?_
  match res, h with
  | .error e, h => exact False.elim h
  | .ok .next, h => exact False.elim h
  | .ok .brk, h => exact False.elim h
  | .ok .cont, h => exact False.elim h
  | .ok (.ret v), h =>
    obtain ⟨x, H2, hos, hbare, un, ok2, rel, isT⟩ := h
    obtain rfl : x = .bl true := isT
    obtain rfl : v = Value.bool true := rel
    refine ⟨rfl, .of_keep fun b o e => ?_, hos, hbare⟩
    rcases only b with q | ⟨ob, xs, q⟩
    · exact un.keep b o e q (by intro z; cases z) (by simp)
    · have q2 := un.frzs b ob _ q
      obtain ⟨e1, _⟩ := ok b _ q
      obtain ⟨e2, _⟩ := ok2 b _ q2
      rw [e1] at e
      injection e with e
      rw [← e]
      exact e2
theorem law_true {P : Program} {w : World} {K : PySem.W.Frag} {mg mb : Str → Option Value} {k m : Nat} {g p : Addr} {fd : FuncData} {y : Str} {t : Shared} {us : List Value} {is : List Int}
    (inK : K.In t.heap) (gl : t.heap.Ns mainGlobals mg) (bl : t.heap.Ns builtinsNs mb) (bo : ∀ x : Str, x ≠ "__name__" → mb x = bootBuiltins x) (nl : t.heap.NoLimit) (ge : t.gens = #[])
    (at_ : t.heap.get? p = some { cls := .type "list", data := .seq us.toArray }) (ai : IntsAre us is) (le : is.length ≤ sizeLine) (lm : is.length ≤ m) (rg : Rg k callerA)
    (F : ∀ base : Heap, K.In base → base.Ns mainGlobals mg → FnG P w K mg base CX0 k g fd [y] (spLaw K m)) (bi : ∀ (s : Shared) (u : Value), BindsTo s fd ⟨[u], []⟩ [(y, u)]) :
    codeAny (model P w) callerA (.call (.ref g) ⟨[.ref p], []⟩) (fun r t' => r = .ok (.ret (.bool true)) ∧ OldK t.heap t'.heap ∧ t'.os = t.os ∧ AllBare t'.gens) t := by
  have vals := vals_ints ai
  have len := ai.length
  have go := law_goes inK gl bl bo nl ge at_ ai le lm rg F bi
  by_cases hk : ∃ o, K.lookup p = some o
  · obtain ⟨o, hk⟩ := hk
    have e := inK p o hk
    rw [at_] at e
    injection e with e
    subst e
    refine go (fun _ => none) (fun _ => .inl rfl) (.inr ⟨_, us.toArray, _, hk, rfl, rfl, rfl, ?_, vals⟩) (fun b u z => nomatch z) (fun b z => (z rfl).elim) fun z => (z rfl).elim
    rw [List.size_toArray, len]
    exact le
  · have hn : K.lookup p = none := by
      cases q : K.lookup p with
      | none => rfl
      | some o => exact absurd ⟨o, q⟩ hk
    have only1 : ∀ b, (if b = p then some (HO.frz { cls := .type "list", data := .seq us.toArray } (.lst (is.map V.int))) else none) ≠ none → b = p := fun b z => by
      by_cases q : b = p
      · exact q
      · exact absurd (if_neg q) z
    refine go (fun b => if b = p then some (HO.frz { cls := .type "list", data := .seq us.toArray } (.lst (is.map V.int))) else none) (fun b => ?_) (.inl (.inr ⟨_, if_pos rfl⟩)) (fun b u z => ?_) only1 fun _ => hn
    · by_cases q : b = p
      · exact .inr ⟨_, _, if_pos q⟩
      · exact .inl (if_neg q)
    · have q := only1 b fun w => nomatch z.symm.trans w
      subst q
      have z := (if_pos rfl).symm.trans z
      injection z with z
      subst z
      exact ⟨at_, by rw [List.length_map]; exact le, us, _, vals, at_⟩
/-- what k_head leaves -/
theorem walk_G {l : PySem.W.OpenLaw} {n k : Nat} {q : Program} {loose : List Str} {XP : (Str → Option Value) → Heap → Prop} {YP : World → Heap → Prop} {d : DefRec} {K : Params → PySem.W.Frag} {x : Str}
    (hn : l.most = some n) (hn2 : n ≤ sizeLine) (hdf : d.params.defaults = []) (rg : Rg k callerA) (hY : ∀ (w : World) (h : Heap), YP w h → (K w.params).In h)
    (F : ∀ (w : World) (mg : Str → Option Value) (g : Addr) (h : Heap), (K w.params).In h → h.Ns mainGlobals mg → mg d.name = some (.ref g) →
      ∃ fd : FuncData, (∀ (s : Shared) (u : Value), BindsTo s fd ⟨[u], []⟩ [(x, u)]) ∧ ∀ base : Heap, (K w.params).In base → base.Ns mainGlobals mg → FnG l.prog w (K w.params) mg base CX0 k g fd [x] (spLaw (K w.params) n)) :
    PySem.W.WalkO q loose XP YP l.row.toRowW d [] (fun f vs => PySem.call f vs) :=
  Att.attach_call hn hdf fun w s₀ s₁ mg mb g o pm cd doc a vs ns G Y ho hd hcd hmg hobj hints hlen hg => by
    have inK := hY w _ Y
    obtain ⟨fd, hb, hF⟩ := F w mg g _ inK G.T.g hmg
    exact law_true inK G.T.g G.T.b G.T.builtins G.T.nolimit hg hobj hints (Nat.le_trans hlen hn2) hlen rg hF hb
end DL

namespace K07
open PySem PySem.Spec PyProof.Rows L2 DL
abbrev topS (i : Nat) : Stmt := PySem.Challenge.pw_rowalone_k07_whole_boxes_as_their_points.main.body.getD i (.Pass ⟨0, 0, 0, 0⟩)
abbrev s_is_name : Stmt := topS 10
abbrev s_is_rising : Stmt := topS 11
abbrev s_is_name_lot : Stmt := topS 12
abbrev s_less : Stmt := topS 14
abbrev s_free_box : Stmt := topS 16
abbrev s_point_box : Stmt := topS 17
abbrev s_in_box : Stmt := topS 18
abbrev s_is_low_within : Stmt := topS 19
abbrev s_is_high_within : Stmt := topS 20
abbrev s_within : Stmt := topS 21
abbrev s_greater_low : Stmt := topS 22
abbrev s_lesser_high : Stmt := topS 23
abbrev s_common_box : Stmt := topS 24
abbrev s_joined_box : Stmt := topS 25
abbrev s_box_ends : Stmt := topS 26
abbrev s_only_ends : Stmt := topS 27
abbrev s_with_range : Stmt := topS 28
abbrev s_placed : Stmt := topS 29
abbrev s_halves : Stmt := topS 30
abbrev s__law_pick : Stmt := topS 38
abbrev s__law_lowest : Stmt := topS 39
abbrev s__law_end : Stmt := topS 40
abbrev s__law_range : Stmt := topS 41
abbrev s__law_has : Stmt := topS 42
abbrev s__law_shown : Stmt := topS 43
abbrev s__law_tests : Stmt := topS 44
abbrev s__law_is_end : Stmt := topS 45
abbrev s__law_told_has : Stmt := topS 46
abbrev s__law_fractions : Stmt := topS 47
abbrev s__law_box_right : Stmt := topS 48
abbrev s__law_all_in : Stmt := topS 49
abbrev s__law_two_right : Stmt := topS 50
abbrev s__law_ends_right : Stmt := topS 51
abbrev s__law_cut_right : Stmt := topS 52
abbrev s__law_fit : Stmt := topS 53
abbrev s__law_points_right : Stmt := topS 54
abbrev s__law_heap : Stmt := topS 36
abbrev s_law : Stmt := topS 55
abbrev s__law_draw : Stmt := topS 37
theorem kb__law_all_in_2 : KbS "_law_all_in" s__law_all_in ["_law_ends", "_law_tests_here"] [] 2 [0, 1] := fun _ _ _ _ _ _ us ws h1 h2 => match us, ws, h1, h2 with | [_, _], [], _, _ => rfl
theorem kb__law_box_right_4 : KbS "_law_box_right" s__law_box_right ["_law_box", "_law_tests_here", "_law_due", "_law_scale"] [] 4 [0, 1, 2, 3] := fun _ _ _ _ _ _ us ws h1 h2 => match us, ws, h1, h2 with | [_, _, _, _], [], _, _ => rfl
theorem kb__law_cut_right_6 : KbS "_law_cut_right" s__law_cut_right ["_law_own", "_law_box", "_law_tests_here", "_law_scale", "_law_at", "_law_value"] [] 6 [0, 1, 2, 3, 4, 5] := fun _ _ _ _ _ _ us ws h1 h2 => match us, ws, h1, h2 with | [_, _, _, _, _, _], [], _, _ => rfl
theorem kb__law_draw_2 : KbS "_law_draw" s__law_draw ["_law_heap_here", "_law_many"] [] 2 (List.range ["_law_heap_here", "_law_many"].length) := fun _ _ _ _ _ _ us ws h1 h2 => match us, ws, h1, h2 with | [_, _], [], _, _ => rfl
theorem kb__law_end_2 : KbS "_law_end" s__law_end ["_law_heap_here", "_law_known"] [] 2 (List.range ["_law_heap_here", "_law_known"].length) := fun _ _ _ _ _ _ us ws h1 h2 => match us, ws, h1, h2 with | [_, _], [], _, _ => rfl
theorem kb__law_ends_right_5 : KbS "_law_ends_right" s__law_ends_right ["_law_heap_here", "_law_own", "_law_box", "_law_tests_here", "_law_scale"] [] 5 (List.range ["_law_heap_here", "_law_own", "_law_box", "_law_tests_here", "_law_scale"].length) := fun _ _ _ _ _ _ us ws h1 h2 => match us, ws, h1, h2 with | [_, _, _, _, _], [], _, _ => rfl
theorem kb__law_fit_2 : KbS "_law_fit" s__law_fit ["_law_values", "_law_scale"] [] 2 [0, 1] := fun _ _ _ _ _ _ us ws h1 h2 => match us, ws, h1, h2 with | [_, _], [], _, _ => rfl
theorem kb__law_fractions_2 : KbS "_law_fractions" s__law_fractions ["_law_some", "_law_scale"] [] 2 [0, 1] := fun _ _ _ _ _ _ us ws h1 h2 => match us, ws, h1, h2 with | [_, _], [], _, _ => rfl
theorem kb__law_has_2 : KbS "_law_has" s__law_has ["_law_ends", "_law_value"] [] 2 [0, 1] := fun _ _ _ _ _ _ us ws h1 h2 => match us, ws, h1, h2 with | [_, _], [], _, _ => rfl
theorem kb__law_is_end_2 : KbS "_law_is_end" s__law_is_end ["_law_end_here", "_law_ends"] [] 2 [0, 1] := fun _ _ _ _ _ _ us ws h1 h2 => match us, ws, h1, h2 with | [_, _], [], _, _ => rfl
theorem kb__law_lowest_2 : KbS "_law_lowest" s__law_lowest ["_law_over", "_law_under"] [] 2 [0, 1] := fun _ _ _ _ _ _ us ws h1 h2 => match us, ws, h1, h2 with | [_, _], [], _, _ => rfl
theorem kb__law_pick_2 : KbS "_law_pick" s__law_pick ["_law_heap_here", "_law_some"] [] 2 (List.range ["_law_heap_here", "_law_some"].length) := fun _ _ _ _ _ _ us ws h1 h2 => match us, ws, h1, h2 with | [_, _], [], _, _ => rfl
theorem kb__law_points_right_5 : KbS "_law_points_right" s__law_points_right ["_law_heap_here", "_law_own", "_law_box", "_law_tests_here", "_law_scale"] [] 5 (List.range ["_law_heap_here", "_law_own", "_law_box", "_law_tests_here", "_law_scale"].length) := fun _ _ _ _ _ _ us ws h1 h2 => match us, ws, h1, h2 with | [_, _, _, _, _], [], _, _ => rfl
theorem kb__law_range_2 : KbS "_law_range" s__law_range ["_law_heap_here", "_law_known"] [] 2 (List.range ["_law_heap_here", "_law_known"].length) := fun _ _ _ _ _ _ us ws h1 h2 => match us, ws, h1, h2 with | [_, _], [], _, _ => rfl
theorem kb__law_shown_2 : KbS "_law_shown" s__law_shown ["_law_own", "_law_scale"] [] 2 [0, 1] := fun _ _ _ _ _ _ us ws h1 h2 => match us, ws, h1, h2 with | [_, _], [], _, _ => rfl
theorem kb__law_tests_1 : KbS "_law_tests" s__law_tests ["_law_some"] [] 1 [0] := fun _ _ _ _ _ _ us ws h1 h2 => match us, ws, h1, h2 with | [_], [], _, _ => rfl
theorem kb__law_told_has_3 : KbS "_law_told_has" s__law_told_has ["_law_ends", "_law_value", "_law_scale"] [] 3 [0, 1, 2] := fun _ _ _ _ _ _ us ws h1 h2 => match us, ws, h1, h2 with | [_, _, _], [], _, _ => rfl
theorem kb__law_two_right_6 : KbS "_law_two_right" s__law_two_right ["_law_one", "_law_two", "_law_box", "_law_other", "_law_tests_here", "_law_scale"] [] 6 [0, 1, 2, 3, 4, 5] := fun _ _ _ _ _ _ us ws h1 h2 => match us, ws, h1, h2 with | [_, _, _, _, _, _], [], _, _ => rfl
theorem kb_box_ends_0_box : KbS "box_ends" s_box_ends ["box"] ["box"] 0 [0] := fun _ _ _ _ _ _ us ws h1 h2 => match us, ws, h1, h2 with | [], [_], _, _ => rfl
theorem kb_box_ends_1 : KbS "box_ends" s_box_ends ["box"] [] 1 [0] := fun _ _ _ _ _ _ us ws h1 h2 => match us, ws, h1, h2 with | [_], [], _, _ => rfl
theorem kb_common_box_0_other_box : KbS "common_box" s_common_box ["box", "other"] ["other", "box"] 0 [1, 0] := fun _ _ _ _ _ _ us ws h1 h2 => match us, ws, h1, h2 with | [], [_, _], _, _ => rfl
theorem kb_common_box_2 : KbS "common_box" s_common_box ["box", "other"] [] 2 [0, 1] := fun _ _ _ _ _ _ us ws h1 h2 => match us, ws, h1, h2 with | [_, _], [], _, _ => rfl
theorem kb_free_box_1 : KbS "free_box" s_free_box ["system"] [] 1 [0] := fun _ _ _ _ _ _ us ws h1 h2 => match us, ws, h1, h2 with | [_], [], _, _ => rfl
theorem kb_greater_low_2 : KbS "greater_low" s_greater_low ["one", "other"] [] 2 [0, 1] := fun _ _ _ _ _ _ us ws h1 h2 => match us, ws, h1, h2 with | [_, _], [], _, _ => rfl
theorem kb_halves_0_value_at_box : KbS "halves" s_halves ["box", "at", "value"] ["value", "at", "box"] 0 [2, 1, 0] := fun _ _ _ _ _ _ us ws h1 h2 => match us, ws, h1, h2 with | [], [_, _, _], _, _ => rfl
theorem kb_halves_3 : KbS "halves" s_halves ["box", "at", "value"] [] 3 [0, 1, 2] := fun _ _ _ _ _ _ us ws h1 h2 => match us, ws, h1, h2 with | [_, _, _], [], _, _ => rfl
theorem kb_in_box_0_box_point : KbS "in_box" s_in_box ["point", "box"] ["box", "point"] 0 [1, 0] := fun _ _ _ _ _ _ us ws h1 h2 => match us, ws, h1, h2 with | [], [_, _], _, _ => rfl
theorem kb_in_box_2 : KbS "in_box" s_in_box ["point", "box"] [] 2 [0, 1] := fun _ _ _ _ _ _ us ws h1 h2 => match us, ws, h1, h2 with | [_, _], [], _, _ => rfl
theorem kb_is_high_within_2 : KbS "is_high_within" s_is_high_within ["high", "other"] [] 2 [0, 1] := fun _ _ _ _ _ _ us ws h1 h2 => match us, ws, h1, h2 with | [_, _], [], _, _ => rfl
theorem kb_is_low_within_2 : KbS "is_low_within" s_is_low_within ["low", "other"] [] 2 [0, 1] := fun _ _ _ _ _ _ us ws h1 h2 => match us, ws, h1, h2 with | [_, _], [], _, _ => rfl
theorem kb_is_name_1 : KbS "is_name" s_is_name ["value"] [] 1 [0] := fun _ _ _ _ _ _ us ws h1 h2 => match us, ws, h1, h2 with | [_], [], _, _ => rfl
theorem kb_is_rising_1 : KbS "is_rising" s_is_rising ["values"] [] 1 [0] := fun _ _ _ _ _ _ us ws h1 h2 => match us, ws, h1, h2 with | [_], [], _, _ => rfl
theorem kb_joined_box_0_other_box : KbS "joined_box" s_joined_box ["box", "other"] ["other", "box"] 0 [1, 0] := fun _ _ _ _ _ _ us ws h1 h2 => match us, ws, h1, h2 with | [], [_, _], _, _ => rfl
theorem kb_joined_box_2 : KbS "joined_box" s_joined_box ["box", "other"] [] 2 [0, 1] := fun _ _ _ _ _ _ us ws h1 h2 => match us, ws, h1, h2 with | [_, _], [], _, _ => rfl
theorem kb_less_2 : KbS "less" s_less ["one", "other"] [] 2 [0, 1] := fun _ _ _ _ _ _ us ws h1 h2 => match us, ws, h1, h2 with | [_, _], [], _, _ => rfl
theorem kb_lesser_high_2 : KbS "lesser_high" s_lesser_high ["one", "other"] [] 2 [0, 1] := fun _ _ _ _ _ _ us ws h1 h2 => match us, ws, h1, h2 with | [_, _], [], _, _ => rfl
theorem kb_only_ends_0_ends_box : KbS "only_ends" s_only_ends ["box", "ends"] ["ends", "box"] 0 [1, 0] := fun _ _ _ _ _ _ us ws h1 h2 => match us, ws, h1, h2 with | [], [_, _], _, _ => rfl
theorem kb_only_ends_2 : KbS "only_ends" s_only_ends ["box", "ends"] [] 2 [0, 1] := fun _ _ _ _ _ _ us ws h1 h2 => match us, ws, h1, h2 with | [_, _], [], _, _ => rfl
theorem kb_placed_0_value_at_box : KbS "placed" s_placed ["box", "at", "value"] ["value", "at", "box"] 0 [2, 1, 0] := fun _ _ _ _ _ _ us ws h1 h2 => match us, ws, h1, h2 with | [], [_, _, _], _, _ => rfl
theorem kb_placed_3 : KbS "placed" s_placed ["box", "at", "value"] [] 3 [0, 1, 2] := fun _ _ _ _ _ _ us ws h1 h2 => match us, ws, h1, h2 with | [_, _, _], [], _, _ => rfl
theorem kb_point_box_0_point : KbS "point_box" s_point_box ["point"] ["point"] 0 [0] := fun _ _ _ _ _ _ us ws h1 h2 => match us, ws, h1, h2 with | [], [_], _, _ => rfl
theorem kb_point_box_1 : KbS "point_box" s_point_box ["point"] [] 1 [0] := fun _ _ _ _ _ _ us ws h1 h2 => match us, ws, h1, h2 with | [_], [], _, _ => rfl
theorem kb_with_range_3 : KbS "with_range" s_with_range ["box", "at", "ends"] [] 3 [0, 1, 2] := fun _ _ _ _ _ _ us ws h1 h2 => match us, ws, h1, h2 with | [_, _, _], [], _, _ => rfl
theorem kb_within_0_other_box : KbS "within" s_within ["box", "other"] ["other", "box"] 0 [1, 0] := fun _ _ _ _ _ _ us ws h1 h2 => match us, ws, h1, h2 with | [], [_, _], _, _ => rfl
theorem kb_within_2 : KbS "within" s_within ["box", "other"] [] 2 [0, 1] := fun _ _ _ _ _ _ us ws h1 h2 => match us, ws, h1, h2 with | [_, _], [], _, _ => rfl
theorem sc_is_name : FnScope ["value", "letter"] ["value"] (defScope s_is_name) := ⟨rfl, rfl, rfl, by decide +kernel, rfl, by decide +kernel, by decide +kernel⟩
theorem sc_is_rising : FnScope ["values", "one", "other"] ["values"] (defScope s_is_rising) := ⟨rfl, rfl, rfl, by decide +kernel, rfl, by decide +kernel, by decide +kernel⟩
theorem sc_is_name_lot : FnScope ["value", "name"] ["value"] (defScope s_is_name_lot) := ⟨rfl, rfl, rfl, by decide +kernel, rfl, by decide +kernel, by decide +kernel⟩
theorem sc_less : FnScope ["one", "other"] ["one", "other"] (defScope s_less) := ⟨rfl, rfl, rfl, by decide +kernel, rfl, by decide +kernel, by decide +kernel⟩
theorem sc_free_box : FnScope ["system"] ["system"] (defScope s_free_box) := ⟨rfl, rfl, rfl, by decide +kernel, rfl, by decide +kernel, by decide +kernel⟩
theorem sc_point_box : FnScope ["point", "value"] ["point"] (defScope s_point_box) := ⟨rfl, rfl, rfl, by decide +kernel, rfl, by decide +kernel, by decide +kernel⟩
theorem sc_in_box : FnScope ["point", "box"] ["point", "box"] (defScope s_in_box) := ⟨rfl, rfl, rfl, by decide +kernel, rfl, by decide +kernel, by decide +kernel⟩
theorem sc_is_low_within : FnScope ["low", "other"] ["low", "other"] (defScope s_is_low_within) := ⟨rfl, rfl, rfl, by decide +kernel, rfl, by decide +kernel, by decide +kernel⟩
theorem sc_is_high_within : FnScope ["high", "other"] ["high", "other"] (defScope s_is_high_within) := ⟨rfl, rfl, rfl, by decide +kernel, rfl, by decide +kernel, by decide +kernel⟩
theorem sc_within : FnScope ["box", "other", "ends", "others"] ["box", "other"] (defScope s_within) := ⟨rfl, rfl, rfl, by decide +kernel, rfl, by decide +kernel, by decide +kernel⟩
theorem sc_greater_low : FnScope ["one", "other"] ["one", "other"] (defScope s_greater_low) := ⟨rfl, rfl, rfl, by decide +kernel, rfl, by decide +kernel, by decide +kernel⟩
theorem sc_lesser_high : FnScope ["one", "other"] ["one", "other"] (defScope s_lesser_high) := ⟨rfl, rfl, rfl, by decide +kernel, rfl, by decide +kernel, by decide +kernel⟩
theorem sc_common_box : FnScope ["box", "other", "common", "ends", "others", "low", "high"] ["box", "other"] (defScope s_common_box) := ⟨rfl, rfl, rfl, by decide +kernel, rfl, by decide +kernel, by decide +kernel⟩
theorem sc_joined_box : FnScope ["box", "other", "joined", "ends", "others", "low", "high"] ["box", "other"] (defScope s_joined_box) := ⟨rfl, rfl, rfl, by decide +kernel, rfl, by decide +kernel, by decide +kernel⟩
theorem sc_box_ends : FnScope ["box", "at", "ends", "side"] ["box"] (defScope s_box_ends) := ⟨rfl, rfl, rfl, by decide +kernel, rfl, by decide +kernel, by decide +kernel⟩
theorem sc_only_ends : FnScope ["box", "ends", "kept", "at", "low", "high"] ["box", "ends"] (defScope s_only_ends) := ⟨rfl, rfl, rfl, by decide +kernel, rfl, by decide +kernel, by decide +kernel⟩
theorem sc_with_range : FnScope ["box", "at", "ends"] ["box", "at", "ends"] (defScope s_with_range) := ⟨rfl, rfl, rfl, by decide +kernel, rfl, by decide +kernel, by decide +kernel⟩
theorem sc_placed : FnScope ["box", "at", "value"] ["box", "at", "value"] (defScope s_placed) := ⟨rfl, rfl, rfl, by decide +kernel, rfl, by decide +kernel, by decide +kernel⟩
theorem sc_halves : FnScope ["box", "at", "value", "half", "other"] ["box", "at", "value"] (defScope s_halves) := ⟨rfl, rfl, rfl, by decide +kernel, rfl, by decide +kernel, by decide +kernel⟩
theorem sc__law_pick : FnScope ["_law_heap_here", "_law_some"] ["_law_heap_here", "_law_some"] (defScope s__law_pick) := ⟨rfl, rfl, rfl, by decide +kernel, rfl, by decide +kernel, by decide +kernel⟩
theorem sc__law_lowest : FnScope ["_law_over", "_law_under", "_law_one", "_law_other"] ["_law_over", "_law_under"] (defScope s__law_lowest) := ⟨rfl, rfl, rfl, by decide +kernel, rfl, by decide +kernel, by decide +kernel⟩
theorem sc__law_end : FnScope ["_law_heap_here", "_law_known", "_law_shape"] ["_law_heap_here", "_law_known"] (defScope s__law_end) := ⟨rfl, rfl, rfl, by decide +kernel, rfl, by decide +kernel, by decide +kernel⟩
theorem sc__law_range : FnScope ["_law_heap_here", "_law_known", "_law_one", "_law_other", "_law_low", "_law_high"] ["_law_heap_here", "_law_known"] (defScope s__law_range) := ⟨rfl, rfl, rfl, by decide +kernel, rfl, by decide +kernel, by decide +kernel⟩
theorem sc__law_has : FnScope ["_law_ends", "_law_value"] ["_law_ends", "_law_value"] (defScope s__law_has) := ⟨rfl, rfl, rfl, by decide +kernel, rfl, by decide +kernel, by decide +kernel⟩
theorem sc__law_shown : FnScope ["_law_own", "_law_scale", "_law_ends", "_law_end_here"] ["_law_own", "_law_scale"] (defScope s__law_shown) := ⟨rfl, rfl, rfl, by decide +kernel, rfl, by decide +kernel, by decide +kernel⟩
theorem sc__law_tests : FnScope ["_law_some", "_law_found", "_law_one"] ["_law_some"] (defScope s__law_tests) := ⟨rfl, rfl, rfl, by decide +kernel, rfl, by decide +kernel, by decide +kernel⟩
theorem sc__law_is_end : FnScope ["_law_end_here", "_law_ends", "_law_part"] ["_law_end_here", "_law_ends"] (defScope s__law_is_end) := ⟨rfl, rfl, rfl, by decide +kernel, rfl, by decide +kernel, by decide +kernel⟩
theorem sc__law_told_has : FnScope ["_law_ends", "_law_value", "_law_scale", "_law_low", "_law_high"] ["_law_ends", "_law_value", "_law_scale"] (defScope s__law_told_has) := ⟨rfl, rfl, rfl, by decide +kernel, rfl, by decide +kernel, by decide +kernel⟩
theorem sc__law_fractions : FnScope ["_law_some", "_law_scale", "_law_value"] ["_law_some", "_law_scale"] (defScope s__law_fractions) := ⟨rfl, rfl, rfl, by decide +kernel, rfl, by decide +kernel, by decide +kernel⟩
theorem sc__law_box_right : FnScope ["_law_box", "_law_tests_here", "_law_due", "_law_scale", "_law_at", "_law_values", "_law_ends", "_law_some", "_law_value"] ["_law_box", "_law_tests_here", "_law_due", "_law_scale"] (defScope s__law_box_right) := ⟨rfl, rfl, rfl, by decide +kernel, rfl, by decide +kernel, by decide +kernel⟩
theorem sc__law_all_in : FnScope ["_law_ends", "_law_tests_here", "_law_value"] ["_law_ends", "_law_tests_here"] (defScope s__law_all_in) := ⟨rfl, rfl, rfl, by decide +kernel, rfl, by decide +kernel, by decide +kernel⟩
theorem sc__law_two_right : FnScope ["_law_one", "_law_two", "_law_box", "_law_other", "_law_tests_here", "_law_scale", "_law_spots", "_law_mine", "_law_yours", "_law_both", "_law_hull", "_law_at", "_law_some", "_law_least", "_law_most", "_law_joined", "_law_common", "_law_value"] ["_law_one", "_law_two", "_law_box", "_law_other", "_law_tests_here", "_law_scale"] (defScope s__law_two_right) := ⟨rfl, rfl, rfl, by decide +kernel, rfl, by decide +kernel, by decide +kernel⟩
theorem sc__law_ends_right : FnScope ["_law_heap_here", "_law_own", "_law_box", "_law_tests_here", "_law_scale", "_law_size", "_law_kept", "_law_every", "_law_there", "_law_ends", "_law_left", "_law_at", "_law_end_here"] ["_law_heap_here", "_law_own", "_law_box", "_law_tests_here", "_law_scale"] (defScope s__law_ends_right) := ⟨rfl, rfl, rfl, by decide +kernel, rfl, by decide +kernel, by decide +kernel⟩
theorem sc__law_cut_right : FnScope ["_law_own", "_law_box", "_law_tests_here", "_law_scale", "_law_at", "_law_value", "_law_part", "_law_due", "_law_here", "_law_two", "_law_place", "_law_one"] ["_law_own", "_law_box", "_law_tests_here", "_law_scale", "_law_at", "_law_value"] (defScope s__law_cut_right) := ⟨rfl, rfl, rfl, by decide +kernel, rfl, by decide +kernel, by decide +kernel⟩
theorem sc__law_fit : FnScope ["_law_values", "_law_scale", "_law_value"] ["_law_values", "_law_scale"] (defScope s__law_fit) := ⟨rfl, rfl, rfl, by decide +kernel, rfl, by decide +kernel, by decide +kernel⟩
theorem sc__law_points_right : FnScope ["_law_heap_here", "_law_own", "_law_box", "_law_tests_here", "_law_scale", "_law_turn", "_law_point", "_law_at", "_law_due", "_law_told", "_law_value", "_law_part"] ["_law_heap_here", "_law_own", "_law_box", "_law_tests_here", "_law_scale"] (defScope s__law_points_right) := ⟨rfl, rfl, rfl, by decide +kernel, rfl, by decide +kernel, by decide +kernel⟩
theorem sc__law_heap : FnScope ["_law_script", "_law_cells", "_law_stir", "_law_cell"] ["_law_script"] (defScope s__law_heap) := ⟨rfl, rfl, rfl, by decide +kernel, rfl, by decide +kernel, by decide +kernel⟩
theorem sc_law : FnScope ["_law_script", "_law_heap_here", "_law_turn", "_law_scale", "_law_size", "_law_known", "_law_one", "_law_two", "_law_tests_here", "_law_cuts", "_law_at", "_law_first", "_law_near", "_law_second", "_law_cut", "_law_box", "_law_other", "_law_place", "_law_names", "_law_end_here", "_law_some"] ["_law_script"] (defScope s_law) := ⟨rfl, rfl, rfl, by decide +kernel, rfl, by decide +kernel, by decide +kernel⟩

structure Tx (W : Wd) (mg : Str → Option Value) : Prop where
  c_LETTERS : Cst mg "LETTERS" (.str "abcdefghijklmnopqrstuvwxyz")
  c_MOST_LETTERS : Cst mg "MOST_LETTERS" (.int 5)
  c_MOST_NAMES : Cst mg "MOST_NAMES" (.int 6)
  m_abs : mg "abs" = none
  m_all : mg "all" = none
  m_any : mg "any" = none
  m_bool : mg "bool" = none
  m_enumerate : mg "enumerate" = none
  m_int : mg "int" = none
  m_isinstance : mg "isinstance" = none
  m_len : mg "len" = none
  m_list : mg "list" = none
  m_max : mg "max" = none
  m_min : mg "min" = none
  m_range : mg "range" = none
  m_repr : mg "repr" = none
  m_set : mg "set" = none
  m_sorted : mg "sorted" = none
  m_str : mg "str" = none
  m_tuple : mg "tuple" = none
  m_zip : mg "zip" = none
  cl_names_rows : Cls W.K (W.kc ["names", "rows"])
  na_names : NoAttr W.K (W.kc ["names", "rows"]) "names"
  na_rows : NoAttr W.K (W.kc ["names", "rows"]) "rows"
section
variable {P : Program} {w : World} {mg : Str → Option Value} {base : Heap} {W : Wd} {RR : Addr → Addr → Res}
abbrev Fr2 := Int × Int
abbrev En := Option Fr2
abbrev Rn := En × En
def dF (x : Fr2) : PyData := .tuple [.int x.1, .int x.2]
def dE : En → PyData
  | none => .none
  | some x => dF x
def dR (r : Rn) : PyData := .tuple [dE r.1, dE r.2]
def dB (b : List Rn) : PyData := .tuple (b.map dR)
def OkF (x : Fr2) : Prop := x.1.natAbs < 2 ^ 200 ∧ x.2.natAbs < 2 ^ 200
def OkE : En → Prop
  | none => True
  | some x => OkF x
def OkR (r : Rn) : Prop := OkE r.1 ∧ OkE r.2
def OkB (b : List Rn) : Prop := b.length ≤ 100 ∧ ∀ r ∈ b, OkR r
def ltQ (a b : Fr2) : Bool := decide (a.1 * b.2 < b.1 * a.2)
def lowIn : En → En → Bool
  | _, none => true
  | none, some _ => false
  | some x, some y => !ltQ x y
def highIn : En → En → Bool
  | _, none => true
  | none, some _ => false
  | some x, some y => !ltQ y x
def within1 (p : Rn × Rn) : Bool := lowIn p.1.1 p.2.1 && highIn p.1.2 p.2.2
def withinF (b o : List Rn) : Bool := (b.zip o).all within1
def grLow (a b : En) : En := if lowIn a b then a else b
def leHigh (a b : En) : En := if highIn a b then a else b
def clash : En → En → Bool
  | some l, some h => ltQ h l
  | _, _ => false
def com1 (p : Rn × Rn) : Rn := (grLow p.1.1 p.2.1, leHigh p.1.2 p.2.2)
def clash1 (p : Rn × Rn) : Bool := clash (com1 p).1 (com1 p).2
def commonF (b o : List Rn) : Option (List Rn) := if (b.zip o).any clash1 then none else some ((b.zip o).map com1)
def dOB : Option (List Rn) → PyData
  | none => .none
  | some b => dB b
def join1 (p : Rn × Rn) : Rn := (if lowIn p.1.1 p.2.1 then p.2.1 else p.1.1, if highIn p.1.2 p.2.2 then p.2.2 else p.1.2)
def joinedF (b o : List Rn) : List Rn := (b.zip o).map join1
theorem mulw {a b : Int} (ha : a.natAbs < 2 ^ 200) (hb : b.natAbs < 2 ^ 200) : CMulW a b := wide_mul ha hb (by decide) (by decide) (by decide)
theorem zipD_map {α β : Type} (f : α → PyData) (g : β → PyData) : ∀ (xs : List α) (ys : List β), zipD (xs.map f) (ys.map g) = (xs.zip ys).map fun p => pairD (f p.1) (g p.2)
  | [], _ => by simp [zipD]
  | _ :: _, [] => by simp [zipD]
  | x :: xs, y :: ys => by
    show pairD (f x) (g y) :: zipD (xs.map f) (ys.map g) = _
    rw [zipD_map f g xs ys]
    rfl
theorem zip_mem {α β : Type} {xs : List α} {ys : List β} {p : α × β} (h : p ∈ xs.zip ys) : p.1 ∈ xs ∧ p.2 ∈ ys := List.of_mem_zip h
theorem map_at {α : Type} {f : α → PyData} {xs : List α} {i : Nat} {d : PyData} (h : (xs.map f)[i]? = some d) : ∃ x, xs[i]? = some x ∧ d = f x := by
  rw [List.getElem?_map] at h
  cases q : xs[i]? with
  | none => rw [q] at h; cases h
  | some x => rw [q] at h; cases h; exact ⟨x, rfl, rfl⟩
theorem take_more {α : Type} {xs : List α} {i : Nat} {x : α} (h : xs[i]? = some x) : xs.take (i + 1) = xs.take i ++ [x] := by
  obtain ⟨hi, e⟩ := List.getElem?_eq_some_iff.mp h
  rw [List.take_succ_eq_append_getElem hi, e]
theorem OkB.at {b : List Rn} (h : OkB b) {r : Rn} (hr : r ∈ b) : OkR r := h.2 r hr
theorem OkE.gr {a b : En} (ha : OkE a) (hb : OkE b) : OkE (grLow a b) := by unfold grLow; split <;> assumption
theorem OkE.le {a b : En} (ha : OkE a) (hb : OkE b) : OkE (leHigh a b) := by unfold leHigh; split <;> assumption
def dP (p : Nat × Nat) : PyData := .tuple [.int (p.1 : Nat), .int (p.2 : Nat)]
def ends1 (r : Rn) (i : Nat) : List (Nat × Nat) := (if r.1.isSome then [(i, 0)] else []) ++ (if r.2.isSome then [(i, 1)] else [])
def boxEnds (b : List Rn) : List (Nat × Nat) := b.zipIdx.flatMap fun q => ends1 q.1 q.2
def only1 (es : List (Nat × Nat)) (q : Rn × Nat) : Rn := (if (q.2, 0) ∈ es then q.1.1 else none, if (q.2, 1) ∈ es then q.1.2 else none)
def onlyEnds (b : List Rn) (es : List (Nat × Nat)) : List Rn := b.zipIdx.map (only1 es)
def freeB (n : Nat) : List Rn := List.replicate n (none, none)
theorem noB_dF (x : Fr2) : noB (dF x) = true := rfl
theorem noB_dE : ∀ x : En, noB (dE x) = true
  | none => rfl
  | some x => rfl
theorem noB_dR (r : Rn) : noB (dR r) = true := by
  show (noB (dE r.1) && (noB (dE r.2) && true)) = true
  rw [noB_dE, noB_dE]
  rfl
theorem noB_dB (b : List Rn) : noB (dB b) = true := by
  show noBA (b.map dR) = true
  rw [noBA_iff]
  intro x hx
  obtain ⟨r, _, rfl⟩ := List.mem_map.mp hx
  exact noB_dR r
theorem noB_dP (p : Nat × Nat) : noB (dP p) = true := rfl
theorem fit_dF (x : Fr2) : dOk 1 (dF x) = true := by simp [dF, dOk, dOkA]
theorem fit_dE : ∀ x : En, dOk 1 (dE x) = true
  | none => by simp [dE, dOk]
  | some x => fit_dF x
theorem fit_dR (r : Rn) : dOk 2 (dR r) = true := fit_tuple (n := 1) fun x hx => by
  rcases List.mem_cons.mp hx with rfl | hx
  · exact fit_dE _
  · rw [List.mem_singleton.mp hx]; exact fit_dE _
theorem fit_dB (b : List Rn) : dOk 3 (dB b) = true := fit_tuple (n := 2) fun x hx => by
  obtain ⟨r, _, rfl⟩ := List.mem_map.mp hx
  exact fit_dR r
theorem fit_dP (p : Nat × Nat) : dOk 1 (dP p) = true := by simp [dP, dOk, dOkA]
theorem fit_dPs (es : List (Nat × Nat)) : dOk 2 (.tuple (es.map dP)) = true := fit_tuple (n := 1) fun x hx => by
  obtain ⟨r, _, rfl⟩ := List.mem_map.mp hx
  exact fit_dP r
theorem dP_inj {p q : Nat × Nat} (h : dP p = dP q) : p = q := by
  unfold dP at h
  simp only [PyData.tuple.injEq, List.cons.injEq, PyData.int.injEq] at h
  exact Prod.ext (by omega) (by omega)
theorem memP (p : Nat × Nat) (es : List (Nat × Nat)) : memD (dP p) (es.map dP) = decide (p ∈ es) := by
  rw [Bool.eq_iff_iff, memD_iff (noB_dP p) (fun x hx => by obtain ⟨q, _, rfl⟩ := List.mem_map.mp hx; exact noB_dP q), decide_eq_true_eq, List.mem_map]
  constructor
  · rintro ⟨q, hq, e⟩
    rw [← dP_inj e]; exact hq
  · intro h
    exact ⟨p, h, rfl⟩
theorem enumD_map {α : Type} (f : α → PyData) (xs : List α) : enumD (xs.map f) = xs.zipIdx.map fun q => pairD (.int (q.2 : Nat)) (f q.1) := by
  unfold enumD
  refine List.ext_getElem? fun i => ?_
  rw [List.getElem?_mapIdx, List.getElem?_map, List.getElem?_map, List.getElem?_zipIdx]
  cases xs[i]? <;> simp
theorem OkB.set {b : List Rn} {i : Nat} {r : Rn} (h : OkB b) (hr : OkR r) : OkB (b.set i r) := by
  refine ⟨by rw [List.length_set]; exact h.1, fun x hx => ?_⟩
  rcases List.mem_or_eq_of_mem_set hx with hx | rfl
  · exact h.2 x hx
  · exact hr
theorem OkB.free {n : Nat} (h : n ≤ 100) : OkB (freeB n) := ⟨by unfold freeB; rw [List.length_replicate]; exact h, fun x hx => by rw [List.eq_of_mem_replicate hx]; exact ⟨trivial, trivial⟩⟩
abbrev RI := Option Int × Option Int
def dO : Option Int → PyData
  | none => .none
  | some i => .int i
def dI (r : RI) : PyData := .tuple [dO r.1, dO r.2]
def dInts (ks : List Int) : PyData := .list (ks.map .int)
def gg (v s : Int) : Int := (Nat.gcd v.natAbs s.natAbs : Nat)
def low (v s : Int) : Fr2 := (v.fdiv (gg v s), s.fdiv (gg v s))
def Scl (s : Int) : Prop := 0 < s ∧ s ≤ 1000000000
def Sml (v : Int) : Prop := v.natAbs ≤ 10 ^ 21
theorem gg_pos {v s : Int} (h : 0 < s) : 0 < gg v s := by
  unfold gg
  have : 0 < Nat.gcd v.natAbs s.natAbs := Nat.gcd_pos_of_pos_right _ (by omega)
  omega
theorem gg_dvd_l (v s : Int) : gg v s ∣ v := by
  unfold gg
  rw [Int.ofNat_dvd_left]
  exact Nat.gcd_dvd_left _ _
theorem gg_dvd_r (v s : Int) : gg v s ∣ s := by
  unfold gg
  rw [Int.ofNat_dvd_left]
  exact Nat.gcd_dvd_right _ _
theorem low_l {v s : Int} (h : 0 < s) : (low v s).1 * gg v s = v := by
  show v.fdiv (gg v s) * gg v s = v
  rw [Int.fdiv_eq_ediv_of_nonneg _ (Int.le_of_lt (gg_pos h))]
  exact Int.ediv_mul_cancel (gg_dvd_l v s)
theorem low_r {v s : Int} (h : 0 < s) : (low v s).2 * gg v s = s := by
  show s.fdiv (gg v s) * gg v s = s
  rw [Int.fdiv_eq_ediv_of_nonneg _ (Int.le_of_lt (gg_pos h))]
  exact Int.ediv_mul_cancel (gg_dvd_r v s)
theorem low_pos {v s : Int} (h : 0 < s) : 0 < (low v s).2 := by
  have e := low_r (v := v) h
  have g := gg_pos (v := v) h
  rcases Int.lt_or_le 0 (low v s).2 with k | k
  · exact k
  · have : (low v s).2 * gg v s ≤ 0 := Int.mul_nonpos_of_nonpos_of_nonneg k (Int.le_of_lt g)
    omega
theorem fdiv_abs_le {v g : Int} (h : 0 < g) : (v.fdiv g).natAbs ≤ v.natAbs := by
  rw [Int.fdiv_eq_ediv_of_nonneg _ (Int.le_of_lt h)]
  have a := Int.ediv_mul_le v (Int.ne_of_gt h)
  have b := Int.lt_ediv_add_one_mul_self v h
  generalize v / g = q at a b ⊢
  rcases Int.lt_or_le q 0 with k | k
  · have : (q + 1) * g ≤ (q + 1) * 1 := Int.mul_le_mul_of_nonpos_left (by omega) (by omega)
    have c : q * g ≤ v := a
    have d : q * g ≤ q * 1 := Int.mul_le_mul_of_nonpos_left (by omega) (by omega)
    omega
  · have : q * 1 ≤ q * g := Int.mul_le_mul_of_nonneg_left (by omega) k
    omega
theorem low_ok {v s : Int} (hs : Scl s) (hv : Sml v) : OkF (low v s) := by
  have g := gg_pos (v := v) hs.1
  have a := fdiv_abs_le (v := v) g
  have b := fdiv_abs_le (v := s) g
  have h1 := hs.1
  have h2 := hs.2
  unfold Sml at hv
  exact ⟨Nat.lt_of_le_of_lt (Nat.le_trans a hv) (by decide), Nat.lt_of_le_of_lt (Nat.le_trans b (by omega : s.natAbs ≤ 1000000000)) (by decide)⟩
/-- fractions of one scale stand as their tops do -/
theorem mul_pos_lt {a b c : Int} (h : 0 < c) : a * c < b * c ↔ a < b := ⟨fun q => Int.lt_of_mul_lt_mul_right q (Int.le_of_lt h), fun q => Int.mul_lt_mul_of_pos_right q h⟩
theorem ltQ_low {v u s : Int} (h : 0 < s) : ltQ (low v s) (low u s) = decide (v < u) := by
  unfold ltQ
  have g1 := gg_pos (v := v) h
  have g2 := gg_pos (v := u) h
  have a1 := low_l (v := v) h
  have a2 := low_r (v := v) h
  have b1 := low_l (v := u) h
  have b2 := low_r (v := u) h
  have e1 : (low v s).1 * (low u s).2 * (gg v s * gg u s) = v * s := by
    rw [show (low v s).1 * (low u s).2 * (gg v s * gg u s) = ((low v s).1 * gg v s) * ((low u s).2 * gg u s) by ac_rfl, a1, b2]
  have e2 : (low u s).1 * (low v s).2 * (gg v s * gg u s) = u * s := by
    rw [show (low u s).1 * (low v s).2 * (gg v s * gg u s) = ((low u s).1 * gg u s) * ((low v s).2 * gg v s) by ac_rfl, b1, a2]
  have k : (low v s).1 * (low u s).2 < (low u s).1 * (low v s).2 ↔ v < u := by
    rw [← mul_pos_lt (Int.mul_pos g1 g2), e1, e2, mul_pos_lt h]
  exact decide_eq_decide.mpr k
def loHas : Option Int → Int → Bool
  | none, _ => true
  | some l, v => decide (l ≤ v)
def hiHas : Option Int → Int → Bool
  | none, _ => true
  | some u, v => decide (v ≤ u)
def has1 (r : RI) (v : Int) : Bool := loHas r.1 v && hiHas r.2 v
def shE (s : Int) (e : Option Int) : En := e.map fun v => low v s
def shR (s : Int) (r : RI) : Rn := (shE s r.1, shE s r.2)
def shown (own : List RI) (s : Int) : List Rn := own.map (shR s)
def loTold : En → Int → Int → Bool
  | none, _, _ => true
  | some l, v, s => !decide (v * l.2 < l.1 * s)
def hiTold : En → Int → Int → Bool
  | none, _, _ => true
  | some u, v, s => decide (v * u.2 ≤ u.1 * s)
def told1 (r : Rn) (v s : Int) : Bool := loTold r.1 v s && hiTold r.2 v s
def isEnd (e : En) (fs : List Fr2) : Bool := match e with | none => true | some x => decide (x ∈ fs)
/-- a coordinate's test values and the fractions of its known ends -/
abbrev Tst := List Int × List Fr2
def dT (t : Tst) : PyData := .tuple [dInts t.1, .list (t.2.map dF)]
def right1 (s : Int) (r : Rn) (t : Tst) (due : List Int) : Bool := isEnd r.1 t.2 && isEnd r.2 t.2 && decide (t.1.filter (fun v => told1 r v s) = due)
def isN : Option (List Rn) → Bool
  | none => true
  | some _ => false
def rightAll : Option (List Rn) → List Tst → List (List Int) → Int → Bool
  | none, _, _, _ => false
  | some b, ts, due, s => decide (b.length = due.length) && ((b.zip (ts.zip due)).all fun q => right1 s q.1 q.2.1 q.2.2)
def boxRight (o : Option (List Rn)) (ts : List Tst) (due : List (List Int)) (s : Int) : Bool := if due.any (fun x => x.isEmpty) then isN o else rightAll o ts due s
def allIn (r : RI) (t : Tst) : List Int := t.1.filter (has1 r)
def small9 (s v : Int) : Bool := decide (((low v s).1.natAbs : Int) ≤ 10 ^ 9)
def fitF (vs : List Int) (s : Int) : List Int := vs.filter (small9 s) ++ [0]
def Ed (v : Int) : Prop := v.natAbs ≤ 10000000000
def EdO : Option Int → Prop
  | none => True
  | some v => Ed v
/-- a range that is drawn -/
structure Good (r : RI) : Prop where
  lo : EdO r.1
  hi : EdO r.2
  le : ∀ l u, r.1 = some l → r.2 = some u → l ≤ u
theorem Ed.sml {v : Int} (h : Ed v) : Sml v := Nat.le_trans h (by decide)
theorem noB_dInts (ks : List Int) : noB (dInts ks) = true := by
  show noBA (ks.map .int) = true
  rw [noBA_iff]
  intro x hx
  obtain ⟨k, _, rfl⟩ := List.mem_map.mp hx
  rfl
theorem fit_dInts (ks : List Int) : dOk 1 (dInts ks) = true := fit_list (n := 0) fun x hx => by
  obtain ⟨k, _, rfl⟩ := List.mem_map.mp hx
  simp [dOk]
theorem dInts_inj {a b : List Int} (h : dInts a = dInts b) : a = b := by
  unfold dInts at h
  exact (List.map_inj_right (fun _ _ q => PyData.int.inj q)).mp (PyData.list.inj h)
theorem eqv_dInts (a b : List Int) : PyData.eqv (dInts a) (dInts b) = decide (a = b) := by
  rw [Bool.eq_iff_iff, eqv_iff _ _ (noB_dInts a) (noB_dInts b), decide_eq_true_eq]
  exact ⟨dInts_inj, fun h => by rw [h]⟩
theorem dF_inj {a b : Fr2} (h : dF a = dF b) : a = b := by
  unfold dF at h
  simp only [PyData.tuple.injEq, List.cons.injEq, PyData.int.injEq] at h
  exact Prod.ext h.1 h.2.1
theorem memF (x : Fr2) (fs : List Fr2) : memD (dF x) (fs.map dF) = decide (x ∈ fs) := by
  rw [Bool.eq_iff_iff, memD_iff (noB_dF x) (fun y hy => by obtain ⟨q, _, rfl⟩ := List.mem_map.mp hy; exact noB_dF q), decide_eq_true_eq, List.mem_map]
  constructor
  · rintro ⟨q, hq, e⟩
    rw [← dF_inj e]; exact hq
  · intro h
    exact ⟨x, h, rfl⟩
theorem fit_dFs (fs : List Fr2) : dOk 2 (.list (fs.map dF)) = true := fit_list (n := 1) fun x hx => by
  obtain ⟨r, _, rfl⟩ := List.mem_map.mp hx
  exact fit_dF r
theorem zip_at {α β : Type} {xs : List α} {ys : List β} {i : Nat} {x : α} {y : β} (h1 : xs[i]? = some x) (h2 : ys[i]? = some y) : (xs.zip ys)[i]? = some (x, y) := by
  rw [List.getElem?_zip_eq_some]
  exact ⟨h1, h2⟩
theorem at_of {α : Type} {xs : List α} {i : Nat} (h : i < xs.length) : ∃ x, xs[i]? = some x := ⟨xs[i], List.getElem?_eq_getElem h⟩
theorem atM {α : Type} {f : α → PyData} {xs : List α} {i : Nat} {x : α} (h : xs[i]? = some x) : atI (xs.map f) (i : Int) = some (f x) := atI_nat (by rw [List.getElem?_map, h]; rfl)
theorem eqv_int (a b : Int) : PyData.eqv (.int a) (.int b) = decide (a = b) := by
  simp only [PyData.eqv]
  by_cases h : a = b <;> simp [h]
theorem fit_int (a : Int) : Fit (.int a) := by unfold Fit; simp [dOk]
theorem noB_dOB : ∀ o : Option (List Rn), noB (dOB o) = true
  | none => rfl
  | some b => noB_dB b
theorem fit_dOB : ∀ o : Option (List Rn), dOk 3 (dOB o) = true
  | none => by simp [dOB, dOk]
  | some b => fit_dB b
def intD : PyData → Int
  | .int v => v
  | _ => 0
theorem filter_ints (p : Int → Bool) (ks : List Int) : ((ks.map PyData.int).filter fun d => p (intD d)).map id = (ks.filter p).map .int := by
  rw [List.map_id, List.filter_map]
  rfl

def EndsIn (r : RI) (ks : List Int) : Prop := (∀ l, r.1 = some l → l ∈ ks) ∧ ∀ u, r.2 = some u → u ∈ ks
structure Cd where
  a : RI
  b : RI
  t : Tst
  ks : List Int
  cut : Int
def big : Int := 10 ^ 20
structure TOk (s : Int) (t : Tst) (ks : List Int) : Prop where
  mem : ∀ k, k ∈ t.1 ↔ (k = -big ∨ k = big ∨ ∃ x ∈ ks, k = x - 1 ∨ k = x ∨ k = x + 1)
  srt : t.1.Pairwise (· < ·)
  frs : ∀ k ∈ ks, low k s ∈ t.2
  few : t.1.length ≤ 1000
  eds : ∀ k ∈ ks, Ed k
structure CdOk (s : Int) (c : Cd) : Prop where
  ga : Good c.a
  gb : Good c.b
  ok : TOk s c.t c.ks
  ia : EndsIn c.a c.ks
  ib : EndsIn c.b c.ks
  ic : c.cut ∈ c.ks
theorem TOk.at_ {s : Int} {t : Tst} {ks : List Int} (h : TOk s t ks) {k : Int} (hk : k ∈ ks) : k ∈ t.1 := (h.mem k).mpr (.inr (.inr ⟨k, hk, .inr (.inl rfl)⟩))
theorem TOk.lo {s : Int} {t : Tst} {ks : List Int} (h : TOk s t ks) : -big ∈ t.1 := (h.mem _).mpr (.inl rfl)
theorem TOk.hi {s : Int} {t : Tst} {ks : List Int} (h : TOk s t ks) : big ∈ t.1 := (h.mem _).mpr (.inr (.inl rfl))
theorem big_eq : big = 100000000000000000000 := by decide
theorem TOk.in {s : Int} {t : Tst} {ks : List Int} (h : TOk s t ks) {v : Int} (hv : v ∈ t.1) : -big ≤ v ∧ v ≤ big := by
  rw [h.mem] at hv
  rw [big_eq] at *
  rcases hv with rfl | rfl | ⟨x, hx, e⟩
  · omega
  · omega
  · have := h.eds x hx
    unfold Ed at this
    omega
theorem TOk.sml {s : Int} {t : Tst} {ks : List Int} (h : TOk s t ks) {v : Int} (hv : v ∈ t.1) : Sml v := by
  have := h.in hv
  rw [big_eq] at this
  unfold Sml
  omega
theorem loTold_sh {s v : Int} (hs : 0 < s) : ∀ e : Option Int, loTold (shE s e) v s = loHas e v
  | none => rfl
  | some l => by
    show (!decide (v * (low l s).2 < (low l s).1 * s)) = decide (l ≤ v)
    have g := gg_pos (v := l) hs
    have e1 := low_l (v := l) hs
    have e2 := low_r (v := l) hs
    have k : v * (low l s).2 < (low l s).1 * s ↔ v < l := by
      rw [← mul_pos_lt g, Int.mul_assoc, e2, show (low l s).1 * s * gg l s = ((low l s).1 * gg l s) * s by ac_rfl, e1, mul_pos_lt hs]
    rw [decide_eq_decide.mpr k]
    by_cases c : v < l
    · rw [decide_eq_true c, decide_eq_false (by omega)]; rfl
    · rw [decide_eq_false c, decide_eq_true (by omega)]; rfl
theorem hiTold_sh {s v : Int} (hs : 0 < s) : ∀ e : Option Int, hiTold (shE s e) v s = hiHas e v
  | none => rfl
  | some u => by
    show decide (v * (low u s).2 ≤ (low u s).1 * s) = decide (v ≤ u)
    have g := gg_pos (v := u) hs
    have e1 := low_l (v := u) hs
    have e2 := low_r (v := u) hs
    have k : (low u s).1 * s < v * (low u s).2 ↔ u < v := by
      rw [← mul_pos_lt g, Int.mul_assoc v, e2, show (low u s).1 * s * gg u s = ((low u s).1 * gg u s) * s by ac_rfl, e1, mul_pos_lt hs]
    refine decide_eq_decide.mpr ?_
    constructor
    · intro q
      have := fun z => Int.not_lt.mpr q (k.mpr z)
      omega
    · intro q
      exact Int.not_lt.mp fun z => by have := k.mp z; omega
theorem told_sh {s v : Int} (hs : 0 < s) (r : RI) : told1 (shR s r) v s = has1 r v := by
  unfold told1 has1 shR
  rw [loTold_sh hs, hiTold_sh hs]
def lowI : Option Int → Option Int → Bool
  | _, none => true
  | none, some _ => false
  | some x, some y => decide (y ≤ x)
def highI : Option Int → Option Int → Bool
  | _, none => true
  | none, some _ => false
  | some x, some y => decide (x ≤ y)
theorem lowIn_sh {s : Int} (hs : 0 < s) : ∀ x y : Option Int, lowIn (shE s x) (shE s y) = lowI x y
  | none, none => rfl
  | some _, none => rfl
  | none, some _ => rfl
  | some x, some y => by
    show (!ltQ (low x s) (low y s)) = decide (y ≤ x)
    rw [ltQ_low hs]
    by_cases c : x < y
    · rw [decide_eq_true c, decide_eq_false (by omega)]; rfl
    · rw [decide_eq_false c, decide_eq_true (by omega)]; rfl
theorem highIn_sh {s : Int} (hs : 0 < s) : ∀ x y : Option Int, highIn (shE s x) (shE s y) = highI x y
  | none, none => rfl
  | some _, none => rfl
  | none, some _ => rfl
  | some x, some y => by
    show (!ltQ (low y s) (low x s)) = decide (x ≤ y)
    rw [ltQ_low hs]
    by_cases c : y < x
    · rw [decide_eq_true c, decide_eq_false (by omega)]; rfl
    · rw [decide_eq_false c, decide_eq_true (by omega)]; rfl
def withI (a b : RI) : Bool := lowI a.1 b.1 && highI a.2 b.2
def comI (a b : RI) : RI := (if lowI a.1 b.1 then a.1 else b.1, if highI a.2 b.2 then a.2 else b.2)
def joinI (a b : RI) : RI := (if lowI a.1 b.1 then b.1 else a.1, if highI a.2 b.2 then b.2 else a.2)
def clashI (a : RI) : Bool := match a.1, a.2 with
  | some l, some u => decide (u < l)
  | _, _ => false
theorem within1_sh {s : Int} (hs : 0 < s) (a b : RI) : within1 (shR s a, shR s b) = withI a b := by
  unfold within1 withI shR
  rw [lowIn_sh hs, highIn_sh hs]
theorem com1_sh {s : Int} (hs : 0 < s) (a b : RI) : com1 (shR s a, shR s b) = shR s (comI a b) := by
  unfold com1 comI shR grLow leHigh
  dsimp only
  rw [lowIn_sh hs, highIn_sh hs]
  cases lowI a.1 b.1 <;> cases highI a.2 b.2 <;> rfl
theorem join1_sh {s : Int} (hs : 0 < s) (a b : RI) : join1 (shR s a, shR s b) = shR s (joinI a b) := by
  unfold join1 joinI shR
  dsimp only
  rw [lowIn_sh hs, highIn_sh hs]
  cases lowI a.1 b.1 <;> cases highI a.2 b.2 <;> rfl
theorem clash_sh {s : Int} (hs : 0 < s) (r : RI) : clash (shR s r).1 (shR s r).2 = clashI r := by
  obtain ⟨l, u⟩ := r
  cases l with
  | none => rfl
  | some l =>
    cases u with
    | none => rfl
    | some u => exact ltQ_low hs
theorem has_com (a b : RI) (v : Int) : has1 (comI a b) v = (has1 a v && has1 b v) := by
  obtain ⟨al, au⟩ := a
  obtain ⟨bl, bu⟩ := b
  unfold has1 comI
  have lo : loHas (if lowI al bl then al else bl) v = (loHas al v && loHas bl v) := by
    cases al <;> cases bl <;> simp [lowI, loHas]
    split <;> (try simp [loHas]) <;> grind
  have hi : hiHas (if highI au bu then au else bu) v = (hiHas au v && hiHas bu v) := by
    cases au <;> cases bu <;> simp [highI, hiHas]
    split <;> (try simp [hiHas]) <;> grind
  dsimp only
  rw [lo, hi]
  cases loHas al v <;> cases loHas bl v <;> cases hiHas au v <;> cases hiHas bu v <;> rfl
theorem com_comm (a b : RI) : comI a b = comI b a := by
  obtain ⟨al, au⟩ := a
  obtain ⟨bl, bu⟩ := b
  unfold comI
  dsimp only
  have lo : (if lowI al bl then al else bl) = (if lowI bl al then bl else al) := by
    cases al <;> cases bl <;> simp [lowI]
    split <;> split <;> grind
  have hi : (if highI au bu then au else bu) = (if highI bu au then bu else au) := by
    cases au <;> cases bu <;> simp [highI]
    split <;> split <;> grind
  rw [lo, hi]
theorem join_comm (a b : RI) : joinI a b = joinI b a := by
  obtain ⟨al, au⟩ := a
  obtain ⟨bl, bu⟩ := b
  unfold joinI
  dsimp only
  have lo : (if lowI al bl then bl else al) = (if lowI bl al then al else bl) := by
    cases al <;> cases bl <;> simp [lowI]
    split <;> split <;> grind
  have hi : (if highI au bu then bu else au) = (if highI bu au then au else bu) := by
    cases au <;> cases bu <;> simp [highI]
    split <;> split <;> grind
  rw [lo, hi]
theorem with_join (a b : RI) : withI a (joinI a b) = true := by
  obtain ⟨al, au⟩ := a
  obtain ⟨bl, bu⟩ := b
  unfold withI joinI
  dsimp only
  have lo : lowI al (if lowI al bl then bl else al) = true := by
    cases al <;> cases bl <;> simp [lowI]
    split <;> simp [lowI] <;> grind
  have hi : highI au (if highI au bu then bu else au) = true := by
    cases au <;> cases bu <;> simp [highI]
    split <;> simp [highI] <;> grind
  rw [lo, hi]
  rfl
theorem with_com (a b : RI) : withI (comI a b) a = true := by
  obtain ⟨al, au⟩ := a
  obtain ⟨bl, bu⟩ := b
  unfold withI comI
  dsimp only
  have lo : lowI (if lowI al bl then al else bl) al = true := by
    cases al <;> cases bl <;> simp [lowI]
    split <;> simp [lowI] <;> grind
  have hi : highI (if highI au bu then au else bu) au = true := by
    cases au <;> cases bu <;> simp [highI]
    split <;> simp [highI] <;> grind
  rw [lo, hi]
  rfl
theorem with_self (a : RI) : withI a a = true := by
  obtain ⟨al, au⟩ := a
  unfold withI
  cases al <;> cases au <;> simp [lowI, highI]
theorem has_with {a b : RI} {v : Int} (h : withI a b = true) (q : has1 a v = true) : has1 b v = true := by
  obtain ⟨al, au⟩ := a
  obtain ⟨bl, bu⟩ := b
  unfold withI at h
  unfold has1 at q ⊢
  cases al <;> cases au <;> cases bl <;> cases bu <;> simp [lowI, highI, loHas, hiHas] at * <;> omega
theorem Good.join {a b : RI} (ha : Good a) (hb : Good b) : Good (joinI a b) := by
  obtain ⟨al, au⟩ := a
  obtain ⟨bl, bu⟩ := b
  have a3 := ha.le
  have b3 := hb.le
  have a1 := ha.lo
  have a2 := ha.hi
  have b1 := hb.lo
  have b2 := hb.hi
  unfold joinI
  dsimp only at *
  refine ⟨by dsimp only; split <;> assumption, by dsimp only; split <;> assumption, ?_⟩
  cases al <;> cases au <;> cases bl <;> cases bu <;> simp [lowI, highI] <;> simp at a3 b3 <;> grind
theorem EndsIn.join {a b : RI} {ks : List Int} (ha : EndsIn a ks) (hb : EndsIn b ks) : EndsIn (joinI a b) ks := by
  unfold joinI
  refine ⟨fun l e => ?_, fun u e => ?_⟩
  · dsimp only at e
    split at e
    · exact hb.1 l e
    · exact ha.1 l e
  · dsimp only at e
    split at e
    · exact hb.2 u e
    · exact ha.2 u e
theorem EndsIn.com {a b : RI} {ks : List Int} (ha : EndsIn a ks) (hb : EndsIn b ks) : EndsIn (comI a b) ks := by
  unfold comI
  refine ⟨fun l e => ?_, fun u e => ?_⟩
  · dsimp only at e
    split at e
    · exact ha.1 l e
    · exact hb.1 l e
  · dsimp only at e
    split at e
    · exact ha.2 u e
    · exact hb.2 u e
/-- by the test values one sees whether a range lies in another -/
theorem with_iff {s : Int} {t : Tst} {ks : List Int} (h : TOk s t ks) {p q : RI} (gp : Good p) (ip : EndsIn p ks) (iq : EndsIn q ks) : withI p q = true ↔ ∀ v ∈ t.1, has1 p v = true → has1 q v = true := by
  constructor
  · exact fun w v _ k => has_with w k
  · intro w
    obtain ⟨pl, pu⟩ := p
    obtain ⟨ql, qu⟩ := q
    have be := big_eq
    have e3 := gp.le
    have i1 := ip.1
    have i2 := ip.2
    have i3 := iq.1
    have i4 := iq.2
    unfold withI
    unfold has1 at w
    dsimp only at *
    have lo : lowI pl ql = true := by
      cases ql with
      | none => cases pl <;> rfl
      | some y =>
        have hy := h.eds y (i3 y rfl)
        unfold Ed at hy
        cases pl with
        | none =>
          have k := w (-big) h.lo (by
            cases pu with
            | none => rfl
            | some u =>
              have := h.eds u (i2 u rfl)
              unfold Ed at this
              simp [loHas, hiHas]
              omega)
          simp [loHas] at k
          omega
        | some x =>
          have k := w x (h.at_ (i1 x rfl)) (by
            cases pu with
            | none => simp [loHas, hiHas]
            | some u => simp [loHas, hiHas]; exact e3 x u rfl rfl)
          simp [loHas] at k
          simp [lowI]
          omega
    have hi : highI pu qu = true := by
      cases qu with
      | none => cases pu <;> rfl
      | some y =>
        have hy := h.eds y (i4 y rfl)
        unfold Ed at hy
        cases pu with
        | none =>
          have k := w big h.hi (by
            cases pl with
            | none => rfl
            | some u =>
              have := h.eds u (i1 u rfl)
              unfold Ed at this
              simp [loHas, hiHas]
              omega)
          simp [hiHas] at k
          omega
        | some x =>
          have k := w x (h.at_ (i2 x rfl)) (by
            cases pl with
            | none => simp [loHas, hiHas]
            | some u => simp [loHas, hiHas]; exact e3 u x rfl rfl)
          simp [hiHas] at k
          simp [highI]
          omega
    rw [lo, hi]
    rfl
theorem filter_eq_iff {α : Type} {p q : α → Bool} : ∀ {xs : List α}, xs.filter p = xs.filter q ↔ ∀ x ∈ xs, p x = q x
  | [] => by simp
  | x :: xs => by
    have ih := filter_eq_iff (p := p) (q := q) (xs := xs)
    constructor
    · intro h
      have e : p x = q x := by
        have m : ∀ y, y ∈ (x :: xs).filter p ↔ y ∈ (x :: xs).filter q := fun y => by rw [h]
        have := m x
        simp only [List.mem_filter, List.mem_cons, true_or, true_and] at this
        cases hp : p x <;> cases hq : q x <;> simp [hp, hq] at this ⊢
      intro y hy
      rcases List.mem_cons.mp hy with rfl | hy
      · exact e
      · refine ih.mp ?_ y hy
        rw [List.filter_cons, List.filter_cons, e] at h
        split at h
        · exact (List.cons.inj h).2
        · exact h
    · intro h
      rw [List.filter_cons, List.filter_cons, h x List.mem_cons_self, ih.mpr fun y hy => h y (List.mem_cons_of_mem _ hy)]

theorem clash_iff {s : Int} {t : Tst} {ks : List Int} (h : TOk s t ks) {r : RI} (i : EndsIn r ks) : clashI r = true ↔ t.1.filter (has1 r) = [] := by
  obtain ⟨l, u⟩ := r
  have i1 := i.1
  have i2 := i.2
  rw [List.filter_eq_nil_iff]
  constructor
  · intro c v hv q
    cases l with
    | none => cases c
    | some l =>
      cases u with
      | none => cases c
      | some u =>
        have c : u < l := of_decide_eq_true c
        simp [has1, loHas, hiHas] at q
        omega
  · intro e
    cases l with
    | none =>
      cases u with
      | none => exact absurd rfl (e big h.hi)
      | some u => exact absurd (by simp [has1, loHas, hiHas]) (e u (h.at_ (i2 u rfl)))
    | some l =>
      cases u with
      | none => exact absurd (by simp [has1, loHas, hiHas]) (e l (h.at_ (i1 l rfl)))
      | some u =>
        have := e l (h.at_ (i1 l rfl))
        simp [has1, loHas, hiHas] at this
        exact decide_eq_true this
theorem isEnd_sh {s : Int} {t : Tst} {ks : List Int} (h : TOk s t ks) : ∀ (e : Option Int), (∀ l, e = some l → l ∈ ks) → isEnd (shE s e) t.2 = true
  | none, _ => rfl
  | some l, i => decide_eq_true (h.frs l (i l rfl))
theorem right1_sh {s : Int} (hs : 0 < s) {t : Tst} {ks : List Int} (h : TOk s t ks) {r : RI} (i : EndsIn r ks) : right1 s (shR s r) t (t.1.filter (has1 r)) = true := by
  unfold right1
  have e : (t.1.filter fun v => told1 (shR s r) v s) = t.1.filter (has1 r) := List.filter_congr fun v _ => told_sh hs r
  rw [show (shR s r).1 = shE s r.1 from rfl, show (shR s r).2 = shE s r.2 from rfl, isEnd_sh h r.1 i.1, isEnd_sh h r.2 i.2, decide_eq_true e]
  rfl
theorem zip_map2 {α β γ : Type} (f : α → β) (g : α → γ) : ∀ xs : List α, (xs.map f).zip (xs.map g) = xs.map fun x => (f x, g x)
  | [] => rfl
  | x :: xs => by
    show (f x, g x) :: (xs.map f).zip (xs.map g) = _
    rw [zip_map2 f g xs]
    rfl
section
variable {α : Type} {s : Int} (hs : 0 < s) (xs : List α)
include hs
theorem common_of (p q : α → RI) : commonF (xs.map fun x => shR s (p x)) (xs.map fun x => shR s (q x)) = if xs.any (fun x => clashI (comI (p x) (q x))) then none else some (xs.map fun x => shR s (comI (p x) (q x))) := by
  unfold commonF
  rw [zip_map2, List.any_map, List.map_map]
  have e1 : (clash1 ∘ fun x => (shR s (p x), shR s (q x))) = fun x => clashI (comI (p x) (q x)) := by
    funext x
    show clash (com1 _).1 (com1 _).2 = _
    rw [com1_sh hs, clash_sh hs]
  have e2 : (com1 ∘ fun x => (shR s (p x), shR s (q x))) = fun x => shR s (comI (p x) (q x)) := by
    funext x
    exact com1_sh hs _ _
  rw [e1, e2]
theorem joined_of (p q : α → RI) : joinedF (xs.map fun x => shR s (p x)) (xs.map fun x => shR s (q x)) = xs.map fun x => shR s (joinI (p x) (q x)) := by
  unfold joinedF
  rw [zip_map2, List.map_map]
  refine List.map_congr_left fun x _ => ?_
  exact join1_sh hs _ _
theorem within_of (p q : α → RI) : withinF (xs.map fun x => shR s (p x)) (xs.map fun x => shR s (q x)) = xs.all fun x => withI (p x) (q x) := by
  unfold withinF
  rw [zip_map2, List.all_map]
  have e : (within1 ∘ fun x => (shR s (p x), shR s (q x))) = fun x => withI (p x) (q x) := by
    funext x
    exact within1_sh hs _ _
  rw [e]
/-- a box that is told right -/
theorem box_right_of (tf : α → Tst) (kf : α → List Int) (r : α → RI) (h : ∀ x ∈ xs, TOk s (tf x) (kf x) ∧ EndsIn (r x) (kf x)) :
    boxRight (if xs.any (fun x => clashI (r x)) then none else some (xs.map fun x => shR s (r x))) (xs.map tf) (xs.map fun x => (tf x).1.filter (has1 (r x))) s = true := by
  unfold boxRight
  have e : ((xs.map fun x => (tf x).1.filter (has1 (r x))).any fun x => x.isEmpty) = xs.any fun x => clashI (r x) := by
    rw [List.any_map, Bool.eq_iff_iff, List.any_eq_true, List.any_eq_true]
    constructor
    · rintro ⟨x, hx, q⟩
      exact ⟨x, hx, (clash_iff (h x hx).1 (h x hx).2).mpr (List.isEmpty_iff.mp q)⟩
    · rintro ⟨x, hx, q⟩
      exact ⟨x, hx, List.isEmpty_iff.mpr ((clash_iff (h x hx).1 (h x hx).2).mp q)⟩
  rw [e]
  cases xs.any fun x => clashI (r x) with
  | true => rfl
  | false =>
    rw [if_neg Bool.false_ne_true, if_neg Bool.false_ne_true]
    show (decide ((xs.map fun x => shR s (r x)).length = (xs.map fun x => (tf x).1.filter (has1 (r x))).length) && _) = true
    rw [List.length_map, List.length_map, decide_eq_true rfl, Bool.true_and, zip_map2, zip_map2, List.all_map, List.all_eq_true]
    intro x hx
    exact right1_sh hs (h x hx).1 (h x hx).2
omit hs in
/-- a range lies in another: by all test values -/
theorem within_due (tf : α → Tst) (kf : α → List Int) (p q : α → RI) (h : ∀ x ∈ xs, TOk s (tf x) (kf x) ∧ Good (p x) ∧ EndsIn (p x) (kf x) ∧ EndsIn (q x) (kf x)) (d : α → List Int) (hd : ∀ x ∈ xs, d x = (tf x).1.filter fun v => has1 (p x) v && has1 (q x) v) :
    (xs.all fun x => withI (p x) (q x)) = decide (xs.map d = xs.map fun x => (tf x).1.filter (has1 (p x))) := by
  rw [Bool.eq_iff_iff, List.all_eq_true, decide_eq_true_eq, List.map_inj_left]
  refine forall_congr' fun x => forall_congr' fun hx => ?_
  obtain ⟨h1, h2, h3, h4⟩ := h x hx
  rw [with_iff h1 h2 h3 h4, hd x hx, filter_eq_iff]
  refine forall_congr' fun v => forall_congr' fun _ => ?_
  cases has1 (p x) v <;> cases has1 (q x) v <;> simp
end
/-- what lies between the least and the greatest of two ranges' test values -/
theorem hull_eq {s : Int} {t : Tst} {ks : List Int} (h : TOk s t ks) {a b : RI} (ga : Good a) (gb : Good b) (ia : EndsIn a ks) (ib : EndsIn b ks) {lo hi : Int} (l1 : lo ∈ allIn a t ++ allIn b t) (l2 : ∀ y ∈ allIn a t ++ allIn b t, lo ≤ y)
    (h1 : hi ∈ allIn a t ++ allIn b t) (h2 : ∀ y ∈ allIn a t ++ allIn b t, y ≤ hi) : (t.1.filter fun v => decide (lo ≤ v) && decide (v ≤ hi)) = t.1.filter (has1 (joinI a b)) := by
  have wa := with_join a b
  have wb : withI b (joinI a b) = true := by rw [join_comm]; exact with_join b a
  have gj := ga.join gb
  have ij := ia.join ib
  have ina : ∀ v ∈ t.1, has1 a v = true → v ∈ allIn a t ++ allIn b t := fun v hv k => List.mem_append_left _ (List.mem_filter.mpr ⟨hv, k⟩)
  have inb : ∀ v ∈ t.1, has1 b v = true → v ∈ allIn a t ++ allIn b t := fun v hv k => List.mem_append_right _ (List.mem_filter.mpr ⟨hv, k⟩)
  have of : ∀ v ∈ allIn a t ++ allIn b t, v ∈ t.1 ∧ has1 (joinI a b) v = true := fun v hv => by
    rcases List.mem_append.mp hv with hv | hv
    · have := List.mem_filter.mp hv
      exact ⟨this.1, has_with wa this.2⟩
    · have := List.mem_filter.mp hv
      exact ⟨this.1, has_with wb this.2⟩
  refine List.filter_congr fun v hv => ?_
  obtain ⟨tl, jl⟩ := of lo l1
  obtain ⟨th, jh⟩ := of hi h1
  have bv := h.in hv
  rw [Bool.eq_iff_iff, Bool.and_eq_true, decide_eq_true_eq, decide_eq_true_eq]
  obtain ⟨al, au⟩ := a
  obtain ⟨bl, bu⟩ := b
  have a3 := ga.le
  have b3 := gb.le
  have ia1 := ia.1
  have ia2 := ia.2
  have ib1 := ib.1
  have ib2 := ib.2
  have be := big_eq
  unfold has1 at *
  unfold joinI at *
  dsimp only at *
  -- the least value: an end or the bound
  have lows : loHas (if lowI al bl then bl else al) v = true ↔ lo ≤ v := by
    constructor
    · intro k
      cases al with
      | none =>
        have := l2 (-big) (ina _ h.lo (by
          cases au with
          | none => rfl
          | some u => have := h.eds u (ia2 u rfl); unfold Ed at this; simp [loHas, hiHas]; omega))
        omega
      | some x =>
        cases bl with
        | none =>
          have := l2 (-big) (inb _ h.lo (by
            cases bu with
            | none => rfl
            | some u => have := h.eds u (ib2 u rfl); unfold Ed at this; simp [loHas, hiHas]; omega))
          omega
        | some y =>
          have lx := l2 x (ina _ (h.at_ (ia1 x rfl)) (by
            cases au with
            | none => simp [loHas, hiHas]
            | some u => simp [loHas, hiHas]; exact a3 x u rfl rfl))
          have ly := l2 y (inb _ (h.at_ (ib1 y rfl)) (by
            cases bu with
            | none => simp [loHas, hiHas]
            | some u => simp [loHas, hiHas]; exact b3 y u rfl rfl))
          simp only [lowI] at k
          by_cases c : y ≤ x <;> simp [c, loHas] at k <;> omega
    · intro k
      have jl := (Bool.and_eq_true _ _ ▸ jl).1
      cases e : (if lowI al bl then bl else al) with
      | none => rfl
      | some z => rw [e] at jl; simp [loHas] at jl ⊢; omega
  have highs : hiHas (if highI au bu then bu else au) v = true ↔ v ≤ hi := by
    constructor
    · intro k
      cases au with
      | none =>
        have := h2 big (ina _ h.hi (by
          cases al with
          | none => rfl
          | some u => have := h.eds u (ia1 u rfl); unfold Ed at this; simp [loHas, hiHas]; omega))
        omega
      | some x =>
        cases bu with
        | none =>
          have := h2 big (inb _ h.hi (by
            cases bl with
            | none => rfl
            | some u => have := h.eds u (ib1 u rfl); unfold Ed at this; simp [loHas, hiHas]; omega))
          omega
        | some y =>
          have lx := h2 x (ina _ (h.at_ (ia2 x rfl)) (by
            cases al with
            | none => simp [loHas, hiHas]
            | some u => simp [loHas, hiHas]; exact a3 u x rfl rfl))
          have ly := h2 y (inb _ (h.at_ (ib2 y rfl)) (by
            cases bl with
            | none => simp [loHas, hiHas]
            | some u => simp [loHas, hiHas]; exact b3 u y rfl rfl))
          simp only [highI] at k
          by_cases c : x ≤ y <;> simp [c, hiHas] at k <;> omega
    · intro k
      have jh := (Bool.and_eq_true _ _ ▸ jh).2
      cases e : (if highI au bu then bu else au) with
      | none => rfl
      | some z => rw [e] at jh; simp [hiHas] at jh ⊢; omega
  rw [Bool.and_eq_true, lows, highs]
theorem allIn_ne {s : Int} {t : Tst} {ks : List Int} (h : TOk s t ks) {a : RI} (ga : Good a) (ia : EndsIn a ks) : allIn a t ≠ [] := fun e => by
  have c := (clash_iff h ia).mpr e
  obtain ⟨l, u⟩ := a
  cases l with
  | none => cases c
  | some l =>
    cases u with
    | none => cases c
    | some u =>
      have c : u < l := of_decide_eq_true c
      have := ga.le l u rfl rfl
      omega

def pick (cs : List Cd) (g : Cd → PyData) (d : PyData) : PyData := match cs[(intD d).toNat]? with
  | some c => g c
  | none => .none
theorem spot {cs : List Cd} {d : PyData} (h : d ∈ intsFrom 0 cs.length) : ∃ (i : Nat) (c : Cd), cs[i]? = some c ∧ d = .int (i : Nat) ∧ ∀ g, pick cs g d = g c := by
  obtain ⟨i, hi, e⟩ := List.getElem_of_mem h
  rw [intsFrom_len] at hi
  have e2 := intsFrom_get (lo := 0) (n := cs.length) (i := i) (e := d) (by rw [List.getElem?_eq_getElem (by rw [intsFrom_len]; exact hi), e])
  rw [Int.zero_add] at e2
  refine ⟨i, cs[i], List.getElem?_eq_getElem hi, e2, fun g => ?_⟩
  rw [e2]
  unfold pick
  show (match cs[((i : Nat) : Int).toNat]? with | some c => g c | none => .none) = _
  rw [Int.toNat_natCast, List.getElem?_eq_getElem hi]
theorem pick_map (cs : List Cd) (g : Cd → PyData) : (intsFrom 0 cs.length).map (pick cs g) = cs.map g := by
  refine List.ext_getElem? fun i => ?_
  rw [List.getElem?_map, List.getElem?_map]
  by_cases h : i < cs.length
  · obtain ⟨d, hd⟩ := at_of (xs := intsFrom 0 cs.length) (i := i) (by rw [intsFrom_len]; exact h)
    have e2 := intsFrom_get hd
    rw [Int.zero_add] at e2
    rw [hd, e2, List.getElem?_eq_getElem h]
    show some (match cs[((i : Nat) : Int).toNat]? with | some c => g c | none => .none) = _
    rw [Int.toNat_natCast, List.getElem?_eq_getElem h]
    rfl
  · rw [List.getElem?_eq_none (by rw [intsFrom_len]; omega), List.getElem?_eq_none (by omega)]
    rfl
theorem pick_ints (cs : List Cd) (g : Cd → List Int) : (intsFrom 0 cs.length).map (pick cs fun c => dInts (g c)) = (cs.map g).map dInts := by
  rw [pick_map, List.map_map]
  rfl
theorem memI (v : Int) (ks : List Int) : memD (.int v) (ks.map .int) = decide (v ∈ ks) := by
  rw [Bool.eq_iff_iff, memD_iff rfl (fun y hy => by obtain ⟨q, _, rfl⟩ := List.mem_map.mp hy; rfl), decide_eq_true_eq, List.mem_map]
  constructor
  · rintro ⟨q, hq, e⟩
    rw [← PyData.int.inj e]; exact hq
  · intro h
    exact ⟨v, h, rfl⟩
theorem fit_due (xs : List (List Int)) : Fit (.list (xs.map dInts)) := fit_of (n := 2) (fit_list (n := 1) fun x hx => by
  obtain ⟨r, _, rfl⟩ := List.mem_map.mp hx
  exact fit_dInts r)
theorem eqv_due (a b : List (List Int)) : PyData.eqv (.list (a.map dInts)) (.list (b.map dInts)) = decide (a = b) := by
  have nb : ∀ xs : List (List Int), noB (.list (xs.map dInts)) = true := fun xs => by
    show noBA (xs.map dInts) = true
    rw [noBA_iff]
    intro x hx
    obtain ⟨k, _, rfl⟩ := List.mem_map.mp hx
    exact noB_dInts k
  rw [Bool.eq_iff_iff, eqv_iff _ _ (nb a) (nb b), decide_eq_true_eq]
  exact ⟨fun h => (List.map_inj_right fun _ _ q => dInts_inj q).mp (PyData.list.inj h), fun h => by rw [h]⟩
theorem fit_bool (b : Bool) : Fit (.bool b) := by unfold Fit; simp [dOk]
theorem eqv_bool (a b : Bool) : PyData.eqv (.bool a) (.bool b) = (a == b) := by simp only [PyData.eqv]
theorem show_bool (b : Bool) : (PyData.bool b).showable = true ∧ (PyData.bool b).shown.length ≤ 100000 := by cases b <;> exact ⟨rfl, by decide⟩
theorem shE_ok {s : Int} (hs : Scl s) : ∀ {e : Option Int}, EdO e → OkE (shE s e)
  | none, _ => trivial
  | some v, h => low_ok hs (Ed.sml h)
theorem shR_ok {s : Int} (hs : Scl s) {r : RI} (h : Good r) : OkR (shR s r) := ⟨shE_ok hs h.lo, shE_ok hs h.hi⟩
theorem box_ok {α : Type} {s : Int} (hs : Scl s) {xs : List α} (hl : xs.length ≤ 100) (r : α → RI) (h : ∀ x ∈ xs, Good (r x)) : OkB (xs.map fun x => shR s (r x)) := by
  refine ⟨by rw [List.length_map]; exact hl, fun b hb => ?_⟩
  obtain ⟨x, hx, rfl⟩ := List.mem_map.mp hb
  exact shR_ok hs (h x hx)
theorem EdO.com {a b : RI} (ha : EdO a.1 ∧ EdO a.2) (hb : EdO b.1 ∧ EdO b.2) : EdO (comI a b).1 ∧ EdO (comI a b).2 := by
  unfold comI
  dsimp only
  constructor <;> split <;> first | exact ha.1 | exact hb.1 | exact ha.2 | exact hb.2
theorem box_ok2 {α : Type} {s : Int} (hs : Scl s) {xs : List α} (hl : xs.length ≤ 100) (r : α → RI) (h : ∀ x ∈ xs, EdO (r x).1 ∧ EdO (r x).2) : OkB (xs.map fun x => shR s (r x)) := by
  refine ⟨by rw [List.length_map]; exact hl, fun b hb => ?_⟩
  obtain ⟨x, hx, rfl⟩ := List.mem_map.mp hb
  exact ⟨shE_ok hs (h x hx).1, shE_ok hs (h x hx).2⟩
theorem both_eq (c : Cd) : (allIn c.a c.t).filter (fun v => decide (v ∈ allIn c.b c.t)) = c.t.1.filter (has1 (comI c.a c.b)) := by
  unfold allIn
  rw [List.filter_filter]
  refine List.filter_congr fun v hv => ?_
  rw [has_com, Bool.and_comm]
  congr 1
  rw [Bool.eq_iff_iff, decide_eq_true_eq, List.mem_filter]
  exact ⟨fun q => q.2, fun q => ⟨hv, q⟩⟩
/-- the law's box of a coordinates' function -/
def shB (s : Int) (cs : List Cd) (r : Cd → RI) : List Rn := cs.map fun c => shR s (r c)
theorem ltI {n : Nat} {is : List Nat} (h : ∀ i ∈ is, i < n) {ρ : Ev} (e : ρ.length = n) : ∀ i ∈ is, i < ρ.length := fun i hi => by rw [e]; exact h i hi
theorem show_dF {x : Fr2} (h : OkF x) : (dF x).showable = true ∧ (dF x).shown.length ≤ 410 := by
  have := shown_tuple (xs := [.int x.1, .int x.2]) (m := 201) fun y hy => by
    rcases List.mem_cons.mp hy with rfl | hy
    · exact shown_int h.1 (by decide) (by decide)
    · rw [List.mem_singleton.mp hy]; exact shown_int h.2 (by decide) (by decide)
  exact ⟨this.1, Nat.le_trans this.2 (by show 2 * (201 + 2) + 3 ≤ 410; decide)⟩
theorem show_dE : ∀ {e : En}, OkE e → (dE e).showable = true ∧ (dE e).shown.length ≤ 410
  | none, _ => ⟨rfl, by decide⟩
  | some x, h => show_dF h
theorem show_dR {r : Rn} (h : OkR r) : (dR r).showable = true ∧ (dR r).shown.length ≤ 830 := by
  have := shown_tuple (xs := [dE r.1, dE r.2]) (m := 410) fun y hy => by
    rcases List.mem_cons.mp hy with rfl | hy
    · exact show_dE h.1
    · rw [List.mem_singleton.mp hy]; exact show_dE h.2
  exact ⟨this.1, Nat.le_trans this.2 (by show 2 * (410 + 2) + 3 ≤ 830; decide)⟩
theorem show_dB {b : List Rn} (h : OkB b) : (dB b).showable = true ∧ (dB b).shown.length ≤ 100000 := by
  have := shown_tuple (xs := b.map dR) (m := 830) fun y hy => by
    obtain ⟨r, hr, rfl⟩ := List.mem_map.mp hy
    exact show_dR (h.2 r hr)
  have l := h.1
  rw [List.length_map] at this
  exact ⟨this.1, Nat.le_trans this.2 (by omega)⟩
theorem show_dP {p : Nat × Nat} (h : p.1 < 2 ^ 20 ∧ p.2 < 2 ^ 20) : (dP p).showable = true ∧ (dP p).shown.length ≤ 50 := by
  have := shown_tuple (xs := [.int (p.1 : Nat), .int (p.2 : Nat)]) (m := 21) fun y hy => by
    rcases List.mem_cons.mp hy with rfl | hy
    · exact shown_int (k := 20) (by rw [Int.natAbs_natCast]; exact h.1) (by decide) (by decide)
    · rw [List.mem_singleton.mp hy]; exact shown_int (k := 20) (by rw [Int.natAbs_natCast]; exact h.2) (by decide) (by decide)
  exact ⟨this.1, Nat.le_trans this.2 (by show 2 * (21 + 2) + 3 ≤ 50; decide)⟩
theorem show_dPs {es : List (Nat × Nat)} (hl : es.length ≤ 1000) (h : ∀ p ∈ es, p.1 < 2 ^ 20 ∧ p.2 < 2 ^ 20) : (PyData.tuple (es.map dP)).showable = true ∧ (PyData.tuple (es.map dP)).shown.length ≤ 100000 := by
  have := shown_tuple (xs := es.map dP) (m := 50) fun y hy => by
    obtain ⟨r, hr, rfl⟩ := List.mem_map.mp hy
    exact show_dP (h r hr)
  rw [List.length_map] at this
  exact ⟨this.1, Nat.le_trans this.2 (by omega)⟩
theorem mem_zipIdx {cs : List Cd} {q : Cd × Nat} (h : q ∈ cs.zipIdx) : cs[q.2]? = some q.1 := by
  obtain ⟨j, hj⟩ := List.mem_iff_getElem?.mp h
  rw [List.getElem?_zipIdx] at hj
  cases e : cs[j]? with
  | none => rw [e] at hj; cases hj
  | some c =>
    rw [e] at hj
    cases hj
    show cs[0 + j]? = some c
    rw [Nat.zero_add]
    exact e

def ltr (i : Nat) : Str := match i with
  | 0 => "a"
  | 1 => "b"
  | 2 => "c"
  | 3 => "d"
  | 4 => "e"
  | _ => "f"
def F_is_name : FD := fun ds Φ => ∃ i : Nat, ds = [.str (ltr i)] ∧ Φ (.bool true)
theorem len_is_name {ds Φ} (h : F_is_name ds Φ) : ds.length = 1 := by obtain ⟨a, e, _⟩ := h; rw [e]; rfl
-- slots of is_name: 0 value, 1 letter
def ws_is_name : WS :=
  (wSq (wIf (wOr (wNot (wTest (wIsi "str" (wVar 0)))) (wNot (wTest (wChain fLe fLe (wC (.int 1)) (wCall fLen (wCons (wVar 0) wNil)) (wC (.int 5))))))
  (wRet (wC (.bool false)))
  wNx)
  (wRet (wCall fAll (wCons (wFv (wLc (wStrI (wVar 0)) (gN 1) wYes (wOp fInS (wVar 1) (wC (.str "abcdefghijklmnopqrstuvwxyz"))) [1])) wNil))))

theorem ltr_cases (P : Str → Prop) (h0 : P "a") (h1 : P "b") (h2 : P "c") (h3 : P "d") (h4 : P "e") (h5 : P "f") (i : Nat) : P (ltr i) := by
  unfold ltr
  split <;> assumption
theorem one_name (z : Str) (c : Nat) (Φ : PyData → Prop) (hz : z.length = 1) (hs : signsD z = [.str z]) (ho : (!(Builtin.Str.occurrences (Str.ofString "abcdefghijklmnopqrstuvwxyz") z 0 (Str.ofString "abcdefghijklmnopqrstuvwxyz").length 1).isEmpty) = true) (h : Φ (.bool true)) : ws_is_name (retX Φ) (ev0 2 [.str z]) := by
  refine ⟨true, rfl, fun k q => (nomatch q), by omega, ?_⟩
  show (if decide ((1 : Int) ≤ (z.length : Int)) = true then _ else _)
  rw [decide_eq_true (by omega), if_pos rfl]
  show (if (!decide ((z.length : Int) ≤ 5)) = true then _ else _)
  rw [decide_eq_true (by omega), if_neg (by decide : ¬ (!true) = true)]
  dsimp only [wNx]
  refine lc_map (ds := signsD z) (fun _ => .bool true) rfl (fun Ψ q => q) (by rw [hs]; exact (by decide : 1 ≤ 100000)) (fun d hd Ψ q => ?_) ?_
  · rw [hs] at hd
    rw [List.mem_singleton.mp hd]
    refine ⟨(by decide : 1 < 2), ?_⟩
    show Ψ (.bool (!(Builtin.Str.occurrences (Str.ofString "abcdefghijklmnopqrstuvwxyz") z 0 (Str.ofString "abcdefghijklmnopqrstuvwxyz").length 1).isEmpty))
    rw [ho]
    exact q
  · rw [hs]
    exact ⟨[true], rfl, h⟩
theorem sem_is_name (ds : List PyData) (Φ : PyData → Prop) (h : F_is_name ds Φ) : ws_is_name (retX Φ) (ev0 2 ds) := by
  obtain ⟨i, rfl, h⟩ := h
  exact ltr_cases (fun z => ws_is_name (retX Φ) (ev0 2 [.str z])) (one_name _ 0 Φ rfl rfl (by decide +kernel) h) (one_name _ 0 Φ rfl rfl (by decide +kernel) h) (one_name _ 0 Φ rfl rfl (by decide +kernel) h) (one_name _ 0 Φ rfl rfl (by decide +kernel) h) (one_name _ 0 Φ rfl rfl (by decide +kernel) h) (one_name _ 0 Φ rfl rfl (by decide +kernel) h) i

theorem dv_is_name (T : Tx W mg) (cdv : Value) (A : Around) (env : List Env) (s : Shared) (H : Hp) (E : XK) (N0 : Addr → Prop) {f : Addr} (hr : Rg 0 (A.deeper (envOfC "is_name" (defScope s_is_name) s.heap.objs.size f cdv))) :
    PSs (cxOf CX0 P w W.K mg base ["value", "letter"] "is_name" (defScope s_is_name) f cdv A env s H E).nox (defBody s_is_name) (upS ⟨W, Res.none, N0, H⟩ ws_is_name) := by
  have hu : (A.deeper (envOfC "is_name" (defScope s_is_name) s.heap.objs.size f cdv)).units + 65 < cLine := by have := hr.room.un; omega
  have nd := sc_is_name.nd
  exact (dss_cons (ds_if ((dw_or (dt_not (dt_val (de_isi (s := true) rfl (by rfl) T.m_isinstance boot_isinstance (de_var 0) (by rfl) T.m_str boot_str))) (dw_or1 (dt_not (dt_chain op_le op_le od_le od_le (de_int (s := true)) (de_callB (s := true) call_len cd_len (by rfl) T.m_len boot_len (da_cons (de_var 0) (da_nil (s := true)))) (T.c_MOST_LETTERS.rule (s := true) (by rfl))))))).pt (dss_one (ds_ret (de_bl (s := true)))) dss_nil)
  (dss_one (ds_ret (de_callB (s := true) (cr_all rfl) cd_all (by rfl) T.m_all boot_all (da_cons (de_fv (df_lc (own := [("letter", 1)]) rfl nd (di_str (de_var 0)) (blkOk_by (by rfl)) (fun _ _ _ _ _ => (dg_name 1 nd)) (fun _ _ _ _ _ => dts_nil) (fun _ _ _ _ _ => (de_cmp op_in_str (od_inS (s := true)) (de_var 1) (T.c_LETTERS.rule (s := true) (by rfl)) (by with_unfolding_all rfl))))) (da_nil (s := true)))))))
theorem ok_is_name (T : Tx W mg) {f : Addr} {fd : FuncData} (Fn : Fun W.K "is_name" "is_name" s_is_name f fd) : FnG P w W.K mg base CX0 1 f fd ["value"] (spP W 1 F_is_name) :=
  ok_pure Fn sc_is_name (by decide) (fun ds Φ h => len_is_name h) fun cdv A env s H E N0 hr => ⟨ws_is_name, dv_is_name T cdv A env s H E N0 hr, fun ds Φ h => sem_is_name ds Φ h⟩

def namesN (n : Nat) : List PyData := (List.range n).map fun i => .str (ltr i)
def F_is_rising : FD := fun ds Φ => ∃ n : Nat, ds = [.tuple (namesN n)] ∧ n ≤ 6 ∧ Φ (.bool true)
theorem len_is_rising {ds Φ} (h : F_is_rising ds Φ) : ds.length = 1 := by obtain ⟨a, e, _⟩ := h; rw [e]; rfl
-- slots of is_rising: 0 values, 1 one, 2 other
def ws_is_rising : WS :=
  (wRet (wCall fAll (wCons (wFv (wLc (wZip (wCons (wVar 0) (wCons (wSl (wVar 0) (wPart (wC (.int 1))) wNo) wNil))) (gT 2 (gsCons (gN 1) (gsCons (gN 2) gsNil))) wYes (wOp fLt (wVar 1) (wVar 2)) [1, 2])) wNil)))

def ltD : PyData → PyData
  | .tuple [.str a, .str b] => .bool (decide (a.cps.toList < b.cps.toList))
  | _ => .none
theorem ltb (a b : Nat) (ha : a < b) (hb : b ≤ 5) : ltD (pairD (.str (ltr a)) (.str (ltr b))) = .bool true := by
  have : (decide ((ltr a).cps.toList < (ltr b).cps.toList)) = true := by
    match b, hb, a, ha with
    | 1, _, 0, _ => decide +kernel
    | 2, _, 0, _ => decide +kernel
    | 2, _, 1, _ => decide +kernel
    | 3, _, 0, _ => decide +kernel
    | 3, _, 1, _ => decide +kernel
    | 3, _, 2, _ => decide +kernel
    | 4, _, 0, _ => decide +kernel
    | 4, _, 1, _ => decide +kernel
    | 4, _, 2, _ => decide +kernel
    | 4, _, 3, _ => decide +kernel
    | 5, _, 0, _ => decide +kernel
    | 5, _, 1, _ => decide +kernel
    | 5, _, 2, _ => decide +kernel
    | 5, _, 3, _ => decide +kernel
    | 5, _, 4, _ => decide +kernel
  exact congrArg PyData.bool this
theorem sem_is_rising (ds : List PyData) (Φ : PyData → Prop) (h : F_is_rising ds Φ) : ws_is_rising (retX Φ) (ev0 3 ds) := by
  obtain ⟨n, rfl, hn, h⟩ := h
  have ecut : cutG (namesN n) (some 1) none = (namesN n).drop 1 := cutG_some (i := 1)
  refine lc_map (ds := zipD (namesN n) (cutG (namesN n) (some 1) none)) ltD rfl (fun Ψ q => q) ?_ (fun d hd Ψ q => ?_) ?_
  · rw [zipD_len]; unfold namesN; rw [List.length_map, List.length_range]; omega
  · obtain ⟨j, hj, e⟩ := List.getElem_of_mem hd
    rw [zipD_len] at hj
    have l1 : j < (namesN n).length := by omega
    have l2 : j < (cutG (namesN n) (some 1) none).length := by omega
    have e2 := zipD_get (List.getElem?_eq_getElem l1) (List.getElem?_eq_getElem l2)
    rw [List.getElem?_eq_getElem (by rw [zipD_len]; exact hj), e] at e2
    obtain rfl : d = _ := Option.some.inj e2
    have key0 : ∀ x, x ∈ namesN n → ∃ a, x = .str a := by
      intro x hx; unfold namesN at hx; obtain ⟨i, _, e⟩ := List.mem_map.mp hx; exact ⟨_, e.symm⟩
    have key : ∀ x, x ∈ cutG (namesN n) (some 1) none → x ∈ namesN n := by
      rw [ecut]; intro x hx; exact List.mem_of_mem_drop hx
    obtain ⟨a, ha⟩ := key0 _ (List.getElem_mem l1)
    obtain ⟨b, hb⟩ := key0 _ (key _ (List.getElem_mem l2))
    rw [ha, hb] at q ⊢
    exact ⟨rfl, (by decide : 1 < 3), (by decide : 2 < 3), q⟩
  · have e : (zipD (namesN n) (cutG (namesN n) (some 1) none)).map ltD = (List.replicate (n - 1) true).map .bool := by
      rw [ecut]
      match n, hn with
      | 0, _ => rfl
      | 1, _ => rfl
      | 2, _ => exact List.cons_eq_cons.mpr ⟨ltb 0 1 (by decide) (by decide), rfl⟩
      | 3, _ => exact List.cons_eq_cons.mpr ⟨ltb 0 1 (by decide) (by decide), List.cons_eq_cons.mpr ⟨ltb 1 2 (by decide) (by decide), rfl⟩⟩
      | 4, _ => exact List.cons_eq_cons.mpr ⟨ltb 0 1 (by decide) (by decide), List.cons_eq_cons.mpr ⟨ltb 1 2 (by decide) (by decide), List.cons_eq_cons.mpr ⟨ltb 2 3 (by decide) (by decide), rfl⟩⟩⟩
      | 5, _ => exact List.cons_eq_cons.mpr ⟨ltb 0 1 (by decide) (by decide), List.cons_eq_cons.mpr ⟨ltb 1 2 (by decide) (by decide), List.cons_eq_cons.mpr ⟨ltb 2 3 (by decide) (by decide), List.cons_eq_cons.mpr ⟨ltb 3 4 (by decide) (by decide), rfl⟩⟩⟩⟩
      | 6, _ => exact List.cons_eq_cons.mpr ⟨ltb 0 1 (by decide) (by decide), List.cons_eq_cons.mpr ⟨ltb 1 2 (by decide) (by decide), List.cons_eq_cons.mpr ⟨ltb 2 3 (by decide) (by decide), List.cons_eq_cons.mpr ⟨ltb 3 4 (by decide) (by decide), List.cons_eq_cons.mpr ⟨ltb 4 5 (by decide) (by decide), rfl⟩⟩⟩⟩⟩
      | n + 7, hn => omega
    rw [e]
    refine ⟨List.replicate (n - 1) true, rfl, ?_⟩
    rw [show (List.replicate (n - 1) true).all id = true by rw [List.all_eq_true]; intro x hx; exact List.eq_of_mem_replicate hx]
    exact h

theorem dv_is_rising (T : Tx W mg) (cdv : Value) (A : Around) (env : List Env) (s : Shared) (H : Hp) (E : XK) (N0 : Addr → Prop) {f : Addr} (hr : Rg 0 (A.deeper (envOfC "is_rising" (defScope s_is_rising) s.heap.objs.size f cdv))) :
    PSs (cxOf CX0 P w W.K mg base ["values", "one", "other"] "is_rising" (defScope s_is_rising) f cdv A env s H E).nox (defBody s_is_rising) (upS ⟨W, Res.none, N0, H⟩ ws_is_rising) := by
  have hu : (A.deeper (envOfC "is_rising" (defScope s_is_rising) s.heap.objs.size f cdv)).units + 65 < cLine := by have := hr.room.un; omega
  have nd := sc_is_rising.nd
  exact (dss_one (ds_ret (de_callB (s := true) (cr_all rfl) cd_all (by rfl) T.m_all boot_all (da_cons (de_fv (df_lc (own := [("one", 1), ("other", 2)]) rfl nd (di_zip rfl (by rfl) T.m_zip (da_cons (de_var 0) (da_cons (de_sl rfl (de_var 0) (do_some (de_int (s := true))) do_none) (da_nil (s := true))))) (blkOk_by (by rfl)) (fun _ _ _ _ _ => (dg_tup rfl rfl (dgs_cons (dg_name 1 nd) (dgs_cons (dg_name 2 nd) dgs_nil)))) (fun _ _ _ _ _ => dts_nil) (fun _ _ _ _ _ => (de_cmp op_ltU (od_lt (s := true)) (de_var 1) (de_var 2) (nomark _))))) (da_nil (s := true))))))
theorem ok_is_rising (T : Tx W mg) {f : Addr} {fd : FuncData} (Fn : Fun W.K "is_rising" "is_rising" s_is_rising f fd) : FnG P w W.K mg base CX0 1 f fd ["values"] (spP W 1 F_is_rising) :=
  ok_pure Fn sc_is_rising (by decide) (fun ds Φ h => len_is_rising h) fun cdv A env s H E N0 hr => ⟨ws_is_rising, dv_is_rising T cdv A env s H E N0 hr, fun ds Φ h => sem_is_rising ds Φ h⟩

def F_less : FD := fun ds Φ => ∃ a b : Fr2, ds = [dF a, dF b] ∧ OkF a ∧ OkF b ∧ Φ (.bool (ltQ a b))
theorem len_less {ds Φ} (h : F_less ds Φ) : ds.length = 2 := by obtain ⟨a, b, e, _⟩ := h; rw [e]; rfl
-- slots of less: 0 one, 1 other
def ws_less : WS :=
  (wRet (wOp fLt (wOp fMul (wOp fIx (wVar 0) (wC (.int 0))) (wOp fIx (wVar 1) (wC (.int 1)))) (wOp fMul (wOp fIx (wVar 1) (wC (.int 0))) (wOp fIx (wVar 0) (wC (.int 1))))))

theorem sem_less (ds : List PyData) (Φ : PyData → Prop) (h : F_less ds Φ) : ws_less (retX Φ) (ev0 2 ds) := by
  obtain ⟨a, b, rfl, ha, hb, h⟩ := h
  exact ⟨_, rfl, _, rfl, mulw ha.1 hb.2, _, rfl, _, rfl, mulw hb.1 ha.2, h⟩

theorem dv_less (T : Tx W mg) (cdv : Value) (A : Around) (env : List Env) (s : Shared) (H : Hp) (E : XK) (N0 : Addr → Prop) {f : Addr} (hr : Rg 0 (A.deeper (envOfC "less" (defScope s_less) s.heap.objs.size f cdv))) :
    PSs (cxOf CX0 P w W.K mg base ["one", "other"] "less" (defScope s_less) f cdv A env s H E).nox (defBody s_less) (upS ⟨W, Res.none, N0, H⟩ ws_less) := by
  have hu : (A.deeper (envOfC "less" (defScope s_less) s.heap.objs.size f cdv)).units + 65 < cLine := by have := hr.room.un; omega
  have nd := sc_less.nd
  exact (dss_one (ds_ret (de_cmp op_ltU (od_lt (s := true)) (de_op op_mulU (od_mul (s := true)) (de_ix rfl (de_var 0) (de_int (s := true)) (fun _ _ => rfl)) (de_ix rfl (de_var 1) (de_int (s := true)) (fun _ _ => rfl))) (de_op op_mulU (od_mul (s := true)) (de_ix rfl (de_var 1) (de_int (s := true)) (fun _ _ => rfl)) (de_ix rfl (de_var 0) (de_int (s := true)) (fun _ _ => rfl))) (nomark _))))
theorem ok_less (T : Tx W mg) {f : Addr} {fd : FuncData} (Fn : Fun W.K "less" "less" s_less f fd) : FnG P w W.K mg base CX0 1 f fd ["one", "other"] (spP W 2 F_less) :=
  ok_pure Fn sc_less (by decide) (fun ds Φ h => len_less h) fun cdv A env s H E N0 hr => ⟨ws_less, dv_less T cdv A env s H E N0 hr, fun ds Φ h => sem_less ds Φ h⟩

def F_free_box : FD := fun ds Φ => ∃ (xs : List PyData) (y : PyData), ds = [.dict [(.str "names", .tuple xs), (.str "rows", y)]] ∧ 1 ≤ xs.length ∧ xs.length ≤ 100 ∧ Φ (dB (freeB xs.length))
theorem len_free_box {ds Φ} (h : F_free_box ds Φ) : ds.length = 1 := by obtain ⟨a, b, e, _⟩ := h; rw [e]; rfl
-- slots of free_box: 0 system
def ws_free_box : WS :=
  (wRet (wOp fMulT (wTup (wCons (wTup (wCons (wC .none) (wCons (wC .none) wNil))) wNil)) (wCall fLen (wCons (wFld ["names", "rows"] "names" (wVar 0)) wNil))))

theorem sem_free_box (ds : List PyData) (Φ : PyData → Prop) (h : F_free_box ds Φ) : ws_free_box (retX Φ) (ev0 1 ds) := by
  obtain ⟨xs, y, rfl, h1, h2, h⟩ := h
  have fr : (List.replicate ((xs.length : Nat) : Int).toNat [PyData.tuple [PyData.none, PyData.none]]).flatten = (freeB xs.length).map dR := by
    rw [Int.toNat_natCast]
    unfold freeB
    rw [List.map_replicate]
    generalize xs.length = n
    induction n with
    | zero => rfl
    | succ n ih => rw [List.replicate_succ, List.flatten_cons, ih, List.replicate_succ]; rfl
  refine ⟨(by decide : 2 ≤ 100000), (by decide : 1 ≤ 100000), rfl, _, rfl, by omega, by omega, List.cons_ne_nil _ _, (by decide : 1 ≤ 100), ?_⟩
  rw [fr]
  exact h

theorem dv_free_box (T : Tx W mg) (cdv : Value) (A : Around) (env : List Env) (s : Shared) (H : Hp) (E : XK) (N0 : Addr → Prop) {f : Addr} (hr : Rg 0 (A.deeper (envOfC "free_box" (defScope s_free_box) s.heap.objs.size f cdv))) :
    PSs (cxOf CX0 P w W.K mg base ["system"] "free_box" (defScope s_free_box) f cdv A env s H E).nox (defBody s_free_box) (upS ⟨W, Res.none, N0, H⟩ ws_free_box) := by
  have hu : (A.deeper (envOfC "free_box" (defScope s_free_box) s.heap.objs.size f cdv)).units + 65 < cLine := by have := hr.room.un; omega
  have nd := sc_free_box.nd
  exact (dss_one (ds_ret (de_op op_mulT (od_mulT (s := true)) (de_tup (da_cons (de_tup (da_cons (de_non (s := true)) (da_cons (de_non (s := true)) (da_nil (s := true))))) (da_nil (s := true)))) (de_callB (s := true) call_len cd_len (by rfl) T.m_len boot_len (da_cons (de_fld rfl T.cl_names_rows T.na_names (de_var 0)) (da_nil (s := true)))))))
theorem ok_free_box (T : Tx W mg) {f : Addr} {fd : FuncData} (Fn : Fun W.K "free_box" "free_box" s_free_box f fd) : FnG P w W.K mg base CX0 1 f fd ["system"] (spP W 1 F_free_box) :=
  ok_pure Fn sc_free_box (by decide) (fun ds Φ h => len_free_box h) fun cdv A env s H E N0 hr => ⟨ws_free_box, dv_free_box T cdv A env s H E N0 hr, fun ds Φ h => sem_free_box ds Φ h⟩

def ptB (xs : List Fr2) : List Rn := xs.map fun x => (some x, some x)
def F_point_box : FD := fun ds Φ => ∃ xs : List Fr2, ds = [.tuple (xs.map dF)] ∧ xs.length ≤ 100 ∧ Φ (dB (ptB xs))
theorem len_point_box {ds Φ} (h : F_point_box ds Φ) : ds.length = 1 := by obtain ⟨a, e, _⟩ := h; rw [e]; rfl
-- slots of point_box: 0 point, 1 value
def ws_point_box : WS :=
  (wRet (wCall fTuple (wCons (wFv (wLc (wTupI (wVar 0)) (gN 1) wYes (wTup (wCons (wVar 1) (wCons (wVar 1) wNil))) [1])) wNil)))

theorem sem_point_box (ds : List PyData) (Φ : PyData → Prop) (h : F_point_box ds Φ) : ws_point_box (retX Φ) (ev0 2 ds) := by
  obtain ⟨xs, rfl, hl, h⟩ := h
  refine lc_map (ds := xs.map dF) (fun d => .tuple [d, d]) rfl (fun Ψ h => h) (by rw [List.length_map]; omega) (fun d hd Ψ h => ⟨(by decide : 1 < 2), (by decide : 2 ≤ 100000), h⟩) ?_
  have e : (xs.map dF).map (fun d => PyData.tuple [d, d]) = (ptB xs).map dR := by
    unfold ptB; rw [List.map_map, List.map_map]; rfl
  rw [e]
  exact h

theorem dv_point_box (T : Tx W mg) (cdv : Value) (A : Around) (env : List Env) (s : Shared) (H : Hp) (E : XK) (N0 : Addr → Prop) {f : Addr} (hr : Rg 0 (A.deeper (envOfC "point_box" (defScope s_point_box) s.heap.objs.size f cdv))) :
    PSs (cxOf CX0 P w W.K mg base ["point", "value"] "point_box" (defScope s_point_box) f cdv A env s H E).nox (defBody s_point_box) (upS ⟨W, Res.none, N0, H⟩ ws_point_box) := by
  have hu : (A.deeper (envOfC "point_box" (defScope s_point_box) s.heap.objs.size f cdv)).units + 65 < cLine := by have := hr.room.un; omega
  have nd := sc_point_box.nd
  exact (dss_one (ds_ret (de_callT (s := true) call_tuple_of cd_tuple (by rfl) T.m_tuple boot_tuple (da_cons (de_fv (df_lc (own := [("value", 1)]) rfl nd (di_tup rfl (de_var 0)) (blkOk_by (by rfl)) (fun _ _ _ _ _ => (dg_name 1 nd)) (fun _ _ _ _ _ => dts_nil) (fun _ _ _ _ _ => (de_tup (da_cons (de_var 1) (da_cons (de_var 1) (da_nil (s := true)))))))) (da_nil (s := true))))))
theorem ok_point_box (T : Tx W mg) {f : Addr} {fd : FuncData} (Fn : Fun W.K "point_box" "point_box" s_point_box f fd) : FnG P w W.K mg base CX0 1 f fd ["point"] (spP W 1 F_point_box) :=
  ok_pure Fn sc_point_box (by decide) (fun ds Φ h => len_point_box h) fun cdv A env s H E N0 hr => ⟨ws_point_box, dv_point_box T cdv A env s H E N0 hr, fun ds Φ h => sem_point_box ds Φ h⟩

def F_box_ends : FD := fun ds Φ => ∃ b : List Rn, ds = [dB b] ∧ b.length ≤ 100 ∧ Φ (.tuple ((boxEnds b).map dP))
theorem len_box_ends {ds Φ} (h : F_box_ends ds Φ) : ds.length = 1 := by obtain ⟨a, e, _⟩ := h; rw [e]; rfl
-- slots of box_ends: 0 box, 1 at, 2 ends, 3 side
def ws_box_ends : WS :=
  (wRet (wCall fTuple (wCons (wFv (wLc2 (wEnum (wCons (wVar 0) wNil)) (gT 2 (gsCons (gN 1) (gsCons (gN 2) gsNil))) wYes (wTupI (wTup (wCons (wC (.int 0)) (wCons (wC (.int 1)) wNil)))) (gN 3) (wTest (wOp fIsNot (wOp fIx (wVar 2) (wVar 3)) (wC .none))) (wTup (wCons (wVar 1) (wCons (wVar 3) wNil))) [1, 2, 3] [3])) wNil)))

theorem ends1_le (r : Rn) (i : Nat) : (ends1 r i).length ≤ 2 := by
  unfold ends1
  cases r.1 <;> cases r.2 <;> simp
theorem flat_le {f : Rn × Nat → List (Nat × Nat)} (hf : ∀ q, (f q).length ≤ 2) : ∀ xs : List (Rn × Nat), (xs.flatMap f).length ≤ 2 * xs.length
  | [] => by simp
  | x :: xs => by
    rw [List.flatMap_cons, List.length_append, List.length_cons]
    have := hf x
    have := flat_le hf xs
    omega
theorem sem_box_ends (ds : List PyData) (Φ : PyData → Prop) (h : F_box_ends ds Φ) : ws_box_ends (retX Φ) (ev0 4 ds) := by
  obtain ⟨b, rfl, hl, h⟩ := h
  have hz : b.zipIdx.length = b.length := List.length_zipIdx
  refine ⟨rfl, ?_⟩
  refine ⟨fun i acc => acc = ((b.zipIdx.take i).flatMap fun q => ends1 q.1 q.2).map dP, rfl, fun i d acc hd ha _ => ?_, fun acc ha => ?_⟩
  · rw [enumD_map] at hd
    obtain ⟨q, hq, rfl⟩ := map_at hd
    have few : acc.length ≤ 200 := by
      rw [ha, List.length_map]
      have := flat_le (f := fun q => ends1 q.1 q.2) (fun q => ends1_le q.1 q.2) (b.zipIdx.take i)
      rw [List.length_take] at this
      omega
    refine ⟨rfl, (by decide : 1 < 4), (by decide : 2 < 4), rfl, (by decide : 2 ≤ 100000), ?_⟩
    refine ⟨fun j acc1 => acc1 = acc ++ ((if 1 ≤ j ∧ q.1.1.isSome then [(q.2, 0)] else []) ++ (if 2 ≤ j ∧ q.1.2.isSome then [(q.2, 1)] else [])).map dP, by simp, fun j e acc1 he h1 _ => ?_, fun acc1 h1 => ?_⟩
    · have h1 : acc1 = acc ++ ((if 1 ≤ j ∧ q.1.1.isSome then [(q.2, 0)] else []) ++ (if 2 ≤ j ∧ q.1.2.isSome then [(q.2, 1)] else [])).map dP := h1
      match j, he, h1 with
      | 0, he, h1 =>
        obtain rfl : PyData.int 0 = e := by simpa using he
        refine ⟨(by decide : 3 < 4), _, rfl, ?_⟩
        cases e1 : q.1.1 with
        | none =>
          show acc1 = _
          simpa [e1] using h1
        | some x =>
          refine ⟨(by decide : 2 ≤ 100000), ?_, ?_⟩
          · rw [h1]; simp; omega
          · show acc1 ++ [_] = _
            rw [h1]; simp [e1, dP]
      | 1, he, h1 =>
        obtain rfl : PyData.int 1 = e := by simpa using he
        refine ⟨(by decide : 3 < 4), _, rfl, ?_⟩
        cases e1 : q.1.2 with
        | none =>
          show acc1 = _
          simpa [e1] using h1
        | some x =>
          refine ⟨(by decide : 2 ≤ 100000), ?_, ?_⟩
          · rw [h1]; cases q.1.1 <;> simp <;> omega
          · show acc1 ++ [_] = _
            rw [h1]; cases q.1.1 <;> simp [e1, dP]
      | j + 2, he, _ => simp at he
    · have h1 : acc1 = acc ++ ((if 1 ≤ 2 ∧ q.1.1.isSome then [(q.2, 0)] else []) ++ (if 2 ≤ 2 ∧ q.1.2.isSome then [(q.2, 1)] else [])).map dP := h1
      show acc1 = ((b.zipIdx.take (i + 1)).flatMap fun q => ends1 q.1 q.2).map dP
      rw [h1, ha, take_more hq, List.flatMap_append, List.map_append, List.flatMap_cons, List.flatMap_nil, List.append_nil]
      simp [ends1]
  · have e : ((b.zipIdx.take (enumD (b.map dR)).length).flatMap fun q => ends1 q.1 q.2) = boxEnds b := by
      rw [enumD_map, List.length_map, List.take_length]; rfl
    have ha : acc = ((b.zipIdx.take (enumD (b.map dR)).length).flatMap fun q => ends1 q.1 q.2).map dP := ha
    rw [e] at ha
    rw [ha]
    exact h

theorem dv_box_ends (T : Tx W mg) (cdv : Value) (A : Around) (env : List Env) (s : Shared) (H : Hp) (E : XK) (N0 : Addr → Prop) {f : Addr} (hr : Rg 0 (A.deeper (envOfC "box_ends" (defScope s_box_ends) s.heap.objs.size f cdv))) :
    PSs (cxOf CX0 P w W.K mg base ["box", "at", "ends", "side"] "box_ends" (defScope s_box_ends) f cdv A env s H E).nox (defBody s_box_ends) (upS ⟨W, Res.none, N0, H⟩ ws_box_ends) := by
  have hu : (A.deeper (envOfC "box_ends" (defScope s_box_ends) s.heap.objs.size f cdv)).units + 65 < cLine := by have := hr.room.un; omega
  have nd := sc_box_ends.nd
  exact (dss_one (ds_ret (de_callT (s := true) call_tuple_of cd_tuple (by rfl) T.m_tuple boot_tuple (da_cons (de_fv (df_lc2 (own := [("at", 1), ("ends", 2), ("side", 3)]) (vs1 := [3]) rfl nd (di_enum rfl (by rfl) T.m_enumerate (da_cons (de_var 0) (da_nil (s := true)))) (blkOk_by (by rfl)) (fun _ _ _ _ _ => (dg_tup rfl rfl (dgs_cons (dg_name 1 nd) (dgs_cons (dg_name 2 nd) dgs_nil)))) (fun _ _ _ _ _ => dts_nil) (fun _ _ _ _ _ => (di_tup rfl (de_tup (da_cons (de_int (s := true)) (da_cons (de_int (s := true)) (da_nil (s := true))))))) (fun _ _ _ _ _ => (dg_name 3 nd)) (fun _ _ _ _ _ => (dts_one (dt_cmp op_isnotU od_isnot (de_ix rfl (de_var 2) (de_var 3) (fun _ _ => rfl)) (de_non (s := true)) (nomark _)))) (fun _ _ _ _ _ => (de_tup (da_cons (de_var 1) (da_cons (de_var 3) (da_nil (s := true)))))))) (da_nil (s := true))))))
theorem ok_box_ends (T : Tx W mg) {f : Addr} {fd : FuncData} (Fn : Fun W.K "box_ends" "box_ends" s_box_ends f fd) : FnG P w W.K mg base CX0 1 f fd ["box"] (spP W 1 F_box_ends) :=
  ok_pure Fn sc_box_ends (by decide) (fun ds Φ h => len_box_ends h) fun cdv A env s H E N0 hr => ⟨ws_box_ends, dv_box_ends T cdv A env s H E N0 hr, fun ds Φ h => sem_box_ends ds Φ h⟩

def F_only_ends : FD := fun ds Φ => ∃ (b : List Rn) (es : List (Nat × Nat)), ds = [dB b, .tuple (es.map dP)] ∧ b.length ≤ 100 ∧ Φ (dB (onlyEnds b es))
theorem len_only_ends {ds Φ} (h : F_only_ends ds Φ) : ds.length = 2 := by obtain ⟨a, b, e, _⟩ := h; rw [e]; rfl
-- slots of only_ends: 0 box, 1 ends, 2 kept, 3 at, 4 low, 5 high
def ws_only_ends : WS :=
  (wSq (wFst 2 (wFl wNil))
  (wSq (wFor (wEnum (wCons (wVar 0) wNil)) (gT 2 (gsCons (gN 3) (gsCons (gT 2 (gsCons (gN 4) (gsCons (gN 5) gsNil))) gsNil)))
  (wApp 2 (wTup (wCons (wIfE (wTest (wOp fIn (wTup (wCons (wVar 3) (wCons (wC (.int 0)) wNil))) (wVar 1))) (wVar 4) (wC .none)) (wCons (wIfE (wTest (wOp fIn (wTup (wCons (wVar 3) (wCons (wC (.int 1)) wNil))) (wVar 1))) (wVar 5) (wC .none)) wNil)))))
  (wFrz 2
  (wRet (wCall fTuple (wCons (wVar 2) wNil))))))

theorem sem_only_ends (ds : List PyData) (Φ : PyData → Prop) (h : F_only_ends ds Φ) : ws_only_ends (retX Φ) (ev0 6 ds) := by
  obtain ⟨b, es, rfl, hl, h⟩ := h
  have hz : b.zipIdx.length = b.length := List.length_zipIdx
  refine ⟨Nat.zero_le _, ?_⟩
  dsimp only
  refine sq (for_all (ds := enumD (b.map dR)) (fun i ρ => ∃ x y z, ρ = [.d (dB b), .d (.tuple (es.map dP)), .o (((b.zipIdx.take i).map (only1 es)).map dR), x, y, z]) (fun Ψ h => h) ⟨_, _, _, rfl⟩ (fun i d ρ2 hd hj => ?_) fun ρ2 hj => ?_)
  · obtain ⟨x, y, z, rfl⟩ := hj
    rw [enumD_map] at hd
    obtain ⟨q, hq, rfl⟩ := map_at hd
    have few : (((b.zipIdx.take i).map (only1 es)).map dR).length < 100000 := by
      rw [List.length_map, List.length_map, List.length_take]; omega
    refine ⟨rfl, (by decide : 3 < 6), rfl, (by decide : 4 < 6), (by decide : 5 < 6), (by decide : 2 ≤ 100000), ?_⟩
    refine ⟨fit_of (fit_dP (q.2, 0)), fit_of (fit_dPs es), ?_⟩
    have m0 := memP (q.2, 0) es
    have m1 := memP (q.2, 1) es
    have fin : ∃ x y z, ([.d (dB b), .d (.tuple (es.map dP)), .o (((b.zipIdx.take i).map (only1 es)).map dR ++ [dR (only1 es q)]), .d (.int (q.2 : Nat)), .d (dE q.1.1), .d (dE q.1.2)] : Ev) = [.d (dB b), .d (.tuple (es.map dP)), .o (((b.zipIdx.take (i + 1)).map (only1 es)).map dR), x, y, z] :=
      ⟨.d (.int (q.2 : Nat)), .d (dE q.1.1), .d (dE q.1.2), by rw [take_more hq, List.map_append, List.map_append]; rfl⟩
    unfold only1 at fin
    have e0 : memD (.tuple [.int (q.2 : Nat), .int 0]) (es.map dP) = memD (dP (q.2, 0)) (es.map dP) := rfl
    have e1 : memD (.tuple [.int (q.2 : Nat), .int 1]) (es.map dP) = memD (dP (q.2, 1)) (es.map dP) := rfl
    rw [e0, m0]
    by_cases c0 : (q.2, 0) ∈ es
    · rw [if_pos c0] at fin
      rw [decide_eq_true c0]
      refine ⟨(by decide : 2 ≤ 100000), fit_of (fit_dP (q.2, 1)), fit_of (fit_dPs es), ?_⟩
      rw [e1, m1]
      by_cases c1 : (q.2, 1) ∈ es
      · rw [if_pos c1] at fin
        rw [decide_eq_true c1]
        exact ⟨(by decide : 2 ≤ 100000), few, fin⟩
      · rw [if_neg c1] at fin
        rw [decide_eq_false c1]
        exact ⟨(by decide : 2 ≤ 100000), few, fin⟩
    · rw [if_neg c0] at fin
      rw [decide_eq_false c0]
      refine ⟨(by decide : 2 ≤ 100000), fit_of (fit_dP (q.2, 1)), fit_of (fit_dPs es), ?_⟩
      rw [e1, m1]
      by_cases c1 : (q.2, 1) ∈ es
      · rw [if_pos c1] at fin
        rw [decide_eq_true c1]
        exact ⟨(by decide : 2 ≤ 100000), few, fin⟩
      · rw [if_neg c1] at fin
        rw [decide_eq_false c1]
        exact ⟨(by decide : 2 ≤ 100000), few, fin⟩
  · obtain ⟨x, y, z, rfl⟩ := hj
    have e : ((b.zipIdx.take (enumD (b.map dR)).length).map (only1 es)) = onlyEnds b es := by
      rw [enumD_map, List.length_map, List.take_length]; rfl
    rw [e]
    exact h

theorem dv_only_ends (T : Tx W mg) (cdv : Value) (A : Around) (env : List Env) (s : Shared) (H : Hp) (E : XK) (N0 : Addr → Prop) {f : Addr} (hr : Rg 0 (A.deeper (envOfC "only_ends" (defScope s_only_ends) s.heap.objs.size f cdv))) :
    PSs (cxOf CX0 P w W.K mg base ["box", "ends", "kept", "at", "low", "high"] "only_ends" (defScope s_only_ends) f cdv A env s H E).nox (defBody s_only_ends) (upS ⟨W, Res.none, N0, H⟩ ws_only_ends) := by
  have hu : (A.deeper (envOfC "only_ends" (defScope s_only_ends) s.heap.objs.size f cdv)).units + 65 < cLine := by have := hr.room.un; omega
  have nd := sc_only_ends.nd
  exact (dss_cons (ds_fst 2 nd (df_lst (da_nil (s := true))))
  (dss_cons (ds_for PassesOwn.never rfl (di_enum rfl (by rfl) T.m_enumerate (da_cons (de_var 0) (da_nil (s := true)))) (dg_tup rfl rfl (dgs_cons (dg_name 3 nd) (dgs_cons (dg_tup rfl rfl (dgs_cons (dg_name 4 nd) (dgs_cons (dg_name 5 nd) dgs_nil))) dgs_nil))) (dss_one (ds_app 2 (de_tup (da_cons (de_ife (dt_cmp (op_inU hu) od_in (de_tup (da_cons (de_var 3) (da_cons (de_int (s := true)) (da_nil (s := true))))) (de_var 1) (by with_unfolding_all rfl)) (de_var 4) (de_non (s := true))) (da_cons (de_ife (dt_cmp (op_inU hu) od_in (de_tup (da_cons (de_var 3) (da_cons (de_int (s := true)) (da_nil (s := true))))) (de_var 1) (by with_unfolding_all rfl)) (de_var 5) (de_non (s := true))) (da_nil (s := true))))))))
  (dss_frz 2 (dss_one (ds_ret (de_callT (s := true) call_tuple_of cd_tuple (by rfl) T.m_tuple boot_tuple (da_cons (de_var 2) (da_nil (s := true)))))))))
theorem ok_only_ends (T : Tx W mg) {f : Addr} {fd : FuncData} (Fn : Fun W.K "only_ends" "only_ends" s_only_ends f fd) : FnG P w W.K mg base CX0 1 f fd ["box", "ends"] (spP W 2 F_only_ends) :=
  ok_pure Fn sc_only_ends (by decide) (fun ds Φ h => len_only_ends h) fun cdv A env s H E N0 hr => ⟨ws_only_ends, dv_only_ends T cdv A env s H E N0 hr, fun ds Φ h => sem_only_ends ds Φ h⟩

def F_with_range : FD := fun ds Φ => ∃ (b : List Rn) (i : Nat) (r : Rn), ds = [dB b, .int (i : Nat), dR r] ∧ b.length ≤ 100 ∧ i < b.length ∧ Φ (dB (b.set i r))
theorem len_with_range {ds Φ} (h : F_with_range ds Φ) : ds.length = 3 := by obtain ⟨a, b, c, e, _⟩ := h; rw [e]; rfl
-- slots of with_range: 0 box, 1 at, 2 ends
def ws_with_range : WS :=
  (wRet (wTup (wStar (wSl (wVar 0) wNo (wPart (wVar 1))) (wCons (wVar 2) (wStar (wSl (wVar 0) (wPart (wOp fAdd (wVar 1) (wC (.int 1)))) wNo) wNil)))))

theorem sem_with_range (ds : List PyData) (Φ : PyData → Prop) (h : F_with_range ds Φ) : ws_with_range (retX Φ) (ev0 3 ds) := by
  obtain ⟨b, i, r, rfl, hl, hi, h⟩ := h
  have e0 : (b.map dR).length = b.length := List.length_map _
  have e1 : cutG (b.map dR) none (some (i : Int)) = (b.take i).map dR := by rw [cutG_none (by rw [e0]; omega), List.map_take]
  have e2 : cutG (b.map dR) (some ((i : Int) + 1)) none = (b.drop (i + 1)).map dR := by
    rw [show ((i : Int) + 1) = ((i + 1 : Nat) : Int) from by omega, cutG_some, List.map_drop]
  have e3 : cutG (b.map dR) none (some (i : Int)) ++ (dR r :: (cutG (b.map dR) (some ((i : Int) + 1)) none ++ [])) = (b.set i r).map dR := by
    rw [e1, e2, List.append_nil, List.set_eq_take_append_cons_drop, if_pos hi, List.map_append, List.map_cons]
  show (cutG (b.map dR) none (some (i : Int)) ++ (dR r :: (cutG (b.map dR) (some ((i : Int) + 1)) none ++ []))).length ≤ 100000 ∧ Φ (.tuple (cutG (b.map dR) none (some (i : Int)) ++ (dR r :: (cutG (b.map dR) (some ((i : Int) + 1)) none ++ []))))
  rw [e3]
  refine ⟨?_, h⟩
  rw [List.length_map, List.length_set]
  omega

theorem dv_with_range (T : Tx W mg) (cdv : Value) (A : Around) (env : List Env) (s : Shared) (H : Hp) (E : XK) (N0 : Addr → Prop) {f : Addr} (hr : Rg 0 (A.deeper (envOfC "with_range" (defScope s_with_range) s.heap.objs.size f cdv))) :
    PSs (cxOf CX0 P w W.K mg base ["box", "at", "ends"] "with_range" (defScope s_with_range) f cdv A env s H E).nox (defBody s_with_range) (upS ⟨W, Res.none, N0, H⟩ ws_with_range) := by
  have hu : (A.deeper (envOfC "with_range" (defScope s_with_range) s.heap.objs.size f cdv)).units + 65 < cLine := by have := hr.room.un; omega
  have nd := sc_with_range.nd
  exact (dss_one (ds_ret (de_tup (da_star rfl (de_sl rfl (de_var 0) do_none (do_some (de_var 1))) (da_cons (de_var 2) (da_star rfl (de_sl rfl (de_var 0) (do_some (de_op op_addU (od_add (s := true)) (de_var 1) (de_int (s := true)))) do_none) (da_nil (s := true))))))))
theorem ok_with_range (T : Tx W mg) {f : Addr} {fd : FuncData} (Fn : Fun W.K "with_range" "with_range" s_with_range f fd) : FnG P w W.K mg base CX0 1 f fd ["box", "at", "ends"] (spP W 3 F_with_range) :=
  ok_pure Fn sc_with_range (by decide) (fun ds Φ h => len_with_range h) fun cdv A env s H E N0 hr => ⟨ws_with_range, dv_with_range T cdv A env s H E N0 hr, fun ds Φ h => sem_with_range ds Φ h⟩

def F__law_lowest : FD := fun ds Φ => ∃ v s : Int, ds = [.int v, .int s] ∧ Scl s ∧ Φ (dF (low v s))
theorem len__law_lowest {ds Φ} (h : F__law_lowest ds Φ) : ds.length = 2 := by obtain ⟨a, b, e, _⟩ := h; rw [e]; rfl
-- slots of _law_lowest: 0 _law_over, 1 _law_under, 2 _law_one, 3 _law_other
def ws__law_lowest : WS :=
  (wSq (wPars [2, 3] (wEd (wCall fAbs (wCons (wVar 0) wNil)) (wEd (wCall fAbs (wCons (wVar 1) wNil)) wEn)))
  (wSq (wWhile (wTest (wOp fGt (wVar 3) (wC (.int 0))))
  (wPars [2, 3] (wEd (wVar 3) (wEd (wOp fMod (wCall fInt (wCons (wVar 2) wNil)) (wVar 3)) wEn))))
  (wSq (wSet 2 (wIfE (wTest (wOp fGt (wVar 1) (wC (.int 0)))) (wVar 2) (wNeg (wVar 2))))
  (wRet (wTup (wCons (wOp fDiv (wVar 0) (wVar 2)) (wCons (wOp fDiv (wVar 1) (wVar 2)) wNil)))))))

theorem abs_nat (i : Int) : (if i < 0 then -i else i) = ((i.natAbs : Nat) : Int) := by split <;> omega
theorem sem__law_lowest (ds : List PyData) (Φ : PyData → Prop) (h : F__law_lowest ds Φ) : ws__law_lowest (retX Φ) (ev0 4 ds) := by
  obtain ⟨v, s, rfl, hs, h⟩ := h
  have h1 := hs.1
  have h2 := hs.2
  refine ⟨rfl, ⟨(by decide : 2 ≤ 100000), fun i hi => ?_⟩, ?_⟩
  · have : i = 2 ∨ i = 3 := by simpa using hi
    show i < 4
    omega
  dsimp only
  refine sq ⟨fun m ρ => ∃ a b : Nat, ρ = [.d (.int v), .d (.int s), .d (.int (a : Nat)), .d (.int (b : Nat))] ∧ Nat.gcd a b = Nat.gcd v.natAbs s.natAbs ∧ m = b, ⟨s.natAbs, v.natAbs, s.natAbs, ?_, rfl, rfl⟩, fun m ρ2 hj => ?_⟩
  · rw [← abs_nat v, ← abs_nat s]; rfl
  · obtain ⟨a, b, rfl, hg, hm⟩ := hj
    by_cases hb : (0 : Int) < (b : Nat)
    · show (if decide ((0 : Int) < (b : Nat)) = true then _ else _)
      rw [decide_eq_true hb, if_pos rfl]
      refine ⟨by omega, rfl, ⟨(by decide : 2 ≤ 100000), fun i hi => ?_⟩, ?_⟩
      · have : i = 2 ∨ i = 3 := by simpa using hi
        show i < 4
        omega
      · refine ⟨a % b, by rw [hm]; exact Nat.mod_lt _ (by omega), b, a % b, ?_, ?_, rfl⟩
        · have e : Int.fmod (a : Int) (b : Int) = ((a % b : Nat) : Int) := by
            rw [Int.fmod_eq_emod_of_nonneg _ (by omega)]
            rfl
          rw [← e]
          rfl
        · rw [← hg, Nat.gcd_comm b, ← Nat.gcd_rec, Nat.gcd_comm]
    · show (if decide ((0 : Int) < (b : Nat)) = true then _ else _)
      rw [decide_eq_false hb, if_neg Bool.false_ne_true]
      obtain rfl : b = 0 := by omega
      rw [Nat.gcd_zero_right] at hg
      subst hg
      have e1 : decide ((0 : Int) < s) = true := decide_eq_true h1
      have gp : 0 < gg v s := gg_pos h1
      have gl : gg v s ≤ s := by
        unfold gg
        have : Nat.gcd v.natAbs s.natAbs ≤ s.natAbs := Nat.gcd_le_right _ (by omega)
        omega
      have c : (gg v s ≠ 0 ∧ (gg v s).natAbs < 1073741824) ∨ (0 < gg v s ∧ (gg v s).natAbs.log2 < 9000) := .inl ⟨by omega, by omega⟩
      show (if decide ((0 : Int) < s) = true then _ else _)
      rw [e1, if_pos rfl]
      exact ⟨c, c, (by decide : 2 ≤ 100000), h⟩

theorem dv__law_lowest (T : Tx W mg) (cdv : Value) (A : Around) (env : List Env) (s : Shared) (H : Hp) (E : XK) (N0 : Addr → Prop) {f : Addr} (hr : Rg 0 (A.deeper (envOfC "_law_lowest" (defScope s__law_lowest) s.heap.objs.size f cdv))) :
    PSs (cxOf CX0 P w W.K mg base ["_law_over", "_law_under", "_law_one", "_law_other"] "_law_lowest" (defScope s__law_lowest) f cdv A env s H E).nox (defBody s__law_lowest) (upS ⟨W, Res.none, N0, H⟩ ws__law_lowest) := by
  have hu : (A.deeper (envOfC "_law_lowest" (defScope s__law_lowest) s.heap.objs.size f cdv)).units + 65 < cLine := by have := hr.room.un; omega
  have nd := sc__law_lowest.nd
  exact (dss_cons (ds_par2 2 3 rfl nd (ea_d (de_callB (s := true) call_abs cd_abs (by rfl) T.m_abs boot_abs (da_cons (de_var 0) (da_nil (s := true)))) (ea_d (de_callB (s := true) call_abs cd_abs (by rfl) T.m_abs boot_abs (da_cons (de_var 1) (da_nil (s := true)))) ea_nil)))
  (dss_cons (ds_while PassesOwn.never (dt_cmp op_gt od_gt (de_var 3) (de_int (s := true)) (nomark _)) (dss_one (ds_par2 2 3 rfl nd (ea_d (de_var 3) (ea_d (de_op op_modN (od_mod (s := true)) (de_callT (s := true) call_int1 cd_int (by rfl) T.m_int boot_int (da_cons (de_var 2) (da_nil (s := true)))) (de_var 3)) ea_nil)))))
  (dss_cons (ds_set 2 nd (de_ife (dt_cmp op_gt od_gt (de_var 1) (de_int (s := true)) (nomark _)) (de_var 2) (de_neg (de_var 2))))
  (dss_one (ds_ret (de_tup (da_cons (de_op op_divU (od_div (s := true)) (de_var 0) (de_var 2)) (da_cons (de_op op_divU (od_div (s := true)) (de_var 1) (de_var 2)) (da_nil (s := true))))))))))
theorem ok__law_lowest (T : Tx W mg) {f : Addr} {fd : FuncData} (Fn : Fun W.K "_law_lowest" "_law_lowest" s__law_lowest f fd) : FnG P w W.K mg base CX0 1 f fd ["_law_over", "_law_under"] (spP W 2 F__law_lowest) :=
  ok_pure Fn sc__law_lowest (by decide) (fun ds Φ h => len__law_lowest h) fun cdv A env s H E N0 hr => ⟨ws__law_lowest, dv__law_lowest T cdv A env s H E N0 hr, fun ds Φ h => sem__law_lowest ds Φ h⟩

def F__law_has : FD := fun ds Φ => ∃ (r : RI) (v : Int), ds = [dI r, .int v] ∧ Φ (.bool (has1 r v))
theorem len__law_has {ds Φ} (h : F__law_has ds Φ) : ds.length = 2 := by obtain ⟨a, b, e, _⟩ := h; rw [e]; rfl
-- slots of _law_has: 0 _law_ends, 1 _law_value
def ws__law_has : WS :=
  (wRet (wAndV (wOrV (wOp fIs (wOp fIx (wVar 0) (wC (.int 0))) (wC .none)) (wOp fLe (wOp fIx (wVar 0) (wC (.int 0))) (wVar 1))) (wOrV (wOp fIs (wOp fIx (wVar 0) (wC (.int 1))) (wC .none)) (wOp fLe (wVar 1) (wOp fIx (wVar 0) (wC (.int 1)))))))

theorem sem__law_has (ds : List PyData) (Φ : PyData → Prop) (h : F__law_has ds Φ) : ws__law_has (retX Φ) (ev0 2 ds) := by
  obtain ⟨⟨l, u⟩, v, rfl, h⟩ := h
  refine ⟨_, rfl, ?_⟩
  have e0 : has1 (l, u) v = (loHas l v && hiHas u v) := rfl
  rw [e0] at h
  have hi : ∀ Ψ : PyData → Prop, Ψ (.bool (hiHas u v)) → (wOrV (wOp fIs (wOp fIx (wVar 0) (wC (.int 1))) (wC .none)) (wOp fLe (wVar 1) (wOp fIx (wVar 0) (wC (.int 1))))) (ev0 2 [dI (l, u), .int v]) Ψ := fun Ψ q => by
    refine ⟨_, rfl, ?_⟩
    cases u with
    | none => exact q
    | some u => exact ⟨_, rfl, q⟩
  cases l with
  | none => exact hi _ h
  | some l =>
    refine ⟨_, rfl, ?_⟩
    have e1 : loHas (some l) v = decide (l ≤ v) := rfl
    rw [e1] at h
    show (if decide (l ≤ v) = true then _ else _)
    cases e : decide (l ≤ v) with
    | false =>
      rw [if_neg Bool.false_ne_true]
      rw [e] at h
      exact h
    | true =>
      rw [if_pos rfl]
      rw [e] at h
      exact hi _ h

theorem dv__law_has (T : Tx W mg) (cdv : Value) (A : Around) (env : List Env) (s : Shared) (H : Hp) (E : XK) (N0 : Addr → Prop) {f : Addr} (hr : Rg 0 (A.deeper (envOfC "_law_has" (defScope s__law_has) s.heap.objs.size f cdv))) :
    PSs (cxOf CX0 P w W.K mg base ["_law_ends", "_law_value"] "_law_has" (defScope s__law_has) f cdv A env s H E).nox (defBody s__law_has) (upS ⟨W, Res.none, N0, H⟩ ws__law_has) := by
  have hu : (A.deeper (envOfC "_law_has" (defScope s__law_has) s.heap.objs.size f cdv)).units + 65 < cLine := by have := hr.room.un; omega
  have nd := sc__law_has.nd
  exact (dss_one (ds_ret (de_and (de_or (de_cmp op_isU (od_is (s := true)) (de_ix rfl (de_var 0) (de_int (s := true)) (fun _ _ => rfl)) (de_non (s := true)) (nomark _)) (de_one (de_cmp op_le (od_le (s := true)) (de_ix rfl (de_var 0) (de_int (s := true)) (fun _ _ => rfl)) (de_var 1) (nomark _)))) (de_one (de_or (de_cmp op_isU (od_is (s := true)) (de_ix rfl (de_var 0) (de_int (s := true)) (fun _ _ => rfl)) (de_non (s := true)) (nomark _)) (de_one (de_cmp op_le (od_le (s := true)) (de_var 1) (de_ix rfl (de_var 0) (de_int (s := true)) (fun _ _ => rfl)) (nomark _))))))))
theorem ok__law_has (T : Tx W mg) {f : Addr} {fd : FuncData} (Fn : Fun W.K "_law_has" "_law_has" s__law_has f fd) : FnG P w W.K mg base CX0 1 f fd ["_law_ends", "_law_value"] (spP W 2 F__law_has) :=
  ok_pure Fn sc__law_has (by decide) (fun ds Φ h => len__law_has h) fun cdv A env s H E N0 hr => ⟨ws__law_has, dv__law_has T cdv A env s H E N0 hr, fun ds Φ h => sem__law_has ds Φ h⟩

def F__law_tests : FD := fun ds Φ => ∃ ks : List Int, ds = [dInts ks] ∧ ks.length ≤ 100 ∧ ∀ ms : List Int, ms.Pairwise (· < ·) → (∀ k, k ∈ ms ↔ (k = -10 ^ 20 ∨ k = 10 ^ 20 ∨ ∃ x ∈ ks, k = x - 1 ∨ k = x ∨ k = x + 1)) → Φ (dInts ms)
theorem len__law_tests {ds Φ} (h : F__law_tests ds Φ) : ds.length = 1 := by obtain ⟨a, e, _⟩ := h; rw [e]; rfl
-- slots of _law_tests: 0 _law_some, 1 _law_found, 2 _law_one
def ws__law_tests : WS :=
  (wSq (wSet 1 (wLst (wCons (wNeg (wOp fPow (wC (.int 10)) (wC (.int 20)))) (wCons (wOp fPow (wC (.int 10)) (wC (.int 20))) wNil))))
  (wSq (wFor (wListI (wVar 0)) (gN 2)
  (wSet 1 (wOp fAdd (wVar 1) (wLst (wCons (wOp fSub (wVar 2) (wC (.int 1))) (wCons (wVar 2) (wCons (wOp fAdd (wVar 2) (wC (.int 1))) wNil)))))))
  (wRet (wSortSet (wVar 1)))))

def around (ks : List Int) : List Int := ks.flatMap fun x => [x - 1, x, x + 1]
theorem around_len (ks : List Int) : (around ks).length = 3 * ks.length := by
  unfold around
  induction ks with
  | nil => rfl
  | cons k ks ih => rw [List.flatMap_cons, List.length_append, ih, List.length_cons]; simp; omega
theorem sem__law_tests (ds : List PyData) (Φ : PyData → Prop) (h : F__law_tests ds Φ) : ws__law_tests (retX Φ) (ev0 3 ds) := by
  obtain ⟨ks, rfl, hl, h⟩ := h
  refine ⟨⟨by decide, by decide, by decide⟩, ⟨by decide, by decide, by decide⟩, (by decide : 2 ≤ 100000), ?_⟩
  dsimp only
  refine sq (for_all (ds := ks.map .int) (fun i ρ => ∃ z, ρ = [.d (dInts ks), .d (dInts ([-10 ^ 20, 10 ^ 20] ++ around (ks.take i))), z]) (fun Ψ h => h) ⟨_, rfl⟩ (fun i d ρ2 hd hj => ?_) fun ρ2 hj => ?_)
  · obtain ⟨z, rfl⟩ := hj
    obtain ⟨x, hx, rfl⟩ := map_at hd
    refine ⟨(by decide : 2 < 3), (by decide : 3 ≤ 100000), ?_, .d (.int x), ?_⟩
    · have l1 := around_len (ks.take i)
      have l2 : (ks.take i).length ≤ 100 := by rw [List.length_take]; omega
      show ((([-10 ^ 20, 10 ^ 20] ++ around (ks.take i) : List Int).map PyData.int).length + 3 ≤ 100000)
      rw [List.length_map, List.length_append, l1]
      simp
      omega
    · have e : ([-10 ^ 20, 10 ^ 20] ++ around (ks.take i) : List Int).map PyData.int ++ [.int (x - 1), .int x, .int (x + 1)] = ([-10 ^ 20, 10 ^ 20] ++ around (ks.take (i + 1)) : List Int).map PyData.int := by
        rw [take_more hx]
        unfold around
        rw [List.flatMap_append, List.map_append, List.map_append, List.map_append]
        simp
      show [Ent.d (dInts ks), .d (.list (([-10 ^ 20, 10 ^ 20] ++ around (ks.take i) : List Int).map PyData.int ++ [.int (x - 1), .int x, .int (x + 1)])), .d (.int x)] = _
      rw [e]
      rfl
  · obtain ⟨z, rfl⟩ := hj
    rw [List.length_map, List.take_length]
    refine ⟨[-10 ^ 20, 10 ^ 20] ++ around ks, rfl, ?_, fun ms h1 h2 => h ms h1 fun k => ?_⟩
    · rw [List.length_append, around_len]; simp; omega
    · rw [h2]
      unfold around
      simp only [List.mem_append, List.mem_cons, List.not_mem_nil, or_false, List.mem_flatMap]
      constructor
      · rintro ((e | e) | ⟨x, hx, e⟩)
        · exact .inl e
        · exact .inr (.inl e)
        · exact .inr (.inr ⟨x, hx, e⟩)
      · rintro (e | e | ⟨x, hx, e⟩)
        · exact .inl (.inl e)
        · exact .inl (.inr e)
        · exact .inr ⟨x, hx, e⟩

theorem dv__law_tests (T : Tx W mg) (cdv : Value) (A : Around) (env : List Env) (s : Shared) (H : Hp) (E : XK) (N0 : Addr → Prop) {f : Addr} (hr : Rg 0 (A.deeper (envOfC "_law_tests" (defScope s__law_tests) s.heap.objs.size f cdv))) :
    PSs (cxOf CX0 P w W.K mg base ["_law_some", "_law_found", "_law_one"] "_law_tests" (defScope s__law_tests) f cdv A env s H E).nox (defBody s__law_tests) (upS ⟨W, Res.none, N0, H⟩ ws__law_tests) := by
  have hu : (A.deeper (envOfC "_law_tests" (defScope s__law_tests) s.heap.objs.size f cdv)).units + 65 < cLine := by have := hr.room.un; omega
  have nd := sc__law_tests.nd
  exact (dss_cons (ds_set 1 nd (de_lst (da_cons (de_neg (de_op op_pow (od_pow (s := true)) (de_int (s := true)) (de_int (s := true)))) (da_cons (de_op op_pow (od_pow (s := true)) (de_int (s := true)) (de_int (s := true))) (da_nil (s := true))))))
  (dss_cons (ds_for PassesOwn.never rfl (di_list rfl (de_var 0)) (dg_name 2 nd) (dss_one (ds_set 1 nd (de_op op_addU (od_add (s := true)) (de_var 1) (de_lst (da_cons (de_op op_sub (od_sub (s := true)) (de_var 2) (de_int (s := true))) (da_cons (de_var 2) (da_cons (de_op op_addU (od_add (s := true)) (de_var 2) (de_int (s := true))) (da_nil (s := true))))))))))
  (dss_one (ds_ret (de_sortSet rfl rfl (by rfl) T.m_sorted (by rfl) T.m_set (de_var 1))))))
theorem ok__law_tests (T : Tx W mg) {f : Addr} {fd : FuncData} (Fn : Fun W.K "_law_tests" "_law_tests" s__law_tests f fd) : FnG P w W.K mg base CX0 1 f fd ["_law_some"] (spP W 1 F__law_tests) :=
  ok_pure Fn sc__law_tests (by decide) (fun ds Φ h => len__law_tests h) fun cdv A env s H E N0 hr => ⟨ws__law_tests, dv__law_tests T cdv A env s H E N0 hr, fun ds Φ h => sem__law_tests ds Φ h⟩

def F__law_is_end : FD := fun ds Φ => ∃ (e : En) (fs : List Fr2), ds = [dE e, .list (fs.map dF)] ∧ Φ (.bool (isEnd e fs))
theorem len__law_is_end {ds Φ} (h : F__law_is_end ds Φ) : ds.length = 2 := by obtain ⟨a, b, e, _⟩ := h; rw [e]; rfl
-- slots of _law_is_end: 0 _law_end_here, 1 _law_ends, 2 _law_part
def ws__law_is_end : WS :=
  (wSq (wIf (wTest (wOp fIs (wVar 0) (wC .none)))
  (wRet (wC (.bool true)))
  wNx)
  (wRet (wAndV (wIsi "tuple" (wVar 0)) (wAndV (wOp fIn (wVar 0) (wVar 1)) (wNotV (wCall fAny (wCons (wFv (wLc (wTupI (wVar 0)) (gN 2) wYes (wIsi "bool" (wVar 2)) [2])) wNil)))))))

theorem sem__law_is_end (ds : List PyData) (Φ : PyData → Prop) (h : F__law_is_end ds Φ) : ws__law_is_end (retX Φ) (ev0 3 ds) := by
  obtain ⟨e, fs, rfl, h⟩ := h
  cases e with
  | none => exact h
  | some x =>
    refine ⟨true, rfl, fun k z => (nomatch z), ?_⟩
    refine ⟨fit_of (fit_dF x), fit_of (fit_dFs fs), ?_⟩
    have e0 : isEnd (some x) fs = decide (x ∈ fs) := rfl
    rw [e0] at h
    have e1 : memD (dE (some x)) (fs.map dF) = decide (x ∈ fs) := memF x fs
    rw [e1]
    cases c : decide (x ∈ fs) with
    | false => rw [c] at h; exact h
    | true =>
      rw [c] at h
      refine lc_map (ds := [.int x.1, .int x.2]) (fun _ => .bool false) rfl (fun Ψ q => q) (by decide : 2 ≤ 100000) (fun d hd Ψ q => ⟨(by decide : 2 < 3), ?_⟩) ?_
      · have two : d = .int x.1 ∨ d = .int x.2 := by simpa using hd
        rcases two with rfl | rfl <;> exact ⟨false, rfl, fun k z => (nomatch z), q⟩
      · exact ⟨[false, false], rfl, h⟩

theorem dv__law_is_end (T : Tx W mg) (cdv : Value) (A : Around) (env : List Env) (s : Shared) (H : Hp) (E : XK) (N0 : Addr → Prop) {f : Addr} (hr : Rg 0 (A.deeper (envOfC "_law_is_end" (defScope s__law_is_end) s.heap.objs.size f cdv))) :
    PSs (cxOf CX0 P w W.K mg base ["_law_end_here", "_law_ends", "_law_part"] "_law_is_end" (defScope s__law_is_end) f cdv A env s H E).nox (defBody s__law_is_end) (upS ⟨W, Res.none, N0, H⟩ ws__law_is_end) := by
  have hu : (A.deeper (envOfC "_law_is_end" (defScope s__law_is_end) s.heap.objs.size f cdv)).units + 65 < cLine := by have := hr.room.un; omega
  have nd := sc__law_is_end.nd
  exact (dss_cons (ds_if (dt_cmp op_isU od_is (de_var 0) (de_non (s := true)) (nomark _)) (dss_one (ds_ret (de_bl (s := true)))) dss_nil)
  (dss_one (ds_ret (de_and (de_isi (s := true) rfl (by rfl) T.m_isinstance boot_isinstance (de_var 0) (by rfl) T.m_tuple boot_tuple) (de_and (de_cmp (op_inU hu) (od_in (s := true)) (de_var 0) (de_var 1) (by with_unfolding_all rfl)) (de_one (de_not (de_callB (s := true) (cr_any rfl) cd_any (by rfl) T.m_any boot_any (da_cons (de_fv (df_lc (own := [("_law_part", 2)]) rfl nd (di_tup rfl (de_var 0)) (blkOk_by (by rfl)) (fun _ _ _ _ _ => (dg_name 2 nd)) (fun _ _ _ _ _ => dts_nil) (fun _ _ _ _ _ => (de_isi (s := true) rfl (by rfl) T.m_isinstance boot_isinstance (de_var 2) (by rfl) T.m_bool boot_bool)))) (da_nil (s := true)))))))))))
theorem ok__law_is_end (T : Tx W mg) {f : Addr} {fd : FuncData} (Fn : Fun W.K "_law_is_end" "_law_is_end" s__law_is_end f fd) : FnG P w W.K mg base CX0 1 f fd ["_law_end_here", "_law_ends"] (spP W 2 F__law_is_end) :=
  ok_pure Fn sc__law_is_end (by decide) (fun ds Φ h => len__law_is_end h) fun cdv A env s H E N0 hr => ⟨ws__law_is_end, dv__law_is_end T cdv A env s H E N0 hr, fun ds Φ h => sem__law_is_end ds Φ h⟩

def F__law_told_has : FD := fun ds Φ => ∃ (r : Rn) (v s : Int), ds = [dR r, .int v, .int s] ∧ OkR r ∧ Sml v ∧ Scl s ∧ Φ (.bool (told1 r v s))
theorem len__law_told_has {ds Φ} (h : F__law_told_has ds Φ) : ds.length = 3 := by obtain ⟨a, b, c, e, _⟩ := h; rw [e]; rfl
-- slots of _law_told_has: 0 _law_ends, 1 _law_value, 2 _law_scale, 3 _law_low, 4 _law_high
def ws__law_told_has : WS :=
  (wSq (wAs (wVar 0) (gT 2 (gsCons (gN 3) (gsCons (gN 4) gsNil))))
  (wSq (wIf (wAnd (wTest (wOp fIsNot (wVar 3) (wC .none))) (wTest (wOp fGt (wOp fMul (wOp fIx (wVar 3) (wC (.int 0))) (wVar 2)) (wOp fMul (wVar 1) (wOp fIx (wVar 3) (wC (.int 1)))))))
  (wRet (wC (.bool false)))
  wNx)
  (wRet (wOrV (wOp fIs (wVar 4) (wC .none)) (wOp fLe (wOp fMul (wVar 1) (wOp fIx (wVar 4) (wC (.int 1)))) (wOp fMul (wOp fIx (wVar 4) (wC (.int 0))) (wVar 2)))))))

theorem mul_ok {a b : Int} (ha : a.natAbs < 2 ^ 200) (hb : b.natAbs < 2 ^ 200) : CMulW a b := mulw ha hb
theorem sml_ok {v : Int} (h : Sml v) : v.natAbs < 2 ^ 200 := Nat.lt_of_le_of_lt h (by decide)
theorem scl_ok {s : Int} (h : Scl s) : s.natAbs < 2 ^ 200 := by
  have h1 := h.1
  have h2 := h.2
  exact Nat.lt_of_le_of_lt (by omega : s.natAbs ≤ 1000000000) (by decide)
theorem sem__law_told_has (ds : List PyData) (Φ : PyData → Prop) (h : F__law_told_has ds Φ) : ws__law_told_has (retX Φ) (ev0 5 ds) := by
  obtain ⟨⟨l, u⟩, v, s, rfl, ok, hv, hs, h⟩ := h
  have e0 : told1 (l, u) v s = (loTold l v s && hiTold u v s) := rfl
  rw [e0] at h
  refine ⟨rfl, (by decide : 3 < 5), (by decide : 4 < 5), ?_⟩
  have hi : ∀ Ψ : PyData → Prop, Ψ (.bool (hiTold u v s)) → (wOrV (wOp fIs (wVar 4) (wC .none)) (wOp fLe (wOp fMul (wVar 1) (wOp fIx (wVar 4) (wC (.int 1)))) (wOp fMul (wOp fIx (wVar 4) (wC (.int 0))) (wVar 2)))) [.d (dR (l, u)), .d (.int v), .d (.int s), .d (dE l), .d (dE u)] Ψ := fun Ψ q => by
    cases u with
    | none => exact q
    | some y => exact ⟨_, rfl, mul_ok (sml_ok hv) ok.2.2, _, rfl, mul_ok ok.2.1 (scl_ok hs), q⟩
  cases l with
  | none => exact hi _ h
  | some x =>
    refine ⟨_, rfl, mul_ok ok.1.1 (scl_ok hs), _, rfl, mul_ok (sml_ok hv) ok.1.2, ?_⟩
    have e1 : loTold (some x) v s = !decide (v * x.2 < x.1 * s) := rfl
    rw [e1] at h
    show (if decide (v * x.2 < x.1 * s) = true then _ else _)
    cases c : decide (v * x.2 < x.1 * s) with
    | true => rw [c] at h; exact h
    | false => rw [c] at h; exact hi _ h

theorem dv__law_told_has (T : Tx W mg) (cdv : Value) (A : Around) (env : List Env) (s : Shared) (H : Hp) (E : XK) (N0 : Addr → Prop) {f : Addr} (hr : Rg 0 (A.deeper (envOfC "_law_told_has" (defScope s__law_told_has) s.heap.objs.size f cdv))) :
    PSs (cxOf CX0 P w W.K mg base ["_law_ends", "_law_value", "_law_scale", "_law_low", "_law_high"] "_law_told_has" (defScope s__law_told_has) f cdv A env s H E).nox (defBody s__law_told_has) (upS ⟨W, Res.none, N0, H⟩ ws__law_told_has) := by
  have hu : (A.deeper (envOfC "_law_told_has" (defScope s__law_told_has) s.heap.objs.size f cdv)).units + 65 < cLine := by have := hr.room.un; omega
  have nd := sc__law_told_has.nd
  exact (dss_cons (ds_asg (de_var 0) (dg_tup rfl rfl (dgs_cons (dg_name 3 nd) (dgs_cons (dg_name 4 nd) dgs_nil))))
  (dss_cons (ds_if ((dw_and (dt_cmp op_isnotU od_isnot (de_var 3) (de_non (s := true)) (nomark _)) (dw_and1 (dt_cmp op_gt od_gt (de_op op_mulU (od_mul (s := true)) (de_ix rfl (de_var 3) (de_int (s := true)) (fun _ _ => rfl)) (de_var 2)) (de_op op_mulU (od_mul (s := true)) (de_var 1) (de_ix rfl (de_var 3) (de_int (s := true)) (fun _ _ => rfl))) (nomark _))))).pt (dss_one (ds_ret (de_bl (s := true)))) dss_nil)
  (dss_one (ds_ret (de_or (de_cmp op_isU (od_is (s := true)) (de_var 4) (de_non (s := true)) (nomark _)) (de_one (de_cmp op_le (od_le (s := true)) (de_op op_mulU (od_mul (s := true)) (de_var 1) (de_ix rfl (de_var 4) (de_int (s := true)) (fun _ _ => rfl))) (de_op op_mulU (od_mul (s := true)) (de_ix rfl (de_var 4) (de_int (s := true)) (fun _ _ => rfl)) (de_var 2)) (nomark _))))))))
theorem ok__law_told_has (T : Tx W mg) {f : Addr} {fd : FuncData} (Fn : Fun W.K "_law_told_has" "_law_told_has" s__law_told_has f fd) : FnG P w W.K mg base CX0 1 f fd ["_law_ends", "_law_value", "_law_scale"] (spP W 3 F__law_told_has) :=
  ok_pure Fn sc__law_told_has (by decide) (fun ds Φ h => len__law_told_has h) fun cdv A env s H E N0 hr => ⟨ws__law_told_has, dv__law_told_has T cdv A env s H E N0 hr, fun ds Φ h => sem__law_told_has ds Φ h⟩

def F__law_heap : List Int → (PyData → Prop) → Prop := fun ns Φ => ns.length ≤ 1000 ∧ ∀ d, HeapOk d → Φ d
-- slots of _law_heap: 0 _law_script, 1 _law_cells, 2 _law_stir, 3 _law_cell
def ws__law_heap : WS :=
  (wSq (wPars [1, 2] (wEd (wFv (wLc (wListI (wSSl 0 wNo (wPart (wC (.int 60))))) (gN 3) wYes (wCall fAbs (wCons (wVar 3) wNil)) [3])) (wEd (wC (.int 70249)) wEn)))
  (wSq (wFor (wListI (wVar 1)) (gN 3)
  (wSet 2 (wOp fMod (wCall fInt (wCons (wOp fAdd (wOp fAdd (wOp fMul (wVar 2) (wC (.int 69621))) (wOp fMod (wCall fInt (wCons (wVar 3) wNil)) (wC (.int 2147483543)))) (wC (.int 31))) wNil)) (wC (.int 2147483647)))))
  (wRet (wLst (wCons (wRev (wFv (wLc (wListI (wVar 1)) (gN 3) (wTest (wOp fGe (wVar 3) (wOp fPow (wC (.int 10)) (wC (.int 18))))) (wVar 3) [3]))) (wCons (wVar 2) wNil))))))

def ab (i : Int) : Int := if i < 0 then -i else i
theorem ab_nn (i : Int) : 0 ≤ ab i := by unfold ab; split <;> omega
def absD : PyData → PyData
  | .int i => .int (ab i)
  | _ => .none
theorem sem__law_heap (ns : List Int) (Φ : PyData → Prop) (h : F__law_heap ns Φ) : ws__law_heap (retX Φ) (evS 4 ns) := by
  obtain ⟨hl, h⟩ := h
  have hC : (cutG ns none (some 60)).length ≤ 1000 := by
    unfold cutG
    rw [List.length_take, List.length_drop]
    omega
  generalize hc : cutG ns none (some 60) = C at hC
  have e0 : (C.map PyData.int).map absD = (C.map ab).map .int := by
    rw [List.map_map, List.map_map]; rfl
  refine sq (lc_map (ds := C.map .int) absD rfl (fun Ψ h => by rw [← hc] at h; exact h) (by rw [List.length_map]; omega) (fun d hd Ψ hq => ?_) ?_)
  · obtain ⟨i, _, rfl⟩ := List.mem_map.mp hd
    exact ⟨(by decide : 3 < 4), hq⟩
  rw [e0]
  generalize hcs : C.map ab = cs
  have nn : ∀ x ∈ cs, 0 ≤ x := fun x hx => by
    rw [← hcs] at hx
    obtain ⟨i, _, rfl⟩ := List.mem_map.mp hx
    exact ab_nn i
  have lcs : cs.length ≤ 1000 := by rw [← hcs, List.length_map]; exact hC
  refine ⟨rfl, ⟨by decide, ltI (n := 4) (by decide) rfl⟩, ?_⟩
  dsimp only
  refine sq (for_all (ds := cs.map .int) (fun _ ρ => ∃ (k : Int) (x3 : Ent), ρ = [.s ns, .d (dInts cs), .d (.int k), x3] ∧ 0 ≤ k ∧ k < 2147483647 ∧ (x3 = .u ∨ ∃ d, x3 = .d d)) (fun Ψ h => h) ⟨70249, .u, rfl, by decide, by decide, .inl rfl⟩ ?_ ?_)
  · rintro i d ρ2 hd ⟨k, x3, rfl, k0, k1, hx⟩
    obtain ⟨x, _, rfl⟩ := map_at hd
    have hk : k.natAbs < 2 ^ 31 := by omega
    refine ⟨(by decide : 3 < 4), wide_mul (b := 20) hk (by decide) (by decide) (by decide) (by decide), (by decide : (2147483543 : Int) ≠ 0), (by decide : (2147483647 : Int) ≠ 0), _, _, rfl, ?_, ?_, .inr ⟨_, rfl⟩⟩
    · exact Int.fmod_nonneg_of_pos _ (by decide)
    · exact Int.fmod_lt_of_pos _ (by decide)
  · rintro ρ2 ⟨k, x3, rfl, k0, k1, hx⟩
    have hno : noOwn [.s ns, .d (dInts cs), .d (.int k), x3] [3] = true := by rcases hx with rfl | ⟨d, rfl⟩ <;> rfl
    refine lc_filter (ds := cs.map .int) (fun d => decide ((10 ^ 18 : Int) ≤ intD d)) id hno (fun Ψ h => h) (by rw [List.length_map]; omega) (fun d hd Ψ Θ h1 h2 => ?_) ?_
    · obtain ⟨x, _, rfl⟩ := List.mem_map.mp hd
      refine ⟨(by decide : 3 < 4), ⟨by decide, by decide, by decide⟩, ?_⟩
      by_cases q : (10 ^ 18 : Int) ≤ x
      · show (if decide ((10 ^ 18 : Int) ≤ x) = true then _ else _)
        rw [if_pos (decide_eq_true q)]
        exact h1 (decide_eq_true q)
      · show (if decide ((10 ^ 18 : Int) ≤ x) = true then _ else _)
        rw [if_neg (by simpa using q)]
        exact h2 (decide_eq_false q)
    · rw [filter_ints (fun x => decide ((10 ^ 18 : Int) ≤ x))]
      refine ⟨(by decide : 2 ≤ 100000), h _ ⟨(cs.filter fun x => decide ((10 ^ 18 : Int) ≤ x)).reverse, k, ?_, fun x hx => ?_, ?_, k0, k1⟩⟩
      · rw [List.map_reverse]
      · exact nn x ((List.mem_filter.mp (List.mem_reverse.mp hx)).1)
      · rw [List.length_reverse]
        exact Nat.le_trans (List.length_filter_le _ _) lcs

theorem dv__law_heap (T : Tx W mg) (cdv : Value) (A : Around) (env : List Env) (s : Shared) (H : Hp) (E : XK) (N0 : Addr → Prop) {f : Addr} (hr : Rg 0 (A.deeper (envOfC "_law_heap" (defScope s__law_heap) s.heap.objs.size f cdv))) :
    PSs (cxOf CX0 P w W.K mg base ["_law_script", "_law_cells", "_law_stir", "_law_cell"] "_law_heap" (defScope s__law_heap) f cdv A env s H E).nox (defBody s__law_heap) (upS ⟨W, Res.none, N0, H⟩ ws__law_heap) := by
  have hu : (A.deeper (envOfC "_law_heap" (defScope s__law_heap) s.heap.objs.size f cdv)).units + 65 < cLine := by have := hr.room.un; omega
  have nd := sc__law_heap.nd
  exact (dss_cons (ds_par2 1 2 rfl nd (ea_d (de_fv (df_lc (own := [("_law_cell", 3)]) rfl nd (di_list rfl (de_ssl (s := true) 0 rfl do_none (do_some (de_int (s := true))))) (blkOk_by (by rfl)) (fun _ _ _ _ _ => (dg_name 3 nd)) (fun _ _ _ _ _ => dts_nil) (fun _ _ _ _ _ => (de_callB (s := true) call_abs cd_abs (by rfl) T.m_abs boot_abs (da_cons (de_var 3) (da_nil (s := true))))))) (ea_d (de_int (s := true)) ea_nil)))
  (dss_cons (ds_for PassesOwn.never rfl (di_list rfl (de_var 1)) (dg_name 3 nd) (dss_one (ds_set 2 nd (de_op op_modN (od_mod (s := true)) (de_callT (s := true) call_int1 cd_int (by rfl) T.m_int boot_int (da_cons (de_op op_addU (od_add (s := true)) (de_op op_addU (od_add (s := true)) (de_op op_mulU (od_mul (s := true)) (de_var 2) (de_int (s := true))) (de_op op_modN (od_mod (s := true)) (de_callT (s := true) call_int1 cd_int (by rfl) T.m_int boot_int (da_cons (de_var 3) (da_nil (s := true)))) (de_int (s := true)))) (de_int (s := true))) (da_nil (s := true)))) (de_int (s := true))))))
  (dss_one (ds_ret (de_lst (da_cons (de_rev rfl (de_fv (df_lc (own := [("_law_cell", 3)]) rfl nd (di_list rfl (de_var 1)) (blkOk_by (by rfl)) (fun _ _ _ _ _ => (dg_name 3 nd)) (fun _ _ _ _ _ => (dts_one (dt_cmp op_ge od_ge (de_var 3) (de_op op_pow (od_pow (s := true)) (de_int (s := true)) (de_int (s := true))) (nomark _)))) (fun _ _ _ _ _ => (de_var 3))))) (da_cons (de_var 2) (da_nil (s := true)))))))))
theorem ok__law_heap (T : Tx W mg) {f : Addr} {fd : FuncData} (Fn : Fun W.K "_law_heap" "_law_heap" s__law_heap f fd) : FnG P w W.K mg base CX0 1 f fd ["_law_script"] (spS W F__law_heap) :=
  ok_script Fn sc__law_heap (by decide) fun cdv A env s H E N0 hr => ⟨ws__law_heap, dv__law_heap T cdv A env s H E N0 hr, fun ns Φ h => sem__law_heap ns Φ h⟩

def F_is_name_lot : FD := fun ds Φ => ∃ n : Nat, ds = [.tuple (namesN n)] ∧ 1 ≤ n ∧ n ≤ 6 ∧ Φ (.bool true)
theorem len_is_name_lot {ds Φ} (h : F_is_name_lot ds Φ) : ds.length = 1 := by obtain ⟨a, e, _⟩ := h; rw [e]; rfl
-- slots of is_name_lot: 0 value, 1 name
def ws_is_name_lot : WS :=
  (wSq (wIf (wOr (wNot (wTest (wIsi "tuple" (wVar 0)))) (wNot (wTest (wChain fLe fLe (wC (.int 1)) (wCall fLen (wCons (wVar 0) wNil)) (wC (.int 6))))))
  (wRet (wC (.bool false)))
  wNx)
  (wRet (wAndV (wCall fAll (wCons (wFv (wLc (wTupI (wVar 0)) (gN 1) wYes (wG F_is_name 1 0 [0] (wCons (wVar 1) wNil) wNil) [1])) wNil)) (wG F_is_rising 1 0 [0] (wCons (wVar 0) wNil) wNil))))

theorem sem_is_name_lot (ds : List PyData) (Φ : PyData → Prop) (h : F_is_name_lot ds Φ) : ws_is_name_lot (retX Φ) (ev0 2 ds) := by
  obtain ⟨n, rfl, h1, h6, h⟩ := h
  have ln : (namesN n).length = n := by unfold namesN; rw [List.length_map, List.length_range]
  refine ⟨true, rfl, fun k q => (nomatch q), ?_⟩
  show (if decide ((1 : Int) ≤ ((namesN n).length : Int)) = true then _ else _)
  rw [decide_eq_true (by omega), if_pos rfl]
  show (if (!decide (((namesN n).length : Int) ≤ 6)) = true then _ else _)
  rw [decide_eq_true (by omega), if_neg (by decide : ¬ (!true) = true)]
  dsimp only [wNx]
  refine lc_map (ds := namesN n) (fun _ => .bool true) rfl (fun Ψ q => q) (by rw [ln]; omega) (fun d hd Ψ q => ?_) ?_
  · unfold namesN at hd
    obtain ⟨i, _, rfl⟩ := List.mem_map.mp hd
    exact ⟨(by decide : 1 < 2), rfl, rfl, i, rfl, q⟩
  · refine ⟨(namesN n).map fun _ => true, by rw [List.map_map]; rfl, ?_⟩
    rw [show ((namesN n).map fun _ => true).all id = true by rw [List.all_map, List.all_eq_true]; intro x hx; rfl]
    exact ⟨rfl, rfl, n, rfl, h6, h⟩

theorem dv_is_name_lot (T : Tx W mg) (c_is_name : Cal P w W.K mg base 1 "is_name" s_is_name ["value"] (spP W 1 F_is_name)) (c_is_rising : Cal P w W.K mg base 1 "is_rising" s_is_rising ["values"] (spP W 1 F_is_rising)) (cdv : Value) (A : Around) (env : List Env) (s : Shared) (H : Hp) (E : XK) (N0 : Addr → Prop) {f : Addr} (hr : Rg 1 (A.deeper (envOfC "is_name_lot" (defScope s_is_name_lot) s.heap.objs.size f cdv))) :
    PSs (cxOf CX0 P w W.K mg base ["value", "name"] "is_name_lot" (defScope s_is_name_lot) f cdv A env s H E).nox (defBody s_is_name_lot) (upS ⟨W, Res.none, N0, H⟩ ws_is_name_lot) := by
  have hu : (A.deeper (envOfC "is_name_lot" (defScope s_is_name_lot) s.heap.objs.size f cdv)).units + 65 < cLine := by have := hr.room.un; omega
  have nd := sc_is_name_lot.nd
  exact (dss_cons (ds_if ((dw_or (dt_not (dt_val (de_isi (s := true) rfl (by rfl) T.m_isinstance boot_isinstance (de_var 0) (by rfl) T.m_tuple boot_tuple))) (dw_or1 (dt_not (dt_chain op_le op_le od_le od_le (de_int (s := true)) (de_callB (s := true) call_len cd_len (by rfl) T.m_len boot_len (da_cons (de_var 0) (da_nil (s := true)))) (T.c_MOST_NAMES.rule (s := true) (by rfl))))))).pt (dss_one (ds_ret (de_bl (s := true)))) dss_nil)
  (dss_one (ds_ret (de_and (de_callB (s := true) (cr_all rfl) cd_all (by rfl) T.m_all boot_all (da_cons (de_fv (df_lc (own := [("name", 1)]) rfl nd (di_tup rfl (de_var 0)) (blkOk_by (by rfl)) (fun _ _ _ _ _ => (dg_name 1 nd)) (fun _ _ _ _ _ => dts_nil) (fun _ _ _ _ _ => (de_callP c_is_name rfl hr kb_is_name_1 (by decide) (by rfl) (da_cons (de_var 1) (da_nil (s := true))))))) (da_nil (s := true)))) (de_one (de_callP c_is_rising rfl hr kb_is_rising_1 (by decide) (by rfl) (da_cons (de_var 0) (da_nil (s := true)))))))))
theorem ok_is_name_lot (T : Tx W mg) (c_is_name : Cal P w W.K mg base 1 "is_name" s_is_name ["value"] (spP W 1 F_is_name)) (c_is_rising : Cal P w W.K mg base 1 "is_rising" s_is_rising ["values"] (spP W 1 F_is_rising)) {f : Addr} {fd : FuncData} (Fn : Fun W.K "is_name_lot" "is_name_lot" s_is_name_lot f fd) : FnG P w W.K mg base CX0 2 f fd ["value"] (spP W 1 F_is_name_lot) :=
  ok_pure Fn sc_is_name_lot (by decide) (fun ds Φ h => len_is_name_lot h) fun cdv A env s H E N0 hr => ⟨ws_is_name_lot, dv_is_name_lot T c_is_name c_is_rising cdv A env s H E N0 hr, fun ds Φ h => sem_is_name_lot ds Φ h⟩

abbrev s_System_init : Stmt := inClass (topS 32) 0
theorem sc_System_init : FnScope ["self", "names", "rows", "at", "row"] ["self", "names", "rows"] (defScope s_System_init) := ⟨rfl, rfl, rfl, by decide +kernel, rfl, by decide +kernel, by decide +kernel⟩
theorem kb_is_name_lot_1 : KbS "is_name_lot" s_is_name_lot ["value"] [] 1 [0] := fun _ _ _ _ _ _ us ws h1 h2 => match us, ws, h1, h2 with | [_], [], _, _ => rfl
def F_System : FI := fun ds Φ => ∃ n : Nat, ds = [.tuple (namesN n), .tuple []] ∧ 1 ≤ n ∧ n ≤ 6 ∧ Φ [(.str "names", .tuple (namesN n)), (.str "rows", .tuple [])]
theorem ok_System_init (T : Tx W mg) (c_is_name_lot : Cal P w W.K mg base 2 "is_name_lot" s_is_name_lot ["value"] (spP W 1 F_is_name_lot)) {f : Addr} {fd : FuncData} (Fn : Fun W.K "__init__" "System.__init__" s_System_init f fd) :
    FnG P w W.K mg base CX0 3 f fd ["self", "names", "rows"] (spI W (W.kc ["names", "rows"]) 3 F_System) := by
  refine FnG.mk' Fn sc_System_init (fun vs H Q E h => ?_) fun cdv A env s H vs Q E hr h => ?_
  · obtain ⟨x, dx, vs', N', ds, Φ, _, hl, _⟩ := h
    exact hl
  obtain ⟨x, dx, vs', N', ds, Φ, rfl, hl, hx, nx, al, im, ⟨n, rfl, h1, h6, hΦ⟩, q⟩ := h
  have hu : (A.deeper (envOfC "System.__init__" (defScope s_System_init) s.heap.objs.size f cdv)).units + 65 < cLine := by have := hr.room.un; omega
  have nd := sc_System_init.nd
  have der : PSs (cxOf CX0 P w W.K mg base ["self", "names", "rows", "at", "row"] "System.__init__" (defScope s_System_init) f cdv A env s H E).nox (defBody s_System_init) _ :=
    pss_cons (ds_if (G := ⟨W, ownR x (W.kc ["names", "rows"]) dx, N', H⟩) ((dw_or (dt_not (dt_val (de_callP c_is_name_lot rfl hr kb_is_name_lot_1 (by decide) (by rfl) (da_cons (de_var 1) (da_nil (s := true)))))) (dw_or1 (dt_not (dt_val (de_isi (s := true) rfl (by rfl) T.m_isinstance boot_isinstance (de_var 2) (by rfl) T.m_tuple boot_tuple))))).pt) (dss_one ds_never) dss_nil)
    (pss_cons (ds_for (G := ⟨W, ownR x (W.kc ["names", "rows"]) dx, N', H⟩) PassesOwn.never rfl (di_enum rfl (by rfl) T.m_enumerate (da_cons (de_var 2) (da_nil (s := true)))) (dg_tup rfl rfl (dgs_cons (dg_name 3 nd) (dgs_cons (dg_name 4 nd) dgs_nil))) (dss_cons ds_never (dss_one ds_never)))
    (pss_cons (ps_fld (pe_var (i := 0) rfl (.inl rfl)) (pe_var (i := 1) rfl (.inl rfl)) rfl) (pss_one (ps_fld (pe_var (i := 0) rfl (.inl rfl)) (pe_var (i := 2) rfl (.inl rfl)) rfl))))
  refine ⟨_, der.nox, ?_⟩
  have S0 := sta_startR (ns := ["self", "names", "rows", "at", "row"]) (G := ⟨W, ownR x (W.kc ["names", "rows"]) dx, N', H⟩) (ds := [.tuple (namesN n), .tuple []]) (show 2 + 1 ≤ 5 by decide) hx al (fun a z => by rw [show a = x from z]; exact nx) im
  refine ⟨[], _, _, ⟨fun ρ => ρ = ev1 5 [.tuple (namesN n), .tuple []], fun _ => False, fun _ => False, fun _ => False⟩, S0, ?_, fun O1 σ1 H1 ρ1 S1 e1 => ?_, fun v H' d z => z.elim, fun O' σ' H' ρ' S' z => z.elim, fun O' σ' H' ρ' S' z => z.elim⟩
  · refine ⟨rfl, rfl, n, rfl, h1, h6, ?_⟩
    show (if false = true then _ else _)
    rw [if_neg Bool.false_ne_true]
    refine ⟨true, rfl, fun k q => (nomatch q), ?_⟩
    show (if false = true then _ else _)
    rw [if_neg Bool.false_ne_true]
    rfl
  subst e1
  refine ⟨[], O1, _, ⟨fun ρ => ρ = ev1 5 [.tuple (namesN n), .tuple []], fun _ => False, fun _ => False, fun _ => False⟩, S1, ?_, fun O2 σ2 H2 ρ2 S2 e2 => ?_, fun v H' d z => z.elim, fun O' σ' H' ρ' S' z => z.elim, fun O' σ' H' ρ' S' z => z.elim⟩
  · exact for_all (ds := []) (fun _ ρ => ρ = ev1 5 [.tuple (namesN n), .tuple []]) (fun Ψ h => h) rfl (fun i d ρ2 hd => by simp at hd) fun ρ2 e => e
  subst e2
  have z0 : σ2[0]? = some (some (.ref x)) := S2.en 0
  obtain ⟨v1, z1, m1⟩ := (S2.en 1 : ∃ v, σ2[1]? = some (some v) ∧ Im W _ H2 (.tuple (namesN n)) v)
  obtain ⟨v2, z2, m2⟩ := (S2.en 2 : ∃ v, σ2[2]? = some (some v) ∧ Im W _ H2 (.tuple []) v)
  have hx2 : H2 x = some (.ins (W.kc ["names", "rows"]) dx []) := S2.inv
  refine ⟨v1, z1, _, z0, x, _, dx, [], rfl, hx2, T.cl_names_rows, T.na_names, by decide, v2, z2, _, z0, x, _, dx, _, rfl, upd_same, T.cl_names_rows, T.na_rows, (show 1 < 1000 by decide), ?_⟩
  have hp : putF "rows" v2 (putF "names" v1 []) = ([("names", v1), ("rows", v2)] : List (Str × V)) := by
    show (if ("names" : Str) = "rows" then _ else _) = _
    rw [if_neg (by decide +kernel)]
    rfl
  have kx : ∀ (M : Addr → Prop) (_ : M x) (o : HO), Keep M H2 (upd (upd H2 x o) x (.ins (W.kc ["names", "rows"]) dx (putF "rows" v2 (putF "names" v1 [])))) := fun M hM o =>
    ⟨fun a u e n => by
      have ne : a ≠ x := fun z => n (by rw [z]; exact hM)
      rw [upd_ne ne, upd_ne ne]; exact e,
     fun a u e => by
      have ne : a ≠ x := fun z => by rw [z, hx2] at e; cases e
      rw [upd_ne ne, upd_ne ne]; exact e,
     fun a u w e => by
      have ne : a ≠ x := fun z => by rw [z, hx2] at e; cases e
      rw [upd_ne ne, upd_ne ne]; exact e⟩
  have lo : ∀ {d v}, Im W (Nv N' O2) H2 d v → Im W N' H2 d v := fun {d v} m => Im.avoid (fun a o _ z => .inl z) d v m
  refine q [("names", v1), ("rows", v2)] _ _ hΦ (by rw [upd_same, hp]) ⟨_, v1, _, rfl, rfl, Im.keep (kx N' nx _) _ _ (lo m1), _, v2, _, rfl, rfl, Im.keep (kx N' nx _) _ _ (lo m2), rfl⟩ (S2.kp.trans (kx (fun a => a = x) rfl _))

def F_is_low_within : FD := fun ds Φ => ∃ a b : En, ds = [dE a, dE b] ∧ OkE a ∧ OkE b ∧ Φ (.bool (lowIn a b))
theorem len_is_low_within {ds Φ} (h : F_is_low_within ds Φ) : ds.length = 2 := by obtain ⟨a, b, e, _⟩ := h; rw [e]; rfl
-- slots of is_low_within: 0 low, 1 other
def ws_is_low_within : WS :=
  (wRet (wOrV (wOp fIs (wVar 1) (wC .none)) (wAndV (wOp fIsNot (wVar 0) (wC .none)) (wNotV (wG F_less 2 0 [0, 1] (wCons (wVar 0) (wCons (wVar 1) wNil)) wNil)))))

theorem sem_is_low_within (ds : List PyData) (Φ : PyData → Prop) (h : F_is_low_within ds Φ) : ws_is_low_within (retX Φ) (ev0 2 ds) := by
  obtain ⟨a, b, rfl, ha, hb, h⟩ := h
  cases b with
  | none => cases a <;> exact h
  | some y =>
    cases a with
    | none => exact h
    | some x => exact ⟨rfl, rfl, _, _, rfl, ha, hb, h⟩

theorem dv_is_low_within (T : Tx W mg) (c_less : Cal P w W.K mg base 1 "less" s_less ["one", "other"] (spP W 2 F_less)) (cdv : Value) (A : Around) (env : List Env) (s : Shared) (H : Hp) (E : XK) (N0 : Addr → Prop) {f : Addr} (hr : Rg 1 (A.deeper (envOfC "is_low_within" (defScope s_is_low_within) s.heap.objs.size f cdv))) :
    PSs (cxOf CX0 P w W.K mg base ["low", "other"] "is_low_within" (defScope s_is_low_within) f cdv A env s H E).nox (defBody s_is_low_within) (upS ⟨W, Res.none, N0, H⟩ ws_is_low_within) := by
  have hu : (A.deeper (envOfC "is_low_within" (defScope s_is_low_within) s.heap.objs.size f cdv)).units + 65 < cLine := by have := hr.room.un; omega
  have nd := sc_is_low_within.nd
  exact (dss_one (ds_ret (de_or (de_cmp op_isU (od_is (s := true)) (de_var 1) (de_non (s := true)) (nomark _)) (de_one (de_and (de_cmp op_isnotU (od_isnot (s := true)) (de_var 0) (de_non (s := true)) (nomark _)) (de_one (de_not (de_callP c_less rfl hr kb_less_2 (by decide) (by rfl) (da_cons (de_var 0) (da_cons (de_var 1) (da_nil (s := true))))))))))))
theorem ok_is_low_within (T : Tx W mg) (c_less : Cal P w W.K mg base 1 "less" s_less ["one", "other"] (spP W 2 F_less)) {f : Addr} {fd : FuncData} (Fn : Fun W.K "is_low_within" "is_low_within" s_is_low_within f fd) : FnG P w W.K mg base CX0 2 f fd ["low", "other"] (spP W 2 F_is_low_within) :=
  ok_pure Fn sc_is_low_within (by decide) (fun ds Φ h => len_is_low_within h) fun cdv A env s H E N0 hr => ⟨ws_is_low_within, dv_is_low_within T c_less cdv A env s H E N0 hr, fun ds Φ h => sem_is_low_within ds Φ h⟩

def F_is_high_within : FD := fun ds Φ => ∃ a b : En, ds = [dE a, dE b] ∧ OkE a ∧ OkE b ∧ Φ (.bool (highIn a b))
theorem len_is_high_within {ds Φ} (h : F_is_high_within ds Φ) : ds.length = 2 := by obtain ⟨a, b, e, _⟩ := h; rw [e]; rfl
-- slots of is_high_within: 0 high, 1 other
def ws_is_high_within : WS :=
  (wRet (wOrV (wOp fIs (wVar 1) (wC .none)) (wAndV (wOp fIsNot (wVar 0) (wC .none)) (wNotV (wG F_less 2 0 [0, 1] (wCons (wVar 1) (wCons (wVar 0) wNil)) wNil)))))

theorem sem_is_high_within (ds : List PyData) (Φ : PyData → Prop) (h : F_is_high_within ds Φ) : ws_is_high_within (retX Φ) (ev0 2 ds) := by
  obtain ⟨a, b, rfl, ha, hb, h⟩ := h
  cases b with
  | none => cases a <;> exact h
  | some y =>
    cases a with
    | none => exact h
    | some x => exact ⟨rfl, rfl, _, _, rfl, hb, ha, h⟩

theorem dv_is_high_within (T : Tx W mg) (c_less : Cal P w W.K mg base 1 "less" s_less ["one", "other"] (spP W 2 F_less)) (cdv : Value) (A : Around) (env : List Env) (s : Shared) (H : Hp) (E : XK) (N0 : Addr → Prop) {f : Addr} (hr : Rg 1 (A.deeper (envOfC "is_high_within" (defScope s_is_high_within) s.heap.objs.size f cdv))) :
    PSs (cxOf CX0 P w W.K mg base ["high", "other"] "is_high_within" (defScope s_is_high_within) f cdv A env s H E).nox (defBody s_is_high_within) (upS ⟨W, Res.none, N0, H⟩ ws_is_high_within) := by
  have hu : (A.deeper (envOfC "is_high_within" (defScope s_is_high_within) s.heap.objs.size f cdv)).units + 65 < cLine := by have := hr.room.un; omega
  have nd := sc_is_high_within.nd
  exact (dss_one (ds_ret (de_or (de_cmp op_isU (od_is (s := true)) (de_var 1) (de_non (s := true)) (nomark _)) (de_one (de_and (de_cmp op_isnotU (od_isnot (s := true)) (de_var 0) (de_non (s := true)) (nomark _)) (de_one (de_not (de_callP c_less rfl hr kb_less_2 (by decide) (by rfl) (da_cons (de_var 1) (da_cons (de_var 0) (da_nil (s := true))))))))))))
theorem ok_is_high_within (T : Tx W mg) (c_less : Cal P w W.K mg base 1 "less" s_less ["one", "other"] (spP W 2 F_less)) {f : Addr} {fd : FuncData} (Fn : Fun W.K "is_high_within" "is_high_within" s_is_high_within f fd) : FnG P w W.K mg base CX0 2 f fd ["high", "other"] (spP W 2 F_is_high_within) :=
  ok_pure Fn sc_is_high_within (by decide) (fun ds Φ h => len_is_high_within h) fun cdv A env s H E N0 hr => ⟨ws_is_high_within, dv_is_high_within T c_less cdv A env s H E N0 hr, fun ds Φ h => sem_is_high_within ds Φ h⟩

def F_placed : FD := fun ds Φ => ∃ (b : List Rn) (i : Nat) (x : Fr2), ds = [dB b, .int (i : Nat), dF x] ∧ b.length ≤ 100 ∧ i < b.length ∧ Φ (dB (b.set i (some x, some x)))
theorem len_placed {ds Φ} (h : F_placed ds Φ) : ds.length = 3 := by obtain ⟨a, b, c, e, _⟩ := h; rw [e]; rfl
-- slots of placed: 0 box, 1 at, 2 value
def ws_placed : WS :=
  (wRet (wG F_with_range 3 0 [0, 1, 2] (wCons (wVar 0) (wCons (wVar 1) (wCons (wTup (wCons (wVar 2) (wCons (wVar 2) wNil))) wNil))) wNil))

theorem sem_placed (ds : List PyData) (Φ : PyData → Prop) (h : F_placed ds Φ) : ws_placed (retX Φ) (ev0 3 ds) := by
  obtain ⟨b, i, x, rfl, hl, hi, h⟩ := h
  exact ⟨(by decide : 2 ≤ 100000), rfl, rfl, b, i, (some x, some x), rfl, hl, hi, h⟩

theorem dv_placed (T : Tx W mg) (c_with_range : Cal P w W.K mg base 1 "with_range" s_with_range ["box", "at", "ends"] (spP W 3 F_with_range)) (cdv : Value) (A : Around) (env : List Env) (s : Shared) (H : Hp) (E : XK) (N0 : Addr → Prop) {f : Addr} (hr : Rg 1 (A.deeper (envOfC "placed" (defScope s_placed) s.heap.objs.size f cdv))) :
    PSs (cxOf CX0 P w W.K mg base ["box", "at", "value"] "placed" (defScope s_placed) f cdv A env s H E).nox (defBody s_placed) (upS ⟨W, Res.none, N0, H⟩ ws_placed) := by
  have hu : (A.deeper (envOfC "placed" (defScope s_placed) s.heap.objs.size f cdv)).units + 65 < cLine := by have := hr.room.un; omega
  have nd := sc_placed.nd
  exact (dss_one (ds_ret (de_callP c_with_range rfl hr kb_with_range_3 (by decide) (by rfl) (da_cons (de_var 0) (da_cons (de_var 1) (da_cons (de_tup (da_cons (de_var 2) (da_cons (de_var 2) (da_nil (s := true))))) (da_nil (s := true))))))))
theorem ok_placed (T : Tx W mg) (c_with_range : Cal P w W.K mg base 1 "with_range" s_with_range ["box", "at", "ends"] (spP W 3 F_with_range)) {f : Addr} {fd : FuncData} (Fn : Fun W.K "placed" "placed" s_placed f fd) : FnG P w W.K mg base CX0 2 f fd ["box", "at", "value"] (spP W 3 F_placed) :=
  ok_pure Fn sc_placed (by decide) (fun ds Φ h => len_placed h) fun cdv A env s H E N0 hr => ⟨ws_placed, dv_placed T c_with_range cdv A env s H E N0 hr, fun ds Φ h => sem_placed ds Φ h⟩

def F__law_draw : FD := fun ds Φ => ∃ k : Int, ds = [.int k] ∧ 0 < k ∧ k < 1073741824 ∧ ∀ r, 0 ≤ r → r < k → Φ (.int r)
theorem len__law_draw {ds Φ} (h : F__law_draw ds Φ) : ds.length + 1 = 2 := by obtain ⟨a, e, _⟩ := h; rw [e]; rfl
def F__law_pick : FD := fun ds Φ => ∃ xs : List PyData, ds = [.list xs] ∧ xs ≠ [] ∧ xs.length ≤ 2000 ∧ ∀ x ∈ xs, Φ x
theorem len__law_pick {ds Φ} (h : F__law_pick ds Φ) : ds.length + 1 = 2 := by obtain ⟨a, e, _⟩ := h; rw [e]; rfl
-- slots of _law_pick: 0 _law_heap_here, 1 _law_some
def ws__law_pick : WS :=
  (wRet (wOp fIx (wVar 1) (wGR 0 F__law_draw 2 (wCons (wCall fLen (wCons (wVar 1) wNil)) wNil))))

theorem sem__law_pick (ds : List PyData) (Φ : PyData → Prop) (h : F__law_pick ds Φ) : ws__law_pick (retX Φ) (ev1 2 ds) := by
  obtain ⟨xs, rfl, hn, hl, h⟩ := h
  have hp := List.length_pos_iff.mpr hn
  refine ⟨rfl, _, rfl, by omega, by omega, fun r h0 h1 => ?_⟩
  obtain ⟨n, rfl⟩ := Int.eq_ofNat_of_zero_le h0
  have hi : n < xs.length := by omega
  exact ⟨xs[n], atI_nat (List.getElem?_eq_getElem hi), h _ (List.getElem_mem hi)⟩

theorem dv__law_pick (T : Tx W mg) (c__law_draw : Cal P w W.K mg base 1 "_law_draw" s__law_draw ["_law_heap_here", "_law_many"] (spR W RR 2 F__law_draw)) (cdv : Value) (A : Around) (env : List Env) (s : Shared) (H : Hp) (E : XK) (N0 : Addr → Prop) (b c : Addr) {f : Addr} (hr : Rg 1 (A.deeper (envOfC "_law_pick" (defScope s__law_pick) s.heap.objs.size f cdv))) :
    PSs (cxOf CX0 P w W.K mg base ["_law_heap_here", "_law_some"] "_law_pick" (defScope s__law_pick) f cdv A env s H E).nox (defBody s__law_pick) (upS ⟨W, RR b c, N0, H⟩ ws__law_pick) := by
  have hu : (A.deeper (envOfC "_law_pick" (defScope s__law_pick) s.heap.objs.size f cdv)).units + 65 < cLine := by have := hr.room.un; omega
  have nd := sc__law_pick.nd
  exact (dss_one (ds_ret (de_ix rfl (de_var 1) (de_callR 0 c__law_draw rfl rfl hr (kb__law_draw_2) (by decide) (by rfl) (da_cons (de_callB (s := true) call_len cd_len (by rfl) T.m_len boot_len (da_cons (de_var 1) (da_nil (s := true)))) (da_nil (s := true)))) (fun _ _ => rfl))))
theorem ok__law_pick (T : Tx W mg) (c__law_draw : Cal P w W.K mg base 1 "_law_draw" s__law_draw ["_law_heap_here", "_law_many"] (spR W RR 2 F__law_draw)) {f : Addr} {fd : FuncData} (Fn : Fun W.K "_law_pick" "_law_pick" s__law_pick f fd) : FnG P w W.K mg base CX0 2 f fd ["_law_heap_here", "_law_some"] (spR W RR 2 F__law_pick) :=
  ok_draw Fn sc__law_pick (by decide) (fun ds Φ h => len__law_pick h) fun cdv A env s H E N0 b c hr => ⟨ws__law_pick, dv__law_pick T c__law_draw cdv A env s H E N0 b c hr, fun ds Φ h => sem__law_pick ds Φ h⟩

theorem sc__law_draw : FnScope ["_law_heap_here", "_law_many", "_law_rest"] ["_law_heap_here", "_law_many"] (defScope s__law_draw) := ⟨rfl, rfl, rfl, by decide +kernel, rfl, by decide +kernel, by decide +kernel⟩
theorem ok__law_draw (T : Tx W mg) {f : Addr} {fd : FuncData} (Fn : Fun W.K "_law_draw" "_law_draw" s__law_draw f fd) : FnG P w W.K mg base CX0 1 f fd ["_law_heap_here", "_law_many"] (spR W drw 2 F__law_draw) := by
  refine FnG.mk' Fn sc__law_draw (fun vs H Q E h => ?_) fun cdv A env s H vs Q E hr h => ?_
  · obtain ⟨b, c, N', ds, vs', Φ, _, hl, _⟩ := h
    exact hl
  obtain ⟨b, c, N', ds, vs', Φ, rfl, hl, hI, ra, al, im, ⟨m, rfl, m0, m1, hm⟩, q⟩ := h
  obtain ⟨v1, rfl, e1⟩ := im1 im
  obtain rfl : v1 = .int m := e1
  have hu : (A.deeper (envOfC "_law_draw" (defScope s__law_draw) s.heap.objs.size f cdv)).units + 65 < cLine := by have := hr.room.un; omega
  have nd := sc__law_draw.nd
  have der : PSs (cxOf CX0 P w W.K mg base ["_law_heap_here", "_law_many", "_law_rest"] "_law_draw" (defScope s__law_draw) f cdv A env s H E).nox (defBody s__law_draw) _ :=
    pss_cons (ps_while PassesOwn.never
        (pw_and (pt_cmpR (op_neU hu) (pe_ix ix_list (pe_var (i := 0) rfl (.inl rfl)) pe_int (fun _ _ => rfl)) (pe_lst pa_nil) (nomark _))
          (pw_and1 (pt_cmpR op_eq (pe_ix ix_list (pe_ix ix_list (pe_var (i := 0) rfl (.inl rfl)) pe_int (fun _ _ => rfl)) (pe_un un_neg pe_int) (fun _ _ => rfl)) pe_int (nomark _)))).pt
        (pss_one (ps_expr (pe_bm0 PySem.F.plainAttrs_list PySem.F.slot_list_pop PySem.F.type_list_pop mt_pop (pe_ix ix_list (pe_var (i := 0) rfl (.inl rfl)) pe_int (fun _ _ => rfl))))))
    (pss_cons (ps_if (pt_cmpR (op_neU hu) (pe_ix ix_list (pe_var (i := 0) rfl (.inl rfl)) pe_int (fun _ _ => rfl)) (pe_lst pa_nil) (nomark _))
        (pss_cons (ps_set (i := 2) nd rfl (.inl rfl) (pe_bm0 PySem.F.plainAttrs_list PySem.F.slot_list_pop PySem.F.type_list_pop mt_pop (pe_ix ix_list (pe_var (i := 0) rfl (.inl rfl)) pe_int (fun _ _ => rfl))) rfl (.inl rfl))
        (pss_cons (ps_expr (pe_bm PySem.F.plainAttrs_list PySem.F.slot_list_append PySem.F.type_list_append mt_append (pe_ix ix_list (pe_var (i := 0) rfl (.inl rfl)) pe_int (fun _ _ => rfl)) (pa_cons (pe_op op_fdivN (pe_var (i := 2) rfl (.inl rfl)) (pe_var (i := 1) rfl (.inl rfl))) pa_nil rfl)))
        (pss_one (ps_ret (pe_op op_modN (pe_callTy call_int1 (by rfl) T.m_int boot_int (pa_cons (pe_var (i := 2) rfl (.inl rfl)) pa_nil rfl)) (pe_var (i := 1) rfl (.inl rfl)))))))
        pss_nil)
    (pss_cons (ps_asg (pe_op op_modN (pe_callTy call_int1 (by rfl) T.m_int boot_int (pa_cons (pe_op op_add (pe_op op_mulW (pe_ix ix_list (pe_var (i := 0) rfl (.inl rfl)) pe_int (fun _ _ => rfl)) pe_int) pe_int) pa_nil rfl)) pe_int)
        (pg_sub (pe_var (i := 0) rfl (.inl rfl)) pe_int set_list))
    (pss_one (ps_ret (pe_op op_modN (pe_callTy call_int1 (by rfl) T.m_int boot_int (pa_cons (pe_op op_fdivN (pe_ix ix_list (pe_var (i := 0) rfl (.inl rfl)) pe_int (fun _ _ => rfl)) pe_int) pa_nil rfl)) (pe_var (i := 1) rfl (.inl rfl)))))))
  refine ⟨_, der.nox, ?_⟩
  obtain ⟨hne, ks0, k0, hb0, hc0, nn0, few0, k00, k01⟩ := hI
  have D0 : Dr b c H H ks0 k0 := ⟨Keep.refl H, hne, hb0, hc0, nn0, few0, k00, k01⟩
  -- is there an amount left
  have tA : ∀ (H1 : Hp) (ks : List Int) (k : Int) (R : Bool → Hp → Prop), Dr b c H H1 ks k → (∀ H2, Dr b c H H2 ks k → R (!ks.isEmpty) H2) →
      tTest (tOp (rNeU W.K) (tOp (rIxL W.K) (tVar 0) (tC (.int 0))) (tLst tNil)) [some (.ref b), some (.int m), none] H1 R := fun H1 ks k R D hR => by
    refine ⟨_, rfl, b, _, 0, _, rfl, rfl, .inl (.inl D.hb), rfl, Nat.zero_le _, fun p hp => .inr ⟨.list (ks.map .int), .list [], .lst (.inl (.inl (D.new hp).hc)) (dpInts ks), .lst (.inl (.inl upd_same)) .nil, shInts ks, rfl, _, rfl, ?_⟩⟩
    rw [eqvNil]
    exact hR _ (D.new hp)
  refine ⟨fun n σ H1 => σ = [some (.ref b), some (.int m), none] ∧ ∃ ks k, Dr b c H H1 ks k ∧ ks.length = n, ⟨_, rfl, ks0, k0, D0, rfl⟩, ?_⟩
  rintro n σ H1 ⟨rfl, ks, k, D, rfl⟩
  refine tA H1 ks k _ D fun H2 D2 => ?_
  rcases List.eq_nil_or_concat ks with rfl | ⟨l, x, rfl⟩
  · show (if false = true then _ else _)
    rw [if_neg Bool.false_ne_true]
    show (if false = true then _ else _)
    rw [if_neg Bool.false_ne_true]
    refine tA H2 [] k _ D2 fun H3 D3 => ?_
    show (if false = true then _ else _)
    rw [if_neg Bool.false_ne_true]
    have hm2 : (0:Int) ≤ (k * 48271 + 11).fmod 2147483647 := Int.fmod_nonneg_of_pos _ (by decide)
    have hm3 : (k * 48271 + 11).fmod 2147483647 < 2147483647 := Int.fmod_lt_of_pos _ (by decide)
    have hk : k.natAbs < 2 ^ 31 := by have := D.k0; have := D.k1; omega
    refine ⟨_, rfl, b, _, 1, .int k, rfl, rfl, .inl (.inl D3.hb), rfl, k, 48271, rfl, rfl, wide_mul (b := 20) hk (by decide) (by decide) (by decide) (by decide), _, 11, rfl, rfl, .inl ⟨_, rfl, _, 2147483647, rfl, rfl, (by decide : (2147483647:Int) ≠ 0), _, rfl, b, _, 1, 1, rfl, rfl, D3.hb, rfl, ?_⟩⟩
    have D4 := D3.setb _ hm2 hm3
    refine ⟨_, rfl, b, _, 1, .int _, rfl, rfl, .inl (.inl D4.hb), rfl, _, 64, rfl, rfl, ⟨by decide, by decide⟩, .inl ⟨_, rfl, _, rfl, _, m, rfl, rfl, by omega, q _ _ (.int _) (hm _ ?_ ?_) rfl D4.kp D4.I⟩⟩
    · exact Int.fmod_nonneg_of_pos _ m0
    · exact Int.fmod_lt_of_pos _ m0
  · have e : (!(l ++ [x]).isEmpty) = true := by simp
    rw [List.concat_eq_append] at D D2 ⊢
    rw [e]
    rw [if_pos rfl]
    refine ⟨_, rfl, b, _, 0, _, rfl, rfl, .inl (.inl D2.hb), rfl, 1, rfl, c, _, Int.neg 1, .int x, rfl, rfl, .inl (.inl D2.hc), ?_, rfl, _, rfl, ?_⟩
    · rw [List.map_append]; exact atI_last _ _
    rw [dec_int]
    by_cases hx : x = 0
    · subst hx
      show (if true = true then _ else _)
      rw [if_pos rfl]
      refine ⟨_, fun σ' H' h => h, _, rfl, b, _, 0, _, rfl, rfl, .inl (.inl D2.hb), rfl, .inl ⟨rfl, _, .inl (.inl D2.hc)⟩, c, _, _, rfl, rfl, D2.hc, lastInt l 0, l.length, by simp, rfl, l, k, D2.setc l (fun y hy => D2.nn y (List.mem_append_left _ hy)) (by have := D2.few; simp at this; omega) (dropInt l 0), rfl⟩
    · have e2 : (x == 0) = false := by simpa using hx
      rw [e2]
      show (if false = true then _ else _)
      rw [if_neg Bool.false_ne_true]
      refine tA H2 (l ++ [x]) k _ D2 fun H3 D3 => ?_
      rw [e, if_pos rfl]
      have D4 := D3.setc l (fun y hy => D3.nn y (List.mem_append_left _ hy)) (by have := D3.few; simp at this; omega) (dropInt l x)
      have x0 : 0 ≤ x := D3.nn x (List.mem_append_right _ List.mem_cons_self)
      have x1 : 0 ≤ x.fdiv m := Int.fdiv_nonneg x0 (Int.le_of_lt m0)
      refine ⟨_, rfl, b, _, 0, _, rfl, rfl, .inl (.inl D3.hb), rfl, .inl ⟨rfl, _, .inl (.inl D3.hc)⟩, c, _, _, rfl, rfl, D3.hc, lastInt l x, ?_⟩
      refine ⟨_, rfl, b, _, 0, _, rfl, rfl, .inl (.inl D4.hb), rfl, .inl ⟨rfl, _, .inl (.inl D4.hc)⟩, _, rfl, _, rfl, x, m, rfl, rfl, ⟨by omega, by omega⟩, c, _, _, rfl, rfl, D4.hc, ?_, ?_⟩
      · have := D4.few
        exact Nat.lt_of_le_of_lt (by simpa using this) (by decide)
      have D5 := D4.setc (l ++ [x.fdiv m]) (fun y hy => ?_) ?_ (xs := _ ++ [V.int (x.fdiv m)]) (by rw [List.map_append]; rfl)
      · refine ⟨_, rfl, .inl ⟨_, rfl, _, rfl, x, m, rfl, rfl, by omega, q _ _ (.int _) (hm _ ?_ ?_) rfl D5.kp D5.I⟩⟩
        · exact Int.fmod_nonneg_of_pos _ m0
        · exact Int.fmod_lt_of_pos _ m0
      · rcases List.mem_append.mp hy with z | z
        · exact D4.nn y z
        · rw [List.mem_singleton.mp z]; exact x1
      · have := D3.few
        simpa using this

def F__law_shown : FD := fun ds Φ => ∃ (own : List RI) (s : Int), ds = [.list (own.map dI), .int s] ∧ own.length ≤ 100 ∧ Scl s ∧ Φ (dB (shown own s))
theorem len__law_shown {ds Φ} (h : F__law_shown ds Φ) : ds.length = 2 := by obtain ⟨a, b, e, _⟩ := h; rw [e]; rfl
-- slots of _law_shown: 0 _law_own, 1 _law_scale, 2 _law_ends, 3 _law_end_here
def ws__law_shown : WS :=
  (wRet (wCall fTuple (wCons (wFv (wLc (wListI (wVar 0)) (gN 2) wYes (wCall fTuple (wCons (wFv (wLc (wTupI (wVar 2)) (gN 3) wYes (wIfE (wTest (wOp fIs (wVar 3) (wC .none))) (wC .none) (wG F__law_lowest 2 0 [0, 1] (wCons (wVar 3) (wCons (wVar 1) wNil)) wNil)) [3])) wNil)) [2])) wNil)))

def lowD (s : Int) : PyData → PyData
  | .int v => dF (low v s)
  | _ => .none
def shD (s : Int) : PyData → PyData
  | .tuple xs => .tuple (xs.map (lowD s))
  | _ => .none
theorem lowD_dO (s : Int) : ∀ o : Option Int, lowD s (dO o) = dE (shE s o)
  | none => rfl
  | some v => rfl
theorem sem__law_shown (ds : List PyData) (Φ : PyData → Prop) (h : F__law_shown ds Φ) : ws__law_shown (retX Φ) (ev0 4 ds) := by
  obtain ⟨own, s, rfl, hl, hs, h⟩ := h
  refine lc_map (ds := own.map dI) (shD s) rfl (fun Ψ h => h) (by rw [List.length_map]; omega) (fun d hd Ψ hq => ?_) ?_
  · obtain ⟨r, _, rfl⟩ := List.mem_map.mp hd
    refine ⟨(by decide : 2 < 4), ?_⟩
    refine lc_map (ds := [dO r.1, dO r.2]) (lowD s) rfl (fun Ψ h => h) (by decide : 2 ≤ 100000) (fun d hd Ψ hq => ?_) hq
    refine ⟨(by decide : 3 < 4), ?_⟩
    have two : d = dO r.1 ∨ d = dO r.2 := by simpa using hd
    have one : ∀ o : Option Int, d = dO o → (wIfE (wTest (wOp fIs (wVar 3) (wC .none))) (wC .none) (wG F__law_lowest 2 0 [0, 1] (wCons (wVar 3) (wCons (wVar 1) wNil)) wNil)) (put (wipeE (put (wipeE (ev0 4 [.list (own.map dI), .int s]) [2]) 2 (.d (dI r))) [3]) 3 (.d d)) Ψ := fun o e => by
      subst e
      cases o with
      | none => exact hq
      | some v => exact ⟨rfl, rfl, v, s, rfl, hs, hq⟩
    exact two.elim (one _) (one _)
  · have e : (own.map dI).map (shD s) = (shown own s).map dR := by
      unfold shown
      rw [List.map_map, List.map_map]
      refine List.map_congr_left fun r _ => ?_
      show PyData.tuple [lowD s (dO r.1), lowD s (dO r.2)] = dR (shR s r)
      rw [lowD_dO, lowD_dO]
      rfl
    rw [e]
    exact h

theorem dv__law_shown (T : Tx W mg) (c__law_lowest : Cal P w W.K mg base 1 "_law_lowest" s__law_lowest ["_law_over", "_law_under"] (spP W 2 F__law_lowest)) (cdv : Value) (A : Around) (env : List Env) (s : Shared) (H : Hp) (E : XK) (N0 : Addr → Prop) {f : Addr} (hr : Rg 1 (A.deeper (envOfC "_law_shown" (defScope s__law_shown) s.heap.objs.size f cdv))) :
    PSs (cxOf CX0 P w W.K mg base ["_law_own", "_law_scale", "_law_ends", "_law_end_here"] "_law_shown" (defScope s__law_shown) f cdv A env s H E).nox (defBody s__law_shown) (upS ⟨W, Res.none, N0, H⟩ ws__law_shown) := by
  have hu : (A.deeper (envOfC "_law_shown" (defScope s__law_shown) s.heap.objs.size f cdv)).units + 65 < cLine := by have := hr.room.un; omega
  have nd := sc__law_shown.nd
  exact (dss_one (ds_ret (de_callT (s := true) call_tuple_of cd_tuple (by rfl) T.m_tuple boot_tuple (da_cons (de_fv (df_lc (own := [("_law_ends", 2)]) rfl nd (di_list rfl (de_var 0)) (blkOk_by (by rfl)) (fun _ _ _ _ _ => (dg_name 2 nd)) (fun _ _ _ _ _ => dts_nil) (fun _ _ _ _ _ => (de_callT (s := true) call_tuple_of cd_tuple (by rfl) T.m_tuple boot_tuple (da_cons (de_fv (df_lc (own := [("_law_end_here", 3)]) rfl nd (di_tup rfl (de_var 2)) (blkOk_by (by rfl)) (fun _ _ _ _ _ => (dg_name 3 nd)) (fun _ _ _ _ _ => dts_nil) (fun _ _ _ _ _ => (de_ife (dt_cmp op_isU od_is (de_var 3) (de_non (s := true)) (nomark _)) (de_non (s := true)) (de_callP c__law_lowest rfl hr kb__law_lowest_2 (by decide) (by rfl) (da_cons (de_var 3) (da_cons (de_var 1) (da_nil (s := true))))))))) (da_nil (s := true))))))) (da_nil (s := true))))))
theorem ok__law_shown (T : Tx W mg) (c__law_lowest : Cal P w W.K mg base 1 "_law_lowest" s__law_lowest ["_law_over", "_law_under"] (spP W 2 F__law_lowest)) {f : Addr} {fd : FuncData} (Fn : Fun W.K "_law_shown" "_law_shown" s__law_shown f fd) : FnG P w W.K mg base CX0 2 f fd ["_law_own", "_law_scale"] (spP W 2 F__law_shown) :=
  ok_pure Fn sc__law_shown (by decide) (fun ds Φ h => len__law_shown h) fun cdv A env s H E N0 hr => ⟨ws__law_shown, dv__law_shown T c__law_lowest cdv A env s H E N0 hr, fun ds Φ h => sem__law_shown ds Φ h⟩

def F__law_fractions : FD := fun ds Φ => ∃ (ks : List Int) (s : Int), ds = [dInts ks, .int s] ∧ ks.length ≤ 1000 ∧ Scl s ∧ Φ (.list ((ks.map (low · s)).map dF))
theorem len__law_fractions {ds Φ} (h : F__law_fractions ds Φ) : ds.length = 2 := by obtain ⟨a, b, e, _⟩ := h; rw [e]; rfl
-- slots of _law_fractions: 0 _law_some, 1 _law_scale, 2 _law_value
def ws__law_fractions : WS :=
  (wRet (wFv (wLc (wListI (wVar 0)) (gN 2) wYes (wG F__law_lowest 2 0 [0, 1] (wCons (wVar 2) (wCons (wVar 1) wNil)) wNil) [2])))

theorem sem__law_fractions (ds : List PyData) (Φ : PyData → Prop) (h : F__law_fractions ds Φ) : ws__law_fractions (retX Φ) (ev0 3 ds) := by
  obtain ⟨ks, s, rfl, hl, hs, h⟩ := h
  refine lc_map (ds := ks.map .int) (fun d => match d with | .int v => dF (low v s) | _ => .none) rfl (fun Ψ h => h) (by rw [List.length_map]; omega) (fun d hd Ψ q => ⟨(by decide : 2 < 3), ?_⟩) ?_
  · obtain ⟨v, _, rfl⟩ := List.mem_map.mp hd
    exact ⟨rfl, rfl, v, s, rfl, hs, q⟩
  · rw [List.map_map] at h ⊢
    exact h

theorem dv__law_fractions (T : Tx W mg) (c__law_lowest : Cal P w W.K mg base 1 "_law_lowest" s__law_lowest ["_law_over", "_law_under"] (spP W 2 F__law_lowest)) (cdv : Value) (A : Around) (env : List Env) (s : Shared) (H : Hp) (E : XK) (N0 : Addr → Prop) {f : Addr} (hr : Rg 1 (A.deeper (envOfC "_law_fractions" (defScope s__law_fractions) s.heap.objs.size f cdv))) :
    PSs (cxOf CX0 P w W.K mg base ["_law_some", "_law_scale", "_law_value"] "_law_fractions" (defScope s__law_fractions) f cdv A env s H E).nox (defBody s__law_fractions) (upS ⟨W, Res.none, N0, H⟩ ws__law_fractions) := by
  have hu : (A.deeper (envOfC "_law_fractions" (defScope s__law_fractions) s.heap.objs.size f cdv)).units + 65 < cLine := by have := hr.room.un; omega
  have nd := sc__law_fractions.nd
  exact (dss_one (ds_ret (de_fv (df_lc (own := [("_law_value", 2)]) rfl nd (di_list rfl (de_var 0)) (blkOk_by (by rfl)) (fun _ _ _ _ _ => (dg_name 2 nd)) (fun _ _ _ _ _ => dts_nil) (fun _ _ _ _ _ => (de_callP c__law_lowest rfl hr kb__law_lowest_2 (by decide) (by rfl) (da_cons (de_var 2) (da_cons (de_var 1) (da_nil (s := true))))))))))
theorem ok__law_fractions (T : Tx W mg) (c__law_lowest : Cal P w W.K mg base 1 "_law_lowest" s__law_lowest ["_law_over", "_law_under"] (spP W 2 F__law_lowest)) {f : Addr} {fd : FuncData} (Fn : Fun W.K "_law_fractions" "_law_fractions" s__law_fractions f fd) : FnG P w W.K mg base CX0 2 f fd ["_law_some", "_law_scale"] (spP W 2 F__law_fractions) :=
  ok_pure Fn sc__law_fractions (by decide) (fun ds Φ h => len__law_fractions h) fun cdv A env s H E N0 hr => ⟨ws__law_fractions, dv__law_fractions T c__law_lowest cdv A env s H E N0 hr, fun ds Φ h => sem__law_fractions ds Φ h⟩

structure TsOk (ts : List Tst) : Prop where
  few : ∀ t ∈ ts, t.1.length ≤ 1000
  sml : ∀ t ∈ ts, ∀ v ∈ t.1, Sml v
def F__law_box_right : FD := fun ds Φ => ∃ (o : Option (List Rn)) (ts : List Tst) (due : List (List Int)) (s : Int), ds = [dOB o, .list (ts.map dT), .list (due.map dInts), .int s] ∧ (∀ b, o = some b → OkB b) ∧ due.length ≤ 100 ∧ ts.length = due.length ∧ TsOk ts ∧ Scl s ∧
  Φ (.bool (boxRight o ts due s))
theorem len__law_box_right {ds Φ} (h : F__law_box_right ds Φ) : ds.length = 4 := by obtain ⟨a, b, c, d, e, _⟩ := h; rw [e]; rfl
-- slots of _law_box_right: 0 _law_box, 1 _law_tests_here, 2 _law_due, 3 _law_scale, 4 _law_at, 5 _law_values, 6 _law_ends, 7 _law_some, 8 _law_value
def ws__law_box_right : WS :=
  (wSq (wIf (wTest (wCall fAny (wCons (wFv (wLc (wListI (wVar 2)) (gN 7) wYes (wOp fEq (wCall fLen (wCons (wVar 7) wNil)) (wC (.int 0))) [7])) wNil)))
  (wRet (wOp fIs (wVar 0) (wC .none)))
  wNx)
  (wSq (wIf (wOr (wNot (wTest (wIsi "tuple" (wVar 0)))) (wTest (wOp fNe (wCall fLen (wCons (wVar 0) wNil)) (wCall fLen (wCons (wVar 2) wNil)))))
  (wRet (wC (.bool false)))
  wNx)
  (wSq (wFor (wRng1 (wCons (wCall fLen (wCons (wVar 2) wNil)) wNil)) (gN 4)
  (wSq (wIf (wOr (wNot (wTest (wIsi "tuple" (wOp fIx (wVar 0) (wVar 4))))) (wTest (wOp fNe (wCall fLen (wCons (wOp fIx (wVar 0) (wVar 4)) wNil)) (wC (.int 2)))))
  (wRet (wC (.bool false)))
  wNx)
  (wSq (wAs (wOp fIx (wVar 1) (wVar 4)) (gT 2 (gsCons (gN 5) (gsCons (gN 6) gsNil))))
  (wSq (wIf (wOr (wNot (wTest (wG F__law_is_end 2 0 [0, 1] (wCons (wOp fIx (wOp fIx (wVar 0) (wVar 4)) (wC (.int 0))) (wCons (wVar 6) wNil)) wNil))) (wNot (wTest (wG F__law_is_end 2 0 [0, 1] (wCons (wOp fIx (wOp fIx (wVar 0) (wVar 4)) (wC (.int 1))) (wCons (wVar 6) wNil)) wNil))))
  (wRet (wC (.bool false)))
  wNx)
  (wIf (wTest (wOp fNe (wFv (wLc (wListI (wVar 5)) (gN 8) (wTest (wG F__law_told_has 3 0 [0, 1, 2] (wCons (wOp fIx (wVar 0) (wVar 4)) (wCons (wVar 8) (wCons (wVar 3) wNil))) wNil)) (wVar 8) [8])) (wOp fIx (wVar 2) (wVar 4))))
  (wRet (wC (.bool false)))
  wNx)))))
  (wRet (wC (.bool true))))))

def emptyD : PyData → Bool
  | .list xs => PyData.eqv (.int (xs.length : Nat)) (.int 0)
  | _ => false
theorem emptyD_dInts (ks : List Int) : emptyD (dInts ks) = ks.isEmpty := by
  show PyData.eqv (.int ((ks.map PyData.int).length : Nat)) (.int 0) = _
  rw [eqv_int, List.length_map]
  cases ks with
  | nil => rfl
  | cons k ks =>
    rw [List.length_cons]
    exact decide_eq_false (by omega)
theorem sem__law_box_right (ds : List PyData) (Φ : PyData → Prop) (h : F__law_box_right ds Φ) : ws__law_box_right (retX Φ) (ev0 9 ds) := by
  obtain ⟨o, ts, due, s, rfl, ho, hl, ht, tok, hs, h⟩ := h
  refine lc_map (ds := due.map dInts) (fun d => .bool (emptyD d)) rfl (fun Ψ h => h) (by rw [List.length_map]; omega) (fun d hd Ψ q => ?_) ?_
  · obtain ⟨ks, _, rfl⟩ := List.mem_map.mp hd
    exact ⟨(by decide : 7 < 9), fit_int _, fit_int _, q⟩
  refine ⟨due.map fun x => x.isEmpty, ?_, ?_⟩
  · rw [List.map_map, List.map_map]
    refine List.map_congr_left fun x _ => ?_
    show PyData.bool (emptyD (dInts x)) = .bool x.isEmpty
    rw [emptyD_dInts]
  have ea : ((due.map fun x => x.isEmpty).any id) = due.any (fun x => x.isEmpty) := by rw [List.any_map]; rfl
  rw [ea]
  have hb : boxRight o ts due s = if due.any (fun x => x.isEmpty) then isN o else rightAll o ts due s := rfl
  show (if (due.any fun x => x.isEmpty) = true then _ else _)
  cases ce : due.any (fun x => x.isEmpty) with
  | true =>
    rw [if_pos rfl]
    rw [hb, ce, if_pos rfl] at h
    cases o with
    | none => exact h
    | some b => exact h
  | false =>
    rw [if_neg Bool.false_ne_true]
    rw [hb, ce, if_neg Bool.false_ne_true] at h
    cases o with
    | none => exact ⟨false, rfl, fun k z => (nomatch z), h⟩
    | some b =>
      have okb := ho b rfl
      refine ⟨true, rfl, fun k z => (nomatch z), fit_int _, fit_int _, ?_⟩
      have el : PyData.eqv (.int ((b.map dR).length : Nat)) (.int ((due.map dInts).length : Nat)) = decide (b.length = due.length) := by
        rw [eqv_int, List.length_map, List.length_map]
        exact decide_eq_decide.mpr (by omega)
      have h : Φ (.bool (decide (b.length = due.length) && ((b.zip (ts.zip due)).all fun q => right1 s q.1 q.2.1 q.2.2))) := h
      show (if (!PyData.eqv (.int ((b.map dR).length : Nat)) (.int ((due.map dInts).length : Nat))) = true then _ else _)
      rw [el]
      by_cases cl : b.length = due.length
      · rw [decide_eq_true cl] at h ⊢
        rw [if_neg (by decide : ¬ (!true) = true)]
        rw [Bool.true_and] at h
        dsimp only [wNx]
        refine sq (for_all (ds := intsFrom 0 due.length) (fun i ρ => ∃ x y z, ρ = [.d (dB b), .d (.list (ts.map dT)), .d (.list (due.map dInts)), .d (.int s), x, y, z, .u, .u] ∧ ((b.zip (ts.zip due)).take i).all (fun q => right1 s q.1 q.2.1 q.2.2) = true) (fun Ψ h => ?_) ⟨_, _, _, rfl, rfl⟩ (fun i d ρ2 hd hj => ?_) fun ρ2 hj => ?_)
        · refine ⟨?_, ?_, ?_⟩
          · show -(2 ^ 60) < (((due.map dInts).length : Nat) : Int); omega
          · show (((due.map dInts).length : Nat) : Int) < 2 ^ 60; rw [List.length_map]; omega
          · rw [List.length_map, Int.toNat_natCast]; exact h
        · obtain ⟨x, y, z, rfl, hj⟩ := hj
          have hi : i < due.length := by
            have := (List.getElem?_eq_some_iff.mp hd).1
            rw [intsFrom_len] at this
            exact this
          obtain rfl : d = .int (i : Nat) := by rw [intsFrom_get hd, Int.zero_add]
          obtain ⟨r, hr⟩ := at_of (xs := b) (by omega : i < b.length)
          obtain ⟨t, htt⟩ := at_of (xs := ts) (by omega : i < ts.length)
          obtain ⟨e, he⟩ := at_of hi
          have okr := okb.at (List.mem_of_getElem? hr)
          have few := tok.few t (List.mem_of_getElem? htt)
          have sml := tok.sml t (List.mem_of_getElem? htt)
          have hz := zip_at hr (zip_at htt he)
          have ir : atI (b.map dR) (i : Int) = some (dR r) := atM hr
          have it : atI (ts.map dT) (i : Int) = some (dT t) := atM htt
          have ie : atI (due.map dInts) (i : Int) = some (dInts e) := atM he
          have bad : right1 s r t e = false → Φ (.bool false) := fun q => by
            have : (b.zip (ts.zip due)).all (fun q => right1 s q.1 q.2.1 q.2.2) = false := by
              rw [List.all_eq_false]
              exact ⟨_, List.mem_of_getElem? hz, by show ¬ right1 s r t e = true; rw [q]; exact Bool.false_ne_true⟩
            rw [this] at h
            exact h
          have e0 : right1 s r t e = (isEnd r.1 t.2 && isEnd r.2 t.2 && decide (t.1.filter (fun v => told1 r v s) = e)) := rfl
          rw [e0] at bad
          refine ⟨(by decide : 4 < 9), _, ir, true, rfl, fun k z => (nomatch z), _, ir, fit_int _, fit_int _, ?_⟩
          have e2 : PyData.eqv (.int (([dE r.1, dE r.2] : List PyData).length : Nat)) (.int 2) = true := eqv_int 2 2
          show (if (!PyData.eqv (.int (([dE r.1, dE r.2] : List PyData).length : Nat)) (.int 2)) = true then _ else _)
          rw [e2, if_neg (by decide : ¬ (!true) = true)]
          refine ⟨_, it, rfl, (by decide : 5 < 9), (by decide : 6 < 9), ?_⟩
          refine ⟨_, ir, _, rfl, rfl, rfl, r.1, t.2, rfl, ?_⟩
          cases c1 : isEnd r.1 t.2 with
          | false => exact bad (by rw [c1]; rfl)
          | true =>
            refine ⟨_, ir, _, rfl, rfl, rfl, r.2, t.2, rfl, ?_⟩
            cases c2 : isEnd r.2 t.2 with
            | false => exact bad (by rw [c1, c2]; rfl)
            | true =>
              refine lc_filter (ds := t.1.map .int) (fun d => told1 r (intD d) s) id rfl (fun Ψ h => h) (by rw [List.length_map]; omega) (fun d hd Ψ Θ q1 q2 => ?_) ?_
              · obtain ⟨v, hv, rfl⟩ := List.mem_map.mp hd
                refine ⟨(by decide : 8 < 9), _, ir, rfl, rfl, r, v, s, rfl, okr, sml v hv, hs, ?_⟩
                show (if told1 r v s = true then _ else _)
                cases c : told1 r v s with
                | true => exact q1 c
                | false => exact q2 c
              · rw [filter_ints (fun v => told1 r v s)]
                refine ⟨_, ie, fit_of (fit_dInts _), fit_of (fit_dInts e), ?_⟩
                have e3 : PyData.eqv (.list ((t.1.filter fun v => told1 r v s).map .int)) (dInts e) = decide ((t.1.filter fun v => told1 r v s) = e) := eqv_dInts _ e
                show (if (!PyData.eqv (.list ((t.1.filter fun v => told1 r v s).map .int)) (dInts e)) = true then _ else _)
                rw [e3]
                by_cases c3 : (t.1.filter fun v => told1 r v s) = e
                · rw [decide_eq_true c3, if_neg (by decide : ¬ (!true) = true)]
                  refine ⟨_, _, _, rfl, ?_⟩
                  rw [take_more hz, List.all_append, hj, List.all_cons, List.all_nil]
                  show (true && (right1 s r t e && true)) = true
                  rw [e0, c1, c2, decide_eq_true c3]
                  rfl
                · rw [decide_eq_false c3, if_pos (by decide : (!false) = true)]
                  exact bad (by rw [c1, c2, decide_eq_false c3]; rfl)
        · obtain ⟨x, y, z, rfl, hj⟩ := hj
          rw [intsFrom_len, List.take_of_length_le (by rw [List.length_zip, List.length_zip]; omega)] at hj
          rw [hj] at h
          exact h
      · rw [decide_eq_false cl] at h ⊢
        rw [if_pos (by decide : (!false) = true)]
        exact h

theorem dv__law_box_right (T : Tx W mg) (c__law_is_end : Cal P w W.K mg base 1 "_law_is_end" s__law_is_end ["_law_end_here", "_law_ends"] (spP W 2 F__law_is_end)) (c__law_told_has : Cal P w W.K mg base 1 "_law_told_has" s__law_told_has ["_law_ends", "_law_value", "_law_scale"] (spP W 3 F__law_told_has)) (cdv : Value) (A : Around) (env : List Env) (s : Shared) (H : Hp) (E : XK) (N0 : Addr → Prop) {f : Addr} (hr : Rg 1 (A.deeper (envOfC "_law_box_right" (defScope s__law_box_right) s.heap.objs.size f cdv))) :
    PSs (cxOf CX0 P w W.K mg base ["_law_box", "_law_tests_here", "_law_due", "_law_scale", "_law_at", "_law_values", "_law_ends", "_law_some", "_law_value"] "_law_box_right" (defScope s__law_box_right) f cdv A env s H E).nox (defBody s__law_box_right) (upS ⟨W, Res.none, N0, H⟩ ws__law_box_right) := by
  have hu : (A.deeper (envOfC "_law_box_right" (defScope s__law_box_right) s.heap.objs.size f cdv)).units + 65 < cLine := by have := hr.room.un; omega
  have nd := sc__law_box_right.nd
  exact (dss_cons (ds_if (dt_val (de_callB (s := true) (cr_any rfl) cd_any (by rfl) T.m_any boot_any (da_cons (de_fv (df_lc (own := [("_law_some", 7)]) rfl nd (di_list rfl (de_var 2)) (blkOk_by (by rfl)) (fun _ _ _ _ _ => (dg_name 7 nd)) (fun _ _ _ _ _ => dts_nil) (fun _ _ _ _ _ => (de_cmp (op_eqU hu) (od_eq (s := true)) (de_callB (s := true) call_len cd_len (by rfl) T.m_len boot_len (da_cons (de_var 7) (da_nil (s := true)))) (de_int (s := true)) (nomark _))))) (da_nil (s := true))))) (dss_one (ds_ret (de_cmp op_isU (od_is (s := true)) (de_var 0) (de_non (s := true)) (nomark _)))) dss_nil)
  (dss_cons (ds_if ((dw_or (dt_not (dt_val (de_isi (s := true) rfl (by rfl) T.m_isinstance boot_isinstance (de_var 0) (by rfl) T.m_tuple boot_tuple))) (dw_or1 (dt_cmp (op_neU hu) od_ne (de_callB (s := true) call_len cd_len (by rfl) T.m_len boot_len (da_cons (de_var 0) (da_nil (s := true)))) (de_callB (s := true) call_len cd_len (by rfl) T.m_len boot_len (da_cons (de_var 2) (da_nil (s := true)))) (nomark _))))).pt (dss_one (ds_ret (de_bl (s := true)))) dss_nil)
  (dss_cons (ds_for PassesOwn.never rfl (di_rng1 (by rfl) T.m_range (da_cons (de_callB (s := true) call_len cd_len (by rfl) T.m_len boot_len (da_cons (de_var 2) (da_nil (s := true)))) (da_nil (s := true)))) (dg_name 4 nd) (dss_cons (ds_if ((dw_or (dt_not (dt_val (de_isi (s := true) rfl (by rfl) T.m_isinstance boot_isinstance (de_ix rfl (de_var 0) (de_var 4) (fun _ _ => rfl)) (by rfl) T.m_tuple boot_tuple))) (dw_or1 (dt_cmp (op_neU hu) od_ne (de_callB (s := true) call_len cd_len (by rfl) T.m_len boot_len (da_cons (de_ix rfl (de_var 0) (de_var 4) (fun _ _ => rfl)) (da_nil (s := true)))) (de_int (s := true)) (nomark _))))).pt (dss_one (ds_ret (de_bl (s := true)))) dss_nil)
  (dss_cons (ds_asg (de_ix rfl (de_var 1) (de_var 4) (fun _ _ => rfl)) (dg_tup rfl rfl (dgs_cons (dg_name 5 nd) (dgs_cons (dg_name 6 nd) dgs_nil))))
  (dss_cons (ds_if ((dw_or (dt_not (dt_val (de_callP c__law_is_end rfl hr kb__law_is_end_2 (by decide) (by rfl) (da_cons (de_ix rfl (de_ix rfl (de_var 0) (de_var 4) (fun _ _ => rfl)) (de_int (s := true)) (fun _ _ => rfl)) (da_cons (de_var 6) (da_nil (s := true))))))) (dw_or1 (dt_not (dt_val (de_callP c__law_is_end rfl hr kb__law_is_end_2 (by decide) (by rfl) (da_cons (de_ix rfl (de_ix rfl (de_var 0) (de_var 4) (fun _ _ => rfl)) (de_int (s := true)) (fun _ _ => rfl)) (da_cons (de_var 6) (da_nil (s := true)))))))))).pt (dss_one (ds_ret (de_bl (s := true)))) dss_nil)
  (dss_one (ds_if (dt_cmp (op_neU hu) od_ne (de_fv (df_lc (own := [("_law_value", 8)]) rfl nd (di_list rfl (de_var 5)) (blkOk_by (by rfl)) (fun _ _ _ _ _ => (dg_name 8 nd)) (fun _ _ _ _ _ => (dts_one (dt_val (de_callP c__law_told_has rfl hr kb__law_told_has_3 (by decide) (by rfl) (da_cons (de_ix rfl (de_var 0) (de_var 4) (fun _ _ => rfl)) (da_cons (de_var 8) (da_cons (de_var 3) (da_nil (s := true))))))))) (fun _ _ _ _ _ => (de_var 8)))) (de_ix rfl (de_var 2) (de_var 4) (fun _ _ => rfl)) (nomark _)) (dss_one (ds_ret (de_bl (s := true)))) dss_nil))))))
  (dss_one (ds_ret (de_bl (s := true)))))))
theorem ok__law_box_right (T : Tx W mg) (c__law_is_end : Cal P w W.K mg base 1 "_law_is_end" s__law_is_end ["_law_end_here", "_law_ends"] (spP W 2 F__law_is_end)) (c__law_told_has : Cal P w W.K mg base 1 "_law_told_has" s__law_told_has ["_law_ends", "_law_value", "_law_scale"] (spP W 3 F__law_told_has)) {f : Addr} {fd : FuncData} (Fn : Fun W.K "_law_box_right" "_law_box_right" s__law_box_right f fd) : FnG P w W.K mg base CX0 2 f fd ["_law_box", "_law_tests_here", "_law_due", "_law_scale"] (spP W 4 F__law_box_right) :=
  ok_pure Fn sc__law_box_right (by decide) (fun ds Φ h => len__law_box_right h) fun cdv A env s H E N0 hr => ⟨ws__law_box_right, dv__law_box_right T c__law_is_end c__law_told_has cdv A env s H E N0 hr, fun ds Φ h => sem__law_box_right ds Φ h⟩

def F__law_all_in : FD := fun ds Φ => ∃ (r : RI) (t : Tst), ds = [dI r, dT t] ∧ t.1.length ≤ 1000 ∧ Φ (dInts (allIn r t))
theorem len__law_all_in {ds Φ} (h : F__law_all_in ds Φ) : ds.length = 2 := by obtain ⟨a, b, e, _⟩ := h; rw [e]; rfl
-- slots of _law_all_in: 0 _law_ends, 1 _law_tests_here, 2 _law_value
def ws__law_all_in : WS :=
  (wRet (wFv (wLc (wListI (wOp fIx (wVar 1) (wC (.int 0)))) (gN 2) (wTest (wG F__law_has 2 0 [0, 1] (wCons (wVar 0) (wCons (wVar 2) wNil)) wNil)) (wVar 2) [2])))

theorem sem__law_all_in (ds : List PyData) (Φ : PyData → Prop) (h : F__law_all_in ds Φ) : ws__law_all_in (retX Φ) (ev0 3 ds) := by
  obtain ⟨r, t, rfl, hl, h⟩ := h
  refine lc_filter (ds := t.1.map .int) (fun d => has1 r (intD d)) id rfl (fun Ψ h => ⟨_, rfl, h⟩) (by rw [List.length_map]; omega) (fun d hd Ψ Θ q1 q2 => ⟨(by decide : 2 < 3), ?_⟩) ?_
  · obtain ⟨v, _, rfl⟩ := List.mem_map.mp hd
    refine ⟨rfl, rfl, r, v, rfl, ?_⟩
    show (if has1 r v = true then _ else _)
    cases c : has1 r v with
    | true => exact q1 c
    | false => exact q2 c
  · rw [filter_ints]
    exact h

theorem dv__law_all_in (T : Tx W mg) (c__law_has : Cal P w W.K mg base 1 "_law_has" s__law_has ["_law_ends", "_law_value"] (spP W 2 F__law_has)) (cdv : Value) (A : Around) (env : List Env) (s : Shared) (H : Hp) (E : XK) (N0 : Addr → Prop) {f : Addr} (hr : Rg 1 (A.deeper (envOfC "_law_all_in" (defScope s__law_all_in) s.heap.objs.size f cdv))) :
    PSs (cxOf CX0 P w W.K mg base ["_law_ends", "_law_tests_here", "_law_value"] "_law_all_in" (defScope s__law_all_in) f cdv A env s H E).nox (defBody s__law_all_in) (upS ⟨W, Res.none, N0, H⟩ ws__law_all_in) := by
  have hu : (A.deeper (envOfC "_law_all_in" (defScope s__law_all_in) s.heap.objs.size f cdv)).units + 65 < cLine := by have := hr.room.un; omega
  have nd := sc__law_all_in.nd
  exact (dss_one (ds_ret (de_fv (df_lc (own := [("_law_value", 2)]) rfl nd (di_list rfl (de_ix rfl (de_var 1) (de_int (s := true)) (fun _ _ => rfl))) (blkOk_by (by rfl)) (fun _ _ _ _ _ => (dg_name 2 nd)) (fun _ _ _ _ _ => (dts_one (dt_val (de_callP c__law_has rfl hr kb__law_has_2 (by decide) (by rfl) (da_cons (de_var 0) (da_cons (de_var 2) (da_nil (s := true)))))))) (fun _ _ _ _ _ => (de_var 2))))))
theorem ok__law_all_in (T : Tx W mg) (c__law_has : Cal P w W.K mg base 1 "_law_has" s__law_has ["_law_ends", "_law_value"] (spP W 2 F__law_has)) {f : Addr} {fd : FuncData} (Fn : Fun W.K "_law_all_in" "_law_all_in" s__law_all_in f fd) : FnG P w W.K mg base CX0 2 f fd ["_law_ends", "_law_tests_here"] (spP W 2 F__law_all_in) :=
  ok_pure Fn sc__law_all_in (by decide) (fun ds Φ h => len__law_all_in h) fun cdv A env s H E N0 hr => ⟨ws__law_all_in, dv__law_all_in T c__law_has cdv A env s H E N0 hr, fun ds Φ h => sem__law_all_in ds Φ h⟩

def F__law_ends_right : FD := fun ds Φ => ∃ (cs : List Cd) (s : Int), ds = [.list ((cs.map (·.a)).map dI), dB (shB s cs (·.a)), .list ((cs.map (·.t)).map dT), .int s] ∧ cs ≠ [] ∧ cs.length ≤ 100 ∧ (∀ c ∈ cs, CdOk s c) ∧ Scl s ∧ Φ (.bool true)
theorem len__law_ends_right {ds Φ} (h : F__law_ends_right ds Φ) : ds.length + 1 = 5 := by obtain ⟨a, b, e, _⟩ := h; rw [e]; rfl
-- slots of _law_ends_right: 0 _law_heap_here, 1 _law_own, 2 _law_box, 3 _law_tests_here, 4 _law_scale, 5 _law_size, 6 _law_kept, 7 _law_every, 8 _law_there, 9 _law_ends, 10 _law_left, 11 _law_at, 12 _law_end_here
def ws__law_ends_right : WS :=
  (wSq (wPars [5, 6] (wEd (wCall fLen (wCons (wVar 1) wNil)) (wEd (wCall fRepr (wCons (wVar 2) wNil)) wEn)))
  (wSq (wSet 7 (wFv (wLc (wRng1 (wCons (wOp fMul (wC (.int 2)) (wVar 5)) wNil)) (gN 11) wYes (wTup (wCons (wOp fDiv (wVar 11) (wC (.int 2))) (wCons (wOp fMod (wCall fInt (wCons (wVar 11) wNil)) (wC (.int 2))) wNil))) [11])))
  (wSq (wSet 8 (wCall fTuple (wCons (wFv (wLc (wListI (wVar 7)) (gN 12) (wTest (wOp fIsNot (wOp fIx (wOp fIx (wVar 1) (wOp fIx (wVar 12) (wC (.int 0)))) (wOp fIx (wVar 12) (wC (.int 1)))) (wC .none))) (wVar 12) [12])) wNil)))
  (wSq (wIf (wOr (wTest (wOp fNe (wCall fRepr (wCons (wG F_box_ends 1 0 [0] (wCons (wVar 2) wNil) wNil) wNil)) (wCall fRepr (wCons (wVar 8) wNil)))) (wOr (wTest (wOp fNe (wG F_box_ends 0 1 [0] wNil (wCons (wVar 2) wNil)) (wVar 8))) (wTest (wOp fNe (wCall fRepr (wCons (wG F_only_ends 2 0 [0, 1] (wCons (wVar 2) (wCons (wVar 8) wNil)) wNil) wNil)) (wCall fRepr (wCons (wVar 2) wNil))))))
  (wRet (wC (.bool false)))
  wNx)
  (wSq (wSet 9 (wCall fTuple (wCons (wFv (wLc (wListI (wVar 7)) (gN 12) (wTest (wOp fGt (wGR 0 F__law_draw 2 (wCons (wC (.int 3)) wNil)) (wC (.int 0)))) (wVar 12) [12])) wNil)))
  (wSq (wSet 10 (wCall fTuple (wCons (wFv (wLc (wRng1 (wCons (wVar 5) wNil)) (gN 11) wYes (wTup (wCons (wIfE (wTest (wOp fIn (wTup (wCons (wVar 11) (wCons (wC (.int 0)) wNil))) (wVar 9))) (wOp fIx (wOp fIx (wVar 2) (wVar 11)) (wC (.int 0))) (wC .none)) (wCons (wIfE (wTest (wOp fIn (wTup (wCons (wVar 11) (wCons (wC (.int 1)) wNil))) (wVar 9))) (wOp fIx (wOp fIx (wVar 2) (wVar 11)) (wC (.int 1))) (wC .none)) wNil))) [11])) wNil)))
  (wSq (wIf (wOr (wTest (wOp fNe (wCall fRepr (wCons (wG F_only_ends 2 0 [0, 1] (wCons (wVar 2) (wCons (wVar 9) wNil)) wNil) wNil)) (wCall fRepr (wCons (wVar 10) wNil)))) (wTest (wOp fNe (wG F_only_ends 0 2 [1, 0] wNil (wCons (wVar 9) (wCons (wVar 2) wNil))) (wVar 10))))
  (wRet (wC (.bool false)))
  wNx)
  (wRet (wAndV (wOp fEq (wG F_only_ends 2 0 [0, 1] (wCons (wVar 2) (wCons (wTup wNil) wNil)) wNil) (wOp fMulT (wTup (wCons (wTup (wCons (wC .none) (wCons (wC .none) wNil))) wNil)) (wVar 5))) (wOp fEq (wCall fRepr (wCons (wVar 2) wNil)) (wVar 6)))))))))))

def everyL (n : Nat) : List (Nat × Nat) := (List.range n).flatMap fun i => [(i, 0), (i, 1)]
theorem every_eq : ∀ n : Nat, (List.range (2 * n)).map (fun k => (k / 2, k % 2)) = everyL n
  | 0 => rfl
  | n + 1 => by
    rw [show 2 * (n + 1) = 2 * n + 1 + 1 by omega, List.range_succ, List.range_succ, List.map_append, List.map_append, every_eq n]
    unfold everyL
    rw [List.range_succ, List.flatMap_append]
    have e1 : 2 * n / 2 = n := by omega
    have e2 : (2 * n + 1) / 2 = n := by omega
    have e3 : 2 * n % 2 = 0 := by omega
    have e4 : (2 * n + 1) % 2 = 1 := by omega
    simp [e1, e2, e3, e4]
theorem every_len (n : Nat) : (everyL n).length = 2 * n := by rw [← every_eq, List.length_map, List.length_range]
theorem every_mem {n : Nat} {p : Nat × Nat} (h : p ∈ everyL n) : p.1 < n ∧ p.2 < 2 := by
  unfold everyL at h
  rw [List.mem_flatMap] at h
  obtain ⟨i, hi, hp⟩ := h
  rw [List.mem_range] at hi
  simp only [List.mem_cons, List.not_mem_nil, or_false] at hp
  rcases hp with rfl | rfl
  · exact ⟨hi, Nat.zero_lt_two⟩
  · exact ⟨hi, Nat.one_lt_two⟩
def hasEnd (cs : List Cd) (p : Nat × Nat) : Bool := match cs[p.1]? with
  | some c => if p.2 = 0 then c.a.1.isSome else c.a.2.isSome
  | none => false
theorem range_zipIdx (cs : List Cd) {β : Type} (h : Nat → List β) : (List.range cs.length).flatMap h = cs.zipIdx.flatMap fun q => h q.2 := by
  have e : cs.zipIdx.map (·.2) = List.range cs.length := by
    rw [List.zipIdx_map_snd, List.range_eq_range']
  rw [← e, List.flatMap_map]
theorem flat_congr {α β : Type} {f g : α → List β} : ∀ {xs : List α}, (∀ x ∈ xs, f x = g x) → xs.flatMap f = xs.flatMap g
  | [], _ => rfl
  | x :: xs, h => by rw [List.flatMap_cons, List.flatMap_cons, h x List.mem_cons_self, flat_congr fun y hy => h y (List.mem_cons_of_mem _ hy)]
theorem there_eq (s : Int) (cs : List Cd) : (everyL cs.length).filter (hasEnd cs) = boxEnds (shB s cs (·.a)) := by
  unfold everyL boxEnds shB
  rw [List.filter_flatMap, range_zipIdx, List.zipIdx_map, List.flatMap_map]
  refine flat_congr fun q hq => ?_
  have hc := mem_zipIdx hq
  have e0 : hasEnd cs (q.2, 0) = q.1.a.1.isSome := by unfold hasEnd; rw [hc]; rfl
  have e1 : hasEnd cs (q.2, 1) = q.1.a.2.isSome := by unfold hasEnd; rw [hc]; rfl
  show [(q.2, 0), (q.2, 1)].filter (hasEnd cs) = ends1 (shR s q.1.a) q.2
  unfold ends1 shR shE
  rw [List.filter_cons, List.filter_cons, e0, e1]
  cases q.1.a.1 <;> cases q.1.a.2 <;> rfl
theorem zip_ext {b : List Rn} {f : Rn × Nat → Rn} (h : ∀ i r, b[i]? = some r → f (r, i) = r) : b.zipIdx.map f = b := by
  refine List.ext_getElem? fun i => ?_
  rw [List.getElem?_map, List.getElem?_zipIdx]
  cases e : b[i]? with
  | none => rfl
  | some r =>
    show some (f (r, 0 + i)) = some r
    rw [Nat.zero_add, h i r e]
theorem mem_ends {b : List Rn} {i j : Nat} {r : Rn} (h : b[i]? = some r) : (i, j) ∈ boxEnds b ↔ (i, j) ∈ ends1 r i := by
  unfold boxEnds
  rw [List.mem_flatMap]
  constructor
  · rintro ⟨q, hq, hp⟩
    have e : q.2 = i := by
      unfold ends1 at hp
      rw [List.mem_append] at hp
      rcases hp with hp | hp <;> · split at hp <;> simp at hp; exact hp.1.symm
    obtain ⟨k, hk⟩ := List.mem_iff_getElem?.mp hq
    rw [List.getElem?_zipIdx] at hk
    cases e2 : b[k]? with
    | none => rw [e2] at hk; cases hk
    | some r2 =>
      rw [e2] at hk
      cases hk
      have e : 0 + k = i := e
      rw [Nat.zero_add] at e
      subst e
      rw [h] at e2
      cases e2
      have hp : (k, j) ∈ ends1 r (0 + k) := hp
      rw [Nat.zero_add] at hp
      exact hp
  · intro hp
    refine ⟨(r, i), List.mem_iff_getElem?.mpr ⟨i, ?_⟩, hp⟩
    rw [List.getElem?_zipIdx, h]
    show some (r, 0 + i) = some (r, i)
    rw [Nat.zero_add]
theorem only_all (b : List Rn) : onlyEnds b (boxEnds b) = b := by
  unfold onlyEnds
  refine zip_ext fun i r h => ?_
  unfold only1
  dsimp only
  have m0 := mem_ends (j := 0) h
  have m1 := mem_ends (j := 1) h
  obtain ⟨l, u⟩ := r
  unfold ends1 at m0 m1
  cases l <;> cases u <;> simp at m0 m1 <;> simp [m0, m1]
theorem only_none (b : List Rn) : onlyEnds b [] = freeB b.length := by
  unfold onlyEnds freeB
  refine List.ext_getElem? fun i => ?_
  rw [List.getElem?_map, List.getElem?_zipIdx, List.getElem?_replicate]
  by_cases h : i < b.length
  · rw [List.getElem?_eq_getElem h, if_pos h]
    simp [only1]
  · rw [List.getElem?_eq_none (by omega), if_neg h]
    rfl
theorem only_ok {b : List Rn} (h : OkB b) (es : List (Nat × Nat)) : OkB (onlyEnds b es) := by
  unfold onlyEnds
  refine ⟨by rw [List.length_map, List.length_zipIdx]; exact h.1, fun r hr => ?_⟩
  obtain ⟨q, hq, rfl⟩ := List.mem_map.mp hr
  have hq1 : q.1 ∈ b := by
    obtain ⟨k, hk⟩ := List.mem_iff_getElem?.mp hq
    rw [List.getElem?_zipIdx] at hk
    cases e2 : b[k]? with
    | none => rw [e2] at hk; cases hk
    | some r2 =>
      rw [e2] at hk
      cases hk
      exact List.mem_of_getElem? e2
  have o := h.2 _ hq1
  unfold only1
  refine ⟨?_, ?_⟩
  · dsimp only; split
    · exact o.1
    · trivial
  · dsimp only; split
    · exact o.2
    · trivial
def evD (d : PyData) : PyData := dP ((intD d).toNat / 2, (intD d).toNat % 2)
theorem sem__law_ends_right (ds : List PyData) (Φ : PyData → Prop) (h : F__law_ends_right ds Φ) : ws__law_ends_right (retX Φ) (ev1 13 ds) := by
  obtain ⟨cs, s, rfl, ne, hl, hc, hs, h⟩ := h
  have h0 := hs.1
  have n1 : 1 ≤ cs.length := List.length_pos_iff.mpr ne
  have atA : ∀ {i : Nat} {c : Cd}, cs[i]? = some c → atI ((cs.map (·.a)).map dI) (i : Int) = some (dI c.a) := fun q => atM (by rw [List.getElem?_map, q]; rfl)
  have atBx : ∀ {i : Nat} {c : Cd}, cs[i]? = some c → atI ((shB s cs (·.a)).map dR) (i : Int) = some (dR (shR s c.a)) := fun q => atM (by unfold shB; rw [List.getElem?_map, q]; rfl)
  have eA : ((cs.map (·.a)).map dI).length = cs.length := by rw [List.length_map, List.length_map]
  have okA : OkB (shB s cs (·.a)) := box_ok hs hl _ fun c q => (hc c q).ga
  have lenA : (shB s cs (·.a)).length = cs.length := List.length_map _
  obtain ⟨b, hb⟩ : ∃ b, b = shB s cs (·.a) := ⟨_, rfl⟩
  have atBx : ∀ {i : Nat} {c : Cd}, cs[i]? = some c → atI (b.map dR) (i : Int) = some (dR (shR s c.a)) := by rw [hb]; exact atBx
  rw [← hb] at okA lenA
  have there := there_eq s cs
  rw [← hb] at there ⊢
  have shB_ := show_dB okA
  refine ⟨fit_of (fit_dB b), shB_.1, shB_.2, rfl, ⟨(by decide : 2 ≤ 100000), ltI (n := 13) (by decide) rfl⟩, ?_⟩
  dsimp only
  -- all places
  refine lc_map (ds := DL.intsFrom 0 (2 * cs.length)) evD rfl (fun Ψ q => ?_) (by rw [intsFrom_len]; omega) (fun d hd Ψ q => ?_) ?_
  · refine ⟨wide_mul (a := 10) (b := 20) (by decide) (by rw [eA, Int.natAbs_natCast]; omega) (by decide) (by decide) (by decide), ?_, ?_, ?_⟩
    · show -(2 ^ 60) < 2 * (((cs.map (·.a)).map dI).length : Int); omega
    · show 2 * (((cs.map (·.a)).map dI).length : Int) < 2 ^ 60; rw [eA]; omega
    · rw [eA, show (2 * ((cs.length : Nat) : Int)).toNat = 2 * cs.length by omega]; exact q
  · obtain ⟨k, hk, e⟩ := List.getElem_of_mem hd
    have e2 := intsFrom_get (lo := 0) (n := 2 * cs.length) (i := k) (e := d) (by rw [List.getElem?_eq_getElem hk, e])
    rw [Int.zero_add] at e2
    subst e2
    have d1 : ((k : Nat) : Int).fdiv 2 = ((k / 2 : Nat) : Int) := by rw [Int.fdiv_eq_ediv_of_nonneg _ (by decide)]; rfl
    have d2 : ((k : Nat) : Int).fmod 2 = ((k % 2 : Nat) : Int) := by rw [Int.fmod_eq_emod_of_nonneg _ (by decide)]; rfl
    refine ⟨(by decide : 11 < 13), .inl ⟨by decide, by decide⟩, (by decide : (2 : Int) ≠ 0), (by decide : 2 ≤ 100000), ?_⟩
    show Ψ (.tuple [.int (((k : Nat) : Int).fdiv 2), .int (((k : Nat) : Int).fmod 2)])
    rw [d1, d2]
    exact q
  have eE : (DL.intsFrom 0 (2 * cs.length)).map evD = (everyL cs.length).map dP := by
    rw [← every_eq]
    unfold DL.intsFrom
    rw [List.map_map, List.map_map]
    refine List.map_congr_left fun k _ => ?_
    show dP ((((0 : Int) + (k : Nat))).toNat / 2, (((0 : Int) + (k : Nat))).toNat % 2) = dP (k / 2, k % 2)
    rw [Int.zero_add, Int.toNat_natCast]
  rw [eE]
  dsimp only
  -- those that are there
  have isEnd2 : ∀ p ∈ everyL cs.length, ∀ Ψ : PyData → Prop, Ψ (.bool (hasEnd cs p)) → (wOp fIsNot (wOp fIx (wOp fIx (wVar 1) (wOp fIx (wVar 12) (wC (.int 0)))) (wOp fIx (wVar 12) (wC (.int 1)))) (wC .none)) (put (wipeE (put (puts (ev1 13 [.list ((cs.map (·.a)).map dI), dB b, .list ((cs.map (·.t)).map dT), .int s]) [5, 6] [.d (.int (((cs.map (·.a)).map dI).length : Nat)), .d (.str (dB b).shown)]) 7 (.d (.list ((everyL cs.length).map dP)))) [12]) 12 (.d (dP p))) Ψ := fun p hp Ψ q => by
    obtain ⟨p1, p2⟩ := every_mem hp
    obtain ⟨c, hcc⟩ := at_of p1
    refine ⟨_, rfl, _, atA hcc, _, rfl, ?_⟩
    unfold hasEnd at q
    rw [hcc] at q
    dsimp only at q
    obtain ⟨i, j⟩ := p
    have p2 : j < 2 := p2
    match j, p2 with
    | 0, _ =>
      refine ⟨dO c.a.1, rfl, ?_⟩
      have e : (!isNone (dO c.a.1)) = c.a.1.isSome := by cases c.a.1 <;> rfl
      show Ψ (.bool (!isNone (dO c.a.1)))
      rw [e]
      exact q
    | 1, _ =>
      refine ⟨dO c.a.2, rfl, ?_⟩
      have e : (!isNone (dO c.a.2)) = c.a.2.isSome := by cases c.a.2 <;> rfl
      show Ψ (.bool (!isNone (dO c.a.2)))
      rw [e]
      exact q
  refine lc_filter (ds := (everyL cs.length).map dP) (fun d => match d with | .tuple [.int i, .int j] => hasEnd cs (i.toNat, j.toNat) | _ => false) id rfl (fun Ψ q => q) (by rw [List.length_map, every_len]; omega) (fun d hd Ψ Θ q1 q2 => ?_) ?_
  · obtain ⟨p, hp, rfl⟩ := List.mem_map.mp hd
    have q1 : hasEnd cs p = true → Ψ (dP p) := fun k => q1 (by show hasEnd cs ((p.1 : Int).toNat, (p.2 : Int).toNat) = true; rw [Int.toNat_natCast, Int.toNat_natCast]; exact k)
    have q2 : hasEnd cs p = false → Θ := fun k => q2 (by show hasEnd cs ((p.1 : Int).toNat, (p.2 : Int).toNat) = false; rw [Int.toNat_natCast, Int.toNat_natCast]; exact k)
    refine ⟨(by decide : 12 < 13), ?_⟩
    refine isEnd2 p hp _ ?_
    cases k : hasEnd cs p with
    | true => exact q1 k
    | false => exact q2 k
  have eT : (((everyL cs.length).map dP).filter fun d => match d with | .tuple [.int i, .int j] => hasEnd cs (i.toNat, j.toNat) | _ => false).map id = (boxEnds b).map dP := by
    rw [List.map_id, List.filter_map, ← there]
    congr 1
  rw [eT]
  dsimp only
  have tl : (boxEnds b).length ≤ 200 := by
    rw [← there]
    have := List.length_filter_le (hasEnd cs) (everyL cs.length)
    rw [every_len] at this
    omega
  have tb : ∀ p ∈ boxEnds b, p.1 < 2 ^ 20 ∧ p.2 < 2 ^ 20 := fun p hp => by
    rw [← there] at hp
    have := every_mem (List.mem_filter.mp hp).1
    omega
  have shT := show_dPs (es := boxEnds b) (by omega) tb
  have noBT : ∀ es : List (Nat × Nat), noB (.tuple (es.map dP)) = true := fun es => by
    show noBA (es.map dP) = true
    rw [noBA_iff]
    intro x hx
    obtain ⟨p, _, rfl⟩ := List.mem_map.mp hx
    exact noB_dP p
  refine ⟨rfl, rfl, b, rfl, okA.1, fit_of (fit_dPs _), shT.1, shT.2, fit_of (fit_dPs _), shT.1, shT.2, ?_⟩
  show (if (!decide ((PyData.tuple ((boxEnds b).map dP)).shown = (PyData.tuple ((boxEnds b).map dP)).shown)) = true then _ else _)
  rw [decide_eq_true rfl, if_neg (by decide : ¬ (!true) = true)]
  refine ⟨rfl, rfl, b, rfl, okA.1, fit_of (fit_dPs _), fit_of (fit_dPs _), ?_⟩
  show (if (!PyData.eqv (.tuple ((boxEnds b).map dP)) (.tuple ((boxEnds b).map dP))) = true then _ else _)
  rw [eqv_self (noBT _), if_neg (by decide : ¬ (!true) = true)]
  refine ⟨rfl, rfl, b, boxEnds b, rfl, okA.1, ?_⟩
  rw [only_all]
  refine ⟨fit_of (fit_dB b), shB_.1, shB_.2, fit_of (fit_dB b), shB_.1, shB_.2, ?_⟩
  show (if (!decide ((dB b).shown = (dB b).shown)) = true then _ else _)
  rw [decide_eq_true rfl, if_neg (by decide : ¬ (!true) = true)]
  dsimp only [wNx]
  -- some of all places
  refine lc_some (ds := (everyL cs.length).map dP) rfl (fun Ψ q => q) (by rw [List.length_map, every_len]; omega) (fun d hd Ψ Θ q1 q2 => ?_) fun ys hy => ?_
  · refine ⟨(by decide : 12 < 13), rfl, 3, rfl, by decide, by decide, fun r r0 r1 => ?_⟩
    show (if decide ((0 : Int) < r) = true then _ else _)
    cases decide ((0 : Int) < r) with
    | true => exact q1
    | false => exact q2
  obtain ⟨es, hes, rfl⟩ := List.sublist_map_iff.mp hy
  have el : es.length ≤ 200 := by
    have := hes.length_le
    rw [every_len] at this
    omega
  dsimp only
  -- what is left
  refine lc_map (ds := DL.intsFrom 0 cs.length) (fun d => match cs[(intD d).toNat]? with | some c => dR (only1 es (shR s c.a, (intD d).toNat)) | none => .none) rfl (fun Ψ q => ?_) (by rw [intsFrom_len]; omega) (fun d hd Ψ q => ?_) ?_
  · refine ⟨?_, ?_, ?_⟩
    · show -(2 ^ 60) < (((cs.map (·.a)).map dI).length : Int); omega
    · show (((cs.map (·.a)).map dI).length : Int) < 2 ^ 60; rw [eA]; omega
    · rw [eA, Int.toNat_natCast]; exact q
  · obtain ⟨i, c, hi, rfl, _⟩ := spot hd
    have q : Ψ (dR (only1 es (shR s c.a, i))) := by
      have q : Ψ (match cs[((i : Nat) : Int).toNat]? with | some c => dR (only1 es (shR s c.a, ((i : Nat) : Int).toNat)) | none => .none) := q
      rw [Int.toNat_natCast, hi] at q
      exact q
    unfold only1 at q
    refine ⟨(by decide : 11 < 13), (by decide : 2 ≤ 100000), fit_of (fit_dP (i, 0)), fit_of (fit_dPs es), ?_⟩
    have m0 := memP (i, 0) es
    have m1 := memP (i, 1) es
    have e0 : memD (.tuple [.int (i : Nat), .int 0]) (es.map dP) = memD (dP (i, 0)) (es.map dP) := rfl
    have e1 : memD (.tuple [.int (i : Nat), .int 1]) (es.map dP) = memD (dP (i, 1)) (es.map dP) := rfl
    rw [e0, m0]
    by_cases c0 : (i, 0) ∈ es
    · rw [if_pos c0] at q
      rw [decide_eq_true c0]
      refine ⟨_, atBx hi, _, rfl, (by decide : 2 ≤ 100000), fit_of (fit_dP (i, 1)), fit_of (fit_dPs es), ?_⟩
      rw [e1, m1]
      by_cases c1 : (i, 1) ∈ es
      · rw [if_pos c1] at q
        rw [decide_eq_true c1]
        exact ⟨_, atBx hi, _, rfl, (by decide : 2 ≤ 100000), q⟩
      · rw [if_neg c1] at q
        rw [decide_eq_false c1]
        exact ⟨(by decide : 2 ≤ 100000), q⟩
    · rw [if_neg c0] at q
      rw [decide_eq_false c0]
      refine ⟨(by decide : 2 ≤ 100000), fit_of (fit_dP (i, 1)), fit_of (fit_dPs es), ?_⟩
      rw [e1, m1]
      by_cases c1 : (i, 1) ∈ es
      · rw [if_pos c1] at q
        rw [decide_eq_true c1]
        exact ⟨_, atBx hi, _, rfl, (by decide : 2 ≤ 100000), q⟩
      · rw [if_neg c1] at q
        rw [decide_eq_false c1]
        exact ⟨(by decide : 2 ≤ 100000), q⟩
  have eL : (DL.intsFrom 0 cs.length).map (fun d => match cs[(intD d).toNat]? with | some c => dR (only1 es (shR s c.a, (intD d).toNat)) | none => .none) = (onlyEnds b es).map dR := by
    unfold onlyEnds
    rw [hb]
    refine List.ext_getElem? fun i => ?_
    rw [List.getElem?_map, List.getElem?_map, List.getElem?_map, List.getElem?_zipIdx]
    unfold shB
    rw [List.getElem?_map]
    by_cases hi : i < cs.length
    · obtain ⟨d, hd⟩ := at_of (xs := DL.intsFrom 0 cs.length) (i := i) (by rw [intsFrom_len]; exact hi)
      have e2 := intsFrom_get hd
      rw [Int.zero_add] at e2
      rw [hd, e2, List.getElem?_eq_getElem hi]
      show some (match cs[((i : Nat) : Int).toNat]? with | some c => dR (only1 es (shR s c.a, ((i : Nat) : Int).toNat)) | none => .none) = some (dR (only1 es (shR s cs[i].a, 0 + i)))
      rw [Int.toNat_natCast, List.getElem?_eq_getElem hi, Nat.zero_add]
    · rw [List.getElem?_eq_none (by rw [intsFrom_len]; omega), List.getElem?_eq_none (by omega)]
      rfl
  rw [eL]
  dsimp only
  have okL := only_ok okA es
  have shL := show_dB okL
  refine ⟨rfl, rfl, b, es, rfl, okA.1, fit_of (fit_dB _), shL.1, shL.2, fit_of (fit_dB _), shL.1, shL.2, ?_⟩
  show (if (!decide ((dB (onlyEnds b es)).shown = (dB (onlyEnds b es)).shown)) = true then _ else _)
  rw [decide_eq_true rfl, if_neg (by decide : ¬ (!true) = true)]
  refine ⟨rfl, rfl, b, es, rfl, okA.1, fit_of (fit_dB _), fit_of (fit_dB _), ?_⟩
  show (if (!PyData.eqv (dB (onlyEnds b es)) (dB (onlyEnds b es))) = true then _ else _)
  rw [eqv_self (noB_dB _), if_neg (by decide : ¬ (!true) = true)]
  dsimp only [wNx]
  -- none of them
  refine ⟨(by decide : 0 ≤ 100000), rfl, rfl, b, [], rfl, okA.1, ?_⟩
  rw [only_none, lenA]
  have fr : (List.replicate (((cs.map (·.a)).map dI).length : Int).toNat [PyData.tuple [PyData.none, PyData.none]]).flatten = (freeB cs.length).map dR := by
    rw [eA, Int.toNat_natCast]
    unfold freeB
    rw [List.map_replicate]
    generalize cs.length = n
    induction n with
    | zero => rfl
    | succ n ih => rw [List.replicate_succ, List.flatten_cons, ih, List.replicate_succ]; rfl
  refine ⟨(by decide : 2 ≤ 100000), (by decide : 1 ≤ 100000), ?_, ?_, List.cons_ne_nil _ _, (by decide : 1 ≤ 100), ?_⟩
  · rw [eA]; omega
  · rw [eA]; omega
  rw [fr]
  refine ⟨fit_of (fit_dB _), fit_of (fit_dB _), ?_⟩
  show (if PyData.eqv (dB (freeB cs.length)) (dB (freeB cs.length)) = true then _ else _)
  rw [eqv_self (noB_dB _), if_pos rfl]
  refine ⟨fit_of (fit_dB b), shB_.1, shB_.2, ?_⟩
  show Φ (.bool (decide ((dB b).shown = (dB b).shown)))
  rw [decide_eq_true rfl]
  exact h

theorem dv__law_ends_right (T : Tx W mg) (c__law_draw : Cal P w W.K mg base 1 "_law_draw" s__law_draw ["_law_heap_here", "_law_many"] (spR W RR 2 F__law_draw)) (c_box_ends : Cal P w W.K mg base 1 "box_ends" s_box_ends ["box"] (spP W 1 F_box_ends)) (c_only_ends : Cal P w W.K mg base 1 "only_ends" s_only_ends ["box", "ends"] (spP W 2 F_only_ends)) (cdv : Value) (A : Around) (env : List Env) (s : Shared) (H : Hp) (E : XK) (N0 : Addr → Prop) (b c : Addr) {f : Addr} (hr : Rg 1 (A.deeper (envOfC "_law_ends_right" (defScope s__law_ends_right) s.heap.objs.size f cdv))) :
    PSs (cxOf CX0 P w W.K mg base ["_law_heap_here", "_law_own", "_law_box", "_law_tests_here", "_law_scale", "_law_size", "_law_kept", "_law_every", "_law_there", "_law_ends", "_law_left", "_law_at", "_law_end_here"] "_law_ends_right" (defScope s__law_ends_right) f cdv A env s H E).nox (defBody s__law_ends_right) (upS ⟨W, RR b c, N0, H⟩ ws__law_ends_right) := by
  have hu : (A.deeper (envOfC "_law_ends_right" (defScope s__law_ends_right) s.heap.objs.size f cdv)).units + 65 < cLine := by have := hr.room.un; omega
  have nd := sc__law_ends_right.nd
  exact (dss_cons (ds_par2 5 6 rfl nd (ea_d (de_callB (s := true) call_len cd_len (by rfl) T.m_len boot_len (da_cons (de_var 1) (da_nil (s := true)))) (ea_d (de_callB (s := true) (cr_repr hr.free hu) cd_repr (by rfl) T.m_repr boot_repr (da_cons (de_var 2) (da_nil (s := true)))) ea_nil)))
  (dss_cons (ds_lcD 7 (own := [("_law_at", 11)]) rfl nd (sw_true rfl rfl rfl (by decide +kernel)) (di_rng1 (by rfl) T.m_range (da_cons (de_op op_mulU (od_mul (s := true)) (de_int (s := true)) (de_var 5)) (da_nil (s := true)))) (blkOk_by (by rfl)) (fun _ _ _ _ _ => (dg_name 11 nd)) (fun _ _ _ _ _ => dts_nil) (fun _ _ _ _ _ => (de_tup (da_cons (de_op op_divU (od_div (s := true)) (de_var 11) (de_int (s := true))) (da_cons (de_op op_modN (od_mod (s := true)) (de_callT (s := true) call_int1 cd_int (by rfl) T.m_int boot_int (da_cons (de_var 11) (da_nil (s := true)))) (de_int (s := true))) (da_nil (s := true)))))))
  (dss_cons (ds_set 8 nd (de_callT (s := true) call_tuple_of cd_tuple (by rfl) T.m_tuple boot_tuple (da_cons (de_fv (df_lc (own := [("_law_end_here", 12)]) rfl nd (di_list rfl (de_var 7)) (blkOk_by (by rfl)) (fun _ _ _ _ _ => (dg_name 12 nd)) (fun _ _ _ _ _ => (dts_one (dt_cmp op_isnotU od_isnot (de_ix rfl (de_ix rfl (de_var 1) (de_ix rfl (de_var 12) (de_int (s := true)) (fun _ _ => rfl)) (fun _ _ => rfl)) (de_ix rfl (de_var 12) (de_int (s := true)) (fun _ _ => rfl)) (fun _ _ => rfl)) (de_non (s := true)) (nomark _)))) (fun _ _ _ _ _ => (de_var 12)))) (da_nil (s := true)))))
  (dss_cons (ds_if ((dw_or (dt_cmp (op_neU hu) od_ne (de_callB (s := true) (cr_repr hr.free hu) cd_repr (by rfl) T.m_repr boot_repr (da_cons (de_callP c_box_ends rfl hr kb_box_ends_1 (by decide) (by rfl) (da_cons (de_var 2) (da_nil (s := true)))) (da_nil (s := true)))) (de_callB (s := true) (cr_repr hr.free hu) cd_repr (by rfl) T.m_repr boot_repr (da_cons (de_var 8) (da_nil (s := true)))) (nomark _)) (dw_or (dt_cmp (op_neU hu) od_ne (de_callP0 c_box_ends rfl hr kb_box_ends_0_box (by decide) (by rfl) (dk_cons (de_var 2) (dk_nil (s := true)))) (de_var 8) (nomark _)) (dw_or1 (dt_cmp (op_neU hu) od_ne (de_callB (s := true) (cr_repr hr.free hu) cd_repr (by rfl) T.m_repr boot_repr (da_cons (de_callP c_only_ends rfl hr kb_only_ends_2 (by decide) (by rfl) (da_cons (de_var 2) (da_cons (de_var 8) (da_nil (s := true))))) (da_nil (s := true)))) (de_callB (s := true) (cr_repr hr.free hu) cd_repr (by rfl) T.m_repr boot_repr (da_cons (de_var 2) (da_nil (s := true)))) (nomark _)))))).pt (dss_one (ds_ret (de_bl (s := true)))) dss_nil)
  (dss_cons (ds_set 9 nd (de_callT (s := true) call_tuple_of cd_tuple (by rfl) T.m_tuple boot_tuple (da_cons (de_fv (df_lc (own := [("_law_end_here", 12)]) rfl nd (di_list rfl (de_var 7)) (blkOk_by (by rfl)) (fun _ _ _ _ _ => (dg_name 12 nd)) (fun _ _ _ _ _ => (dts_one (dt_cmp op_gt od_gt (de_callR 0 c__law_draw rfl rfl hr (kb__law_draw_2) (by decide) (by rfl) (da_cons (de_int (s := true)) (da_nil (s := true)))) (de_int (s := true)) (nomark _)))) (fun _ _ _ _ _ => (de_var 12)))) (da_nil (s := true)))))
  (dss_cons (ds_set 10 nd (de_callT (s := true) call_tuple_of cd_tuple (by rfl) T.m_tuple boot_tuple (da_cons (de_fv (df_lc (own := [("_law_at", 11)]) rfl nd (di_rng1 (by rfl) T.m_range (da_cons (de_var 5) (da_nil (s := true)))) (blkOk_by (by rfl)) (fun _ _ _ _ _ => (dg_name 11 nd)) (fun _ _ _ _ _ => dts_nil) (fun _ _ _ _ _ => (de_tup (da_cons (de_ife (dt_cmp (op_inU hu) od_in (de_tup (da_cons (de_var 11) (da_cons (de_int (s := true)) (da_nil (s := true))))) (de_var 9) (by with_unfolding_all rfl)) (de_ix rfl (de_ix rfl (de_var 2) (de_var 11) (fun _ _ => rfl)) (de_int (s := true)) (fun _ _ => rfl)) (de_non (s := true))) (da_cons (de_ife (dt_cmp (op_inU hu) od_in (de_tup (da_cons (de_var 11) (da_cons (de_int (s := true)) (da_nil (s := true))))) (de_var 9) (by with_unfolding_all rfl)) (de_ix rfl (de_ix rfl (de_var 2) (de_var 11) (fun _ _ => rfl)) (de_int (s := true)) (fun _ _ => rfl)) (de_non (s := true))) (da_nil (s := true)))))))) (da_nil (s := true)))))
  (dss_cons (ds_if ((dw_or (dt_cmp (op_neU hu) od_ne (de_callB (s := true) (cr_repr hr.free hu) cd_repr (by rfl) T.m_repr boot_repr (da_cons (de_callP c_only_ends rfl hr kb_only_ends_2 (by decide) (by rfl) (da_cons (de_var 2) (da_cons (de_var 9) (da_nil (s := true))))) (da_nil (s := true)))) (de_callB (s := true) (cr_repr hr.free hu) cd_repr (by rfl) T.m_repr boot_repr (da_cons (de_var 10) (da_nil (s := true)))) (nomark _)) (dw_or1 (dt_cmp (op_neU hu) od_ne (de_callP0 c_only_ends rfl hr kb_only_ends_0_ends_box (by decide) (by rfl) (dk_cons (de_var 9) (dk_cons (de_var 2) (dk_nil (s := true))))) (de_var 10) (nomark _))))).pt (dss_one (ds_ret (de_bl (s := true)))) dss_nil)
  (dss_one (ds_ret (de_and (de_cmp (op_eqU hu) (od_eq (s := true)) (de_callP c_only_ends rfl hr kb_only_ends_2 (by decide) (by rfl) (da_cons (de_var 2) (da_cons (de_tup (da_nil (s := true))) (da_nil (s := true))))) (de_op op_mulT (od_mulT (s := true)) (de_tup (da_cons (de_tup (da_cons (de_non (s := true)) (da_cons (de_non (s := true)) (da_nil (s := true))))) (da_nil (s := true)))) (de_var 5)) (nomark _)) (de_one (de_cmp (op_eqU hu) (od_eq (s := true)) (de_callB (s := true) (cr_repr hr.free hu) cd_repr (by rfl) T.m_repr boot_repr (da_cons (de_var 2) (da_nil (s := true)))) (de_var 6) (nomark _)))))))))))))
theorem ok__law_ends_right (T : Tx W mg) (c__law_draw : Cal P w W.K mg base 1 "_law_draw" s__law_draw ["_law_heap_here", "_law_many"] (spR W RR 2 F__law_draw)) (c_box_ends : Cal P w W.K mg base 1 "box_ends" s_box_ends ["box"] (spP W 1 F_box_ends)) (c_only_ends : Cal P w W.K mg base 1 "only_ends" s_only_ends ["box", "ends"] (spP W 2 F_only_ends)) {f : Addr} {fd : FuncData} (Fn : Fun W.K "_law_ends_right" "_law_ends_right" s__law_ends_right f fd) : FnG P w W.K mg base CX0 2 f fd ["_law_heap_here", "_law_own", "_law_box", "_law_tests_here", "_law_scale"] (spR W RR 5 F__law_ends_right) :=
  ok_draw Fn sc__law_ends_right (by decide) (fun ds Φ h => len__law_ends_right h) fun cdv A env s H E N0 b c hr => ⟨ws__law_ends_right, dv__law_ends_right T c__law_draw c_box_ends c_only_ends cdv A env s H E N0 b c hr, fun ds Φ h => sem__law_ends_right ds Φ h⟩

def F__law_fit : FD := fun ds Φ => ∃ (ks : List Int) (s : Int), ds = [dInts ks, .int s] ∧ ks.length ≤ 1000 ∧ Scl s ∧ Φ (dInts (fitF ks s))
theorem len__law_fit {ds Φ} (h : F__law_fit ds Φ) : ds.length = 2 := by obtain ⟨a, b, e, _⟩ := h; rw [e]; rfl
-- slots of _law_fit: 0 _law_values, 1 _law_scale, 2 _law_value
def ws__law_fit : WS :=
  (wRet (wOp fAdd (wFv (wLc (wListI (wVar 0)) (gN 2) (wTest (wOp fLe (wCall fAbs (wCons (wOp fIx (wG F__law_lowest 2 0 [0, 1] (wCons (wVar 2) (wCons (wVar 1) wNil)) wNil) (wC (.int 0))) wNil)) (wOp fPow (wC (.int 10)) (wC (.int 9))))) (wVar 2) [2])) (wLst (wCons (wC (.int 0)) wNil))))

theorem sem__law_fit (ds : List PyData) (Φ : PyData → Prop) (h : F__law_fit ds Φ) : ws__law_fit (retX Φ) (ev0 3 ds) := by
  obtain ⟨ks, s, rfl, hl, hs, h⟩ := h
  refine lc_filter (ds := ks.map .int) (fun d => small9 s (intD d)) id rfl (fun Ψ h => h) (by rw [List.length_map]; omega) (fun d hd Ψ Θ q1 q2 => ⟨(by decide : 2 < 3), ?_⟩) ?_
  · obtain ⟨v, _, rfl⟩ := List.mem_map.mp hd
    refine ⟨rfl, rfl, v, s, rfl, hs, _, rfl, ⟨by decide, by decide, by decide⟩, ?_⟩
    have e : decide ((if (low v s).1 < 0 then -(low v s).1 else (low v s).1) ≤ (10 : Int) ^ (9 : Int).toNat) = small9 s v := by
      rw [abs_nat]; rfl
    show (if decide ((if (low v s).1 < 0 then -(low v s).1 else (low v s).1) ≤ (10 : Int) ^ (9 : Int).toNat) = true then _ else _)
    rw [e]
    cases c : small9 s v with
    | true => exact q1 c
    | false => exact q2 c
  · rw [filter_ints]
    refine ⟨(by decide : 1 ≤ 100000), ?_, ?_⟩
    · have := List.length_filter_le (small9 s) ks
      rw [List.length_map]
      show _ + 1 ≤ 100000
      omega
    · have e : (ks.filter (small9 s)).map PyData.int ++ [.int 0] = (fitF ks s).map .int := by unfold fitF; rw [List.map_append]; rfl
      rw [e]
      exact h

theorem dv__law_fit (T : Tx W mg) (c__law_lowest : Cal P w W.K mg base 1 "_law_lowest" s__law_lowest ["_law_over", "_law_under"] (spP W 2 F__law_lowest)) (cdv : Value) (A : Around) (env : List Env) (s : Shared) (H : Hp) (E : XK) (N0 : Addr → Prop) {f : Addr} (hr : Rg 1 (A.deeper (envOfC "_law_fit" (defScope s__law_fit) s.heap.objs.size f cdv))) :
    PSs (cxOf CX0 P w W.K mg base ["_law_values", "_law_scale", "_law_value"] "_law_fit" (defScope s__law_fit) f cdv A env s H E).nox (defBody s__law_fit) (upS ⟨W, Res.none, N0, H⟩ ws__law_fit) := by
  have hu : (A.deeper (envOfC "_law_fit" (defScope s__law_fit) s.heap.objs.size f cdv)).units + 65 < cLine := by have := hr.room.un; omega
  have nd := sc__law_fit.nd
  exact (dss_one (ds_ret (de_op op_addU (od_add (s := true)) (de_fv (df_lc (own := [("_law_value", 2)]) rfl nd (di_list rfl (de_var 0)) (blkOk_by (by rfl)) (fun _ _ _ _ _ => (dg_name 2 nd)) (fun _ _ _ _ _ => (dts_one (dt_cmp op_le od_le (de_callB (s := true) call_abs cd_abs (by rfl) T.m_abs boot_abs (da_cons (de_ix rfl (de_callP c__law_lowest rfl hr kb__law_lowest_2 (by decide) (by rfl) (da_cons (de_var 2) (da_cons (de_var 1) (da_nil (s := true))))) (de_int (s := true)) (fun _ _ => rfl)) (da_nil (s := true)))) (de_op op_pow (od_pow (s := true)) (de_int (s := true)) (de_int (s := true))) (nomark _)))) (fun _ _ _ _ _ => (de_var 2)))) (de_lst (da_cons (de_int (s := true)) (da_nil (s := true)))))))
theorem ok__law_fit (T : Tx W mg) (c__law_lowest : Cal P w W.K mg base 1 "_law_lowest" s__law_lowest ["_law_over", "_law_under"] (spP W 2 F__law_lowest)) {f : Addr} {fd : FuncData} (Fn : Fun W.K "_law_fit" "_law_fit" s__law_fit f fd) : FnG P w W.K mg base CX0 2 f fd ["_law_values", "_law_scale"] (spP W 2 F__law_fit) :=
  ok_pure Fn sc__law_fit (by decide) (fun ds Φ h => len__law_fit h) fun cdv A env s H E N0 hr => ⟨ws__law_fit, dv__law_fit T c__law_lowest cdv A env s H E N0 hr, fun ds Φ h => sem__law_fit ds Φ h⟩

def F_within : FD := fun ds Φ => ∃ b o : List Rn, ds = [dB b, dB o] ∧ OkB b ∧ OkB o ∧ Φ (.bool (withinF b o))
theorem len_within {ds Φ} (h : F_within ds Φ) : ds.length = 2 := by obtain ⟨a, b, e, _⟩ := h; rw [e]; rfl
-- slots of within: 0 box, 1 other, 2 ends, 3 others
def ws_within : WS :=
  (wSq (wFor (wZip (wCons (wVar 0) (wCons (wVar 1) wNil))) (gT 2 (gsCons (gN 2) (gsCons (gN 3) gsNil)))
  (wIf (wOr (wNot (wTest (wG F_is_low_within 2 0 [0, 1] (wCons (wOp fIx (wVar 2) (wC (.int 0))) (wCons (wOp fIx (wVar 3) (wC (.int 0))) wNil)) wNil))) (wNot (wTest (wG F_is_high_within 2 0 [0, 1] (wCons (wOp fIx (wVar 2) (wC (.int 1))) (wCons (wOp fIx (wVar 3) (wC (.int 1))) wNil)) wNil))))
  (wRet (wC (.bool false)))
  wNx))
  (wRet (wC (.bool true))))

theorem sem_within (ds : List PyData) (Φ : PyData → Prop) (h : F_within ds Φ) : ws_within (retX Φ) (ev0 4 ds) := by
  obtain ⟨b, o, rfl, hb, ho, h⟩ := h
  refine for_all (ds := zipD (b.map dR) (o.map dR)) (fun i ρ => ∃ x y, ρ = [.d (dB b), .d (dB o), x, y] ∧ ((b.zip o).take i).all within1 = true) (fun Ψ h => h) ⟨_, _, rfl, rfl⟩ (fun i d ρ2 hd hj => ?_) fun ρ2 hj => ?_
  · obtain ⟨x, y, rfl, hj⟩ := hj
    rw [zipD_map] at hd
    obtain ⟨p, hp, rfl⟩ := map_at hd
    have hm := zip_mem (List.mem_of_getElem? hp)
    have o1 := hb.at hm.1
    have o2 := ho.at hm.2
    refine ⟨rfl, (by decide : 2 < 4), (by decide : 3 < 4), ?_⟩
    refine ⟨_, rfl, _, rfl, rfl, rfl, _, _, rfl, o1.1, o2.1, ?_⟩
    have bad : within1 p = false → Φ (.bool false) := fun e => by
      have : withinF b o = false := by
        unfold withinF
        rw [List.all_eq_false]
        exact ⟨p, List.mem_of_getElem? hp, by rw [e]; exact Bool.false_ne_true⟩
      rw [← this]; exact h
    cases e1 : lowIn p.1.1 p.2.1 with
    | false => exact bad (by unfold within1; rw [e1]; rfl)
    | true =>
      refine ⟨_, rfl, _, rfl, rfl, rfl, _, _, rfl, o1.2, o2.2, ?_⟩
      cases e2 : highIn p.1.2 p.2.2 with
      | false => exact bad (by unfold within1; rw [e2, Bool.and_false])
      | true =>
        refine ⟨_, _, rfl, ?_⟩
        rw [take_more hp, List.all_append, hj, List.all_cons, List.all_nil]
        unfold within1
        rw [e1, e2]
        rfl
  · obtain ⟨x, y, rfl, hj⟩ := hj
    have : withinF b o = true := by
      unfold withinF
      rw [zipD_map, List.length_map, List.take_length] at hj
      exact hj
    rw [this] at h
    exact h

theorem dv_within (T : Tx W mg) (c_is_high_within : Cal P w W.K mg base 2 "is_high_within" s_is_high_within ["high", "other"] (spP W 2 F_is_high_within)) (c_is_low_within : Cal P w W.K mg base 2 "is_low_within" s_is_low_within ["low", "other"] (spP W 2 F_is_low_within)) (cdv : Value) (A : Around) (env : List Env) (s : Shared) (H : Hp) (E : XK) (N0 : Addr → Prop) {f : Addr} (hr : Rg 2 (A.deeper (envOfC "within" (defScope s_within) s.heap.objs.size f cdv))) :
    PSs (cxOf CX0 P w W.K mg base ["box", "other", "ends", "others"] "within" (defScope s_within) f cdv A env s H E).nox (defBody s_within) (upS ⟨W, Res.none, N0, H⟩ ws_within) := by
  have hu : (A.deeper (envOfC "within" (defScope s_within) s.heap.objs.size f cdv)).units + 65 < cLine := by have := hr.room.un; omega
  have nd := sc_within.nd
  exact (dss_cons (ds_for PassesOwn.never rfl (di_zip rfl (by rfl) T.m_zip (da_cons (de_var 0) (da_cons (de_var 1) (da_nil (s := true))))) (dg_tup rfl rfl (dgs_cons (dg_name 2 nd) (dgs_cons (dg_name 3 nd) dgs_nil))) (dss_one (ds_if ((dw_or (dt_not (dt_val (de_callP c_is_low_within rfl hr kb_is_low_within_2 (by decide) (by rfl) (da_cons (de_ix rfl (de_var 2) (de_int (s := true)) (fun _ _ => rfl)) (da_cons (de_ix rfl (de_var 3) (de_int (s := true)) (fun _ _ => rfl)) (da_nil (s := true))))))) (dw_or1 (dt_not (dt_val (de_callP c_is_high_within rfl hr kb_is_high_within_2 (by decide) (by rfl) (da_cons (de_ix rfl (de_var 2) (de_int (s := true)) (fun _ _ => rfl)) (da_cons (de_ix rfl (de_var 3) (de_int (s := true)) (fun _ _ => rfl)) (da_nil (s := true)))))))))).pt (dss_one (ds_ret (de_bl (s := true)))) dss_nil)))
  (dss_one (ds_ret (de_bl (s := true)))))
theorem ok_within (T : Tx W mg) (c_is_high_within : Cal P w W.K mg base 2 "is_high_within" s_is_high_within ["high", "other"] (spP W 2 F_is_high_within)) (c_is_low_within : Cal P w W.K mg base 2 "is_low_within" s_is_low_within ["low", "other"] (spP W 2 F_is_low_within)) {f : Addr} {fd : FuncData} (Fn : Fun W.K "within" "within" s_within f fd) : FnG P w W.K mg base CX0 3 f fd ["box", "other"] (spP W 2 F_within) :=
  ok_pure Fn sc_within (by decide) (fun ds Φ h => len_within h) fun cdv A env s H E N0 hr => ⟨ws_within, dv_within T c_is_high_within c_is_low_within cdv A env s H E N0 hr, fun ds Φ h => sem_within ds Φ h⟩

def F_greater_low : FD := fun ds Φ => ∃ a b : En, ds = [dE a, dE b] ∧ OkE a ∧ OkE b ∧ Φ (dE (grLow a b))
theorem len_greater_low {ds Φ} (h : F_greater_low ds Φ) : ds.length = 2 := by obtain ⟨a, b, e, _⟩ := h; rw [e]; rfl
-- slots of greater_low: 0 one, 1 other
def ws_greater_low : WS :=
  (wRet (wIfE (wTest (wG F_is_low_within 2 0 [0, 1] (wCons (wVar 0) (wCons (wVar 1) wNil)) wNil)) (wVar 0) (wVar 1)))

theorem sem_greater_low (ds : List PyData) (Φ : PyData → Prop) (h : F_greater_low ds Φ) : ws_greater_low (retX Φ) (ev0 2 ds) := by
  obtain ⟨a, b, rfl, ha, hb, h⟩ := h
  refine ⟨rfl, rfl, _, _, rfl, ha, hb, ?_⟩
  unfold grLow at h
  cases e : lowIn a b with
  | true => rw [e] at h; exact h
  | false => rw [e] at h; exact h

theorem dv_greater_low (T : Tx W mg) (c_is_low_within : Cal P w W.K mg base 2 "is_low_within" s_is_low_within ["low", "other"] (spP W 2 F_is_low_within)) (cdv : Value) (A : Around) (env : List Env) (s : Shared) (H : Hp) (E : XK) (N0 : Addr → Prop) {f : Addr} (hr : Rg 2 (A.deeper (envOfC "greater_low" (defScope s_greater_low) s.heap.objs.size f cdv))) :
    PSs (cxOf CX0 P w W.K mg base ["one", "other"] "greater_low" (defScope s_greater_low) f cdv A env s H E).nox (defBody s_greater_low) (upS ⟨W, Res.none, N0, H⟩ ws_greater_low) := by
  have hu : (A.deeper (envOfC "greater_low" (defScope s_greater_low) s.heap.objs.size f cdv)).units + 65 < cLine := by have := hr.room.un; omega
  have nd := sc_greater_low.nd
  exact (dss_one (ds_ret (de_ife (dt_val (de_callP c_is_low_within rfl hr kb_is_low_within_2 (by decide) (by rfl) (da_cons (de_var 0) (da_cons (de_var 1) (da_nil (s := true)))))) (de_var 0) (de_var 1))))
theorem ok_greater_low (T : Tx W mg) (c_is_low_within : Cal P w W.K mg base 2 "is_low_within" s_is_low_within ["low", "other"] (spP W 2 F_is_low_within)) {f : Addr} {fd : FuncData} (Fn : Fun W.K "greater_low" "greater_low" s_greater_low f fd) : FnG P w W.K mg base CX0 3 f fd ["one", "other"] (spP W 2 F_greater_low) :=
  ok_pure Fn sc_greater_low (by decide) (fun ds Φ h => len_greater_low h) fun cdv A env s H E N0 hr => ⟨ws_greater_low, dv_greater_low T c_is_low_within cdv A env s H E N0 hr, fun ds Φ h => sem_greater_low ds Φ h⟩

def F_lesser_high : FD := fun ds Φ => ∃ a b : En, ds = [dE a, dE b] ∧ OkE a ∧ OkE b ∧ Φ (dE (leHigh a b))
theorem len_lesser_high {ds Φ} (h : F_lesser_high ds Φ) : ds.length = 2 := by obtain ⟨a, b, e, _⟩ := h; rw [e]; rfl
-- slots of lesser_high: 0 one, 1 other
def ws_lesser_high : WS :=
  (wRet (wIfE (wTest (wG F_is_high_within 2 0 [0, 1] (wCons (wVar 0) (wCons (wVar 1) wNil)) wNil)) (wVar 0) (wVar 1)))

theorem sem_lesser_high (ds : List PyData) (Φ : PyData → Prop) (h : F_lesser_high ds Φ) : ws_lesser_high (retX Φ) (ev0 2 ds) := by
  obtain ⟨a, b, rfl, ha, hb, h⟩ := h
  refine ⟨rfl, rfl, _, _, rfl, ha, hb, ?_⟩
  unfold leHigh at h
  cases e : highIn a b with
  | true => rw [e] at h; exact h
  | false => rw [e] at h; exact h

theorem dv_lesser_high (T : Tx W mg) (c_is_high_within : Cal P w W.K mg base 2 "is_high_within" s_is_high_within ["high", "other"] (spP W 2 F_is_high_within)) (cdv : Value) (A : Around) (env : List Env) (s : Shared) (H : Hp) (E : XK) (N0 : Addr → Prop) {f : Addr} (hr : Rg 2 (A.deeper (envOfC "lesser_high" (defScope s_lesser_high) s.heap.objs.size f cdv))) :
    PSs (cxOf CX0 P w W.K mg base ["one", "other"] "lesser_high" (defScope s_lesser_high) f cdv A env s H E).nox (defBody s_lesser_high) (upS ⟨W, Res.none, N0, H⟩ ws_lesser_high) := by
  have hu : (A.deeper (envOfC "lesser_high" (defScope s_lesser_high) s.heap.objs.size f cdv)).units + 65 < cLine := by have := hr.room.un; omega
  have nd := sc_lesser_high.nd
  exact (dss_one (ds_ret (de_ife (dt_val (de_callP c_is_high_within rfl hr kb_is_high_within_2 (by decide) (by rfl) (da_cons (de_var 0) (da_cons (de_var 1) (da_nil (s := true)))))) (de_var 0) (de_var 1))))
theorem ok_lesser_high (T : Tx W mg) (c_is_high_within : Cal P w W.K mg base 2 "is_high_within" s_is_high_within ["high", "other"] (spP W 2 F_is_high_within)) {f : Addr} {fd : FuncData} (Fn : Fun W.K "lesser_high" "lesser_high" s_lesser_high f fd) : FnG P w W.K mg base CX0 3 f fd ["one", "other"] (spP W 2 F_lesser_high) :=
  ok_pure Fn sc_lesser_high (by decide) (fun ds Φ h => len_lesser_high h) fun cdv A env s H E N0 hr => ⟨ws_lesser_high, dv_lesser_high T c_is_high_within cdv A env s H E N0 hr, fun ds Φ h => sem_lesser_high ds Φ h⟩

def F_joined_box : FD := fun ds Φ => ∃ b o : List Rn, ds = [dB b, dB o] ∧ OkB b ∧ OkB o ∧ Φ (dB (joinedF b o))
theorem len_joined_box {ds Φ} (h : F_joined_box ds Φ) : ds.length = 2 := by obtain ⟨a, b, e, _⟩ := h; rw [e]; rfl
-- slots of joined_box: 0 box, 1 other, 2 joined, 3 ends, 4 others, 5 low, 6 high
def ws_joined_box : WS :=
  (wSq (wFst 2 (wFl wNil))
  (wSq (wFor (wZip (wCons (wVar 0) (wCons (wVar 1) wNil))) (gT 2 (gsCons (gN 3) (gsCons (gN 4) gsNil)))
  (wSq (wSet 5 (wIfE (wTest (wG F_is_low_within 2 0 [0, 1] (wCons (wOp fIx (wVar 3) (wC (.int 0))) (wCons (wOp fIx (wVar 4) (wC (.int 0))) wNil)) wNil)) (wOp fIx (wVar 4) (wC (.int 0))) (wOp fIx (wVar 3) (wC (.int 0)))))
  (wSq (wSet 6 (wIfE (wTest (wG F_is_high_within 2 0 [0, 1] (wCons (wOp fIx (wVar 3) (wC (.int 1))) (wCons (wOp fIx (wVar 4) (wC (.int 1))) wNil)) wNil)) (wOp fIx (wVar 4) (wC (.int 1))) (wOp fIx (wVar 3) (wC (.int 1)))))
  (wApp 2 (wTup (wCons (wVar 5) (wCons (wVar 6) wNil)))))))
  (wFrz 2
  (wRet (wCall fTuple (wCons (wVar 2) wNil))))))

theorem sem_joined_box (ds : List PyData) (Φ : PyData → Prop) (h : F_joined_box ds Φ) : ws_joined_box (retX Φ) (ev0 7 ds) := by
  obtain ⟨b, o, rfl, hb, ho, h⟩ := h
  refine ⟨Nat.zero_le _, ?_⟩
  dsimp only
  have hl : (b.zip o).length ≤ 100 := by rw [List.length_zip]; have := hb.1; omega
  refine sq (for_all (ds := zipD (b.map dR) (o.map dR)) (fun i ρ => ∃ x y z w, ρ = [.d (dB b), .d (dB o), .o (((b.zip o).take i).map fun p => dR (join1 p)), x, y, z, w]) (fun Ψ h => h) ⟨_, _, _, _, rfl⟩ (fun i d ρ2 hd hj => ?_) fun ρ2 hj => ?_)
  · obtain ⟨x, y, z, w, rfl⟩ := hj
    rw [zipD_map] at hd
    obtain ⟨p, hp, rfl⟩ := map_at hd
    have hm := zip_mem (List.mem_of_getElem? hp)
    have o1 := hb.at hm.1
    have o2 := ho.at hm.2
    have few : (((b.zip o).take i).map fun p => dR (join1 p)).length < 100000 := by
      rw [List.length_map, List.length_take]; omega
    have fin : ∃ x y z w, ([.d (dB b), .d (dB o), .o (((b.zip o).take i).map (fun p => dR (join1 p)) ++ [dR (join1 p)]), .d (dR p.1), .d (dR p.2), .d (dE (join1 p).1), .d (dE (join1 p).2)] : Ev) = [.d (dB b), .d (dB o), .o (((b.zip o).take (i + 1)).map fun p => dR (join1 p)), x, y, z, w] :=
      ⟨.d (dR p.1), .d (dR p.2), .d (dE (join1 p).1), .d (dE (join1 p).2), by rw [take_more hp, List.map_append]; rfl⟩
    refine ⟨rfl, (by decide : 3 < 7), (by decide : 4 < 7), ?_⟩
    refine ⟨_, rfl, _, rfl, rfl, rfl, _, _, rfl, o1.1, o2.1, ?_⟩
    have e1 : join1 p = (if lowIn p.1.1 p.2.1 then p.2.1 else p.1.1, if highIn p.1.2 p.2.2 then p.2.2 else p.1.2) := rfl
    rw [e1] at fin
    cases e2 : lowIn p.1.1 p.2.1 with
    | false =>
      refine ⟨_, rfl, _, rfl, _, rfl, rfl, rfl, _, _, rfl, o1.2, o2.2, ?_⟩
      rw [e2] at fin
      cases e3 : highIn p.1.2 p.2.2 with
      | false => rw [e3] at fin; exact ⟨_, rfl, (by decide : 2 ≤ 100000), few, fin⟩
      | true => rw [e3] at fin; exact ⟨_, rfl, (by decide : 2 ≤ 100000), few, fin⟩
    | true =>
      refine ⟨_, rfl, _, rfl, _, rfl, rfl, rfl, _, _, rfl, o1.2, o2.2, ?_⟩
      rw [e2] at fin
      cases e3 : highIn p.1.2 p.2.2 with
      | false => rw [e3] at fin; exact ⟨_, rfl, (by decide : 2 ≤ 100000), few, fin⟩
      | true => rw [e3] at fin; exact ⟨_, rfl, (by decide : 2 ≤ 100000), few, fin⟩
  · obtain ⟨x, y, z, w, rfl⟩ := hj
    have e : ((b.zip o).take (zipD (b.map dR) (o.map dR)).length).map (fun p => dR (join1 p)) = (joinedF b o).map dR := by
      rw [zipD_map, List.length_map, List.take_length]; unfold joinedF; rw [List.map_map]; rfl
    rw [e]
    exact h

theorem dv_joined_box (T : Tx W mg) (c_is_high_within : Cal P w W.K mg base 2 "is_high_within" s_is_high_within ["high", "other"] (spP W 2 F_is_high_within)) (c_is_low_within : Cal P w W.K mg base 2 "is_low_within" s_is_low_within ["low", "other"] (spP W 2 F_is_low_within)) (cdv : Value) (A : Around) (env : List Env) (s : Shared) (H : Hp) (E : XK) (N0 : Addr → Prop) {f : Addr} (hr : Rg 2 (A.deeper (envOfC "joined_box" (defScope s_joined_box) s.heap.objs.size f cdv))) :
    PSs (cxOf CX0 P w W.K mg base ["box", "other", "joined", "ends", "others", "low", "high"] "joined_box" (defScope s_joined_box) f cdv A env s H E).nox (defBody s_joined_box) (upS ⟨W, Res.none, N0, H⟩ ws_joined_box) := by
  have hu : (A.deeper (envOfC "joined_box" (defScope s_joined_box) s.heap.objs.size f cdv)).units + 65 < cLine := by have := hr.room.un; omega
  have nd := sc_joined_box.nd
  exact (dss_cons (ds_fst 2 nd (df_lst (da_nil (s := true))))
  (dss_cons (ds_for PassesOwn.never rfl (di_zip rfl (by rfl) T.m_zip (da_cons (de_var 0) (da_cons (de_var 1) (da_nil (s := true))))) (dg_tup rfl rfl (dgs_cons (dg_name 3 nd) (dgs_cons (dg_name 4 nd) dgs_nil))) (dss_cons (ds_set 5 nd (de_ife (dt_val (de_callP c_is_low_within rfl hr kb_is_low_within_2 (by decide) (by rfl) (da_cons (de_ix rfl (de_var 3) (de_int (s := true)) (fun _ _ => rfl)) (da_cons (de_ix rfl (de_var 4) (de_int (s := true)) (fun _ _ => rfl)) (da_nil (s := true)))))) (de_ix rfl (de_var 4) (de_int (s := true)) (fun _ _ => rfl)) (de_ix rfl (de_var 3) (de_int (s := true)) (fun _ _ => rfl))))
  (dss_cons (ds_set 6 nd (de_ife (dt_val (de_callP c_is_high_within rfl hr kb_is_high_within_2 (by decide) (by rfl) (da_cons (de_ix rfl (de_var 3) (de_int (s := true)) (fun _ _ => rfl)) (da_cons (de_ix rfl (de_var 4) (de_int (s := true)) (fun _ _ => rfl)) (da_nil (s := true)))))) (de_ix rfl (de_var 4) (de_int (s := true)) (fun _ _ => rfl)) (de_ix rfl (de_var 3) (de_int (s := true)) (fun _ _ => rfl))))
  (dss_one (ds_app 2 (de_tup (da_cons (de_var 5) (da_cons (de_var 6) (da_nil (s := true))))))))))
  (dss_frz 2 (dss_one (ds_ret (de_callT (s := true) call_tuple_of cd_tuple (by rfl) T.m_tuple boot_tuple (da_cons (de_var 2) (da_nil (s := true)))))))))
theorem ok_joined_box (T : Tx W mg) (c_is_high_within : Cal P w W.K mg base 2 "is_high_within" s_is_high_within ["high", "other"] (spP W 2 F_is_high_within)) (c_is_low_within : Cal P w W.K mg base 2 "is_low_within" s_is_low_within ["low", "other"] (spP W 2 F_is_low_within)) {f : Addr} {fd : FuncData} (Fn : Fun W.K "joined_box" "joined_box" s_joined_box f fd) : FnG P w W.K mg base CX0 3 f fd ["box", "other"] (spP W 2 F_joined_box) :=
  ok_pure Fn sc_joined_box (by decide) (fun ds Φ h => len_joined_box h) fun cdv A env s H E N0 hr => ⟨ws_joined_box, dv_joined_box T c_is_high_within c_is_low_within cdv A env s H E N0 hr, fun ds Φ h => sem_joined_box ds Φ h⟩

def F__law_end : FD := fun ds Φ => ∃ ks : List Int, ds = [dInts ks] ∧ ks.length ≤ 100 ∧ (∀ k ∈ ks, Ed k) ∧ ∀ v, Ed v → Φ (.int v)
theorem len__law_end {ds Φ} (h : F__law_end ds Φ) : ds.length + 1 = 2 := by obtain ⟨a, e, _⟩ := h; rw [e]; rfl
-- slots of _law_end: 0 _law_heap_here, 1 _law_known, 2 _law_shape
def ws__law_end : WS :=
  (wSq (wSet 2 (wGR 0 F__law_draw 2 (wCons (wC (.int 5)) wNil)))
  (wSq (wIf (wAnd (wTest (wOp fLt (wVar 2) (wC (.int 2)))) (wTest (wOp fNe (wVar 1) (wLst wNil))))
  (wRet (wGR 0 F__law_pick 2 (wCons (wVar 1) wNil)))
  wNx)
  (wRet (wIfE (wTest (wOp fLt (wVar 2) (wC (.int 4)))) (wOp fMul (wC (.int 4)) (wOp fSub (wGR 0 F__law_draw 2 (wCons (wC (.int 13)) wNil)) (wC (.int 6)))) (wOp fMul (wC (.int 4)) (wOp fSub (wGR 0 F__law_draw 2 (wCons (wOp fMul (wC (.int 5)) (wOp fPow (wC (.int 10)) (wC (.int 8)))) wNil)) (wOp fMul (wC (.int 25)) (wOp fPow (wC (.int 10)) (wC (.int 7))))))))))

theorem sem__law_end (ds : List PyData) (Φ : PyData → Prop) (h : F__law_end ds Φ) : ws__law_end (retX Φ) (ev1 3 ds) := by
  obtain ⟨ks, rfl, hl, hk, h⟩ := h
  refine ⟨rfl, 5, rfl, by decide, by decide, fun r h0 h1 => ?_⟩
  have rest : ∀ W : DL.WX, W.rt = Φ → (wRet (wIfE (wTest (wOp fLt (wVar 2) (wC (.int 4)))) (wOp fMul (wC (.int 4)) (wOp fSub (wGR 0 F__law_draw 2 (wCons (wC (.int 13)) wNil)) (wC (.int 6)))) (wOp fMul (wC (.int 4)) (wOp fSub (wGR 0 F__law_draw 2 (wCons (wOp fMul (wC (.int 5)) (wOp fPow (wC (.int 10)) (wC (.int 8)))) wNil)) (wOp fMul (wC (.int 25)) (wOp fPow (wC (.int 10)) (wC (.int 7)))))))) W [.m, .d (dInts ks), .d (.int r)] := fun W hW => by
    show (if decide (r < 4) = true then _ else _)
    cases decide (r < 4) with
    | true =>
      rw [if_pos rfl]
      refine ⟨rfl, 13, rfl, by decide, by decide, fun q h0 h1 => ?_⟩
      refine ⟨?_, ?_⟩
      · exact wide_mul (a := 10) (b := 10) (by decide) (by omega) (by decide) (by decide) (by decide)
      · rw [hW]
        exact h _ (by unfold Ed; omega)
    | false =>
      rw [if_neg Bool.false_ne_true]
      refine ⟨⟨by decide, by decide, by decide⟩, wide_mul (a := 10) (b := 100) (by decide) (by decide) (by decide) (by decide) (by decide), rfl, 500000000, rfl, by decide, by decide, fun q h0 h1 => ?_⟩
      refine ⟨⟨by decide, by decide, by decide⟩, wide_mul (a := 10) (b := 100) (by decide) (by decide) (by decide) (by decide) (by decide), ?_, ?_⟩
      · refine wide_mul (a := 10) (b := 100) (by decide) ?_ (by decide) (by decide) (by decide)
        show (q - 25 * 10 ^ 7).natAbs < 2 ^ 100
        omega
      · rw [hW]
        refine h (4 * (q - 25 * 10 ^ 7)) ?_
        unfold Ed
        omega
  show (if decide (r < 2) = true then _ else _)
  cases decide (r < 2) with
  | false =>
    rw [if_neg Bool.false_ne_true]
    exact rest _ rfl
  | true =>
    rw [if_pos rfl]
    refine ⟨(by decide : 0 ≤ 100000), fit_of (fit_dInts ks), fit_of (fit_dInts []), ?_⟩
    have e : PyData.eqv (dInts ks) (.list []) = decide (ks = []) := eqv_dInts ks []
    rw [e]
    by_cases c : ks = []
    · rw [decide_eq_true c]
      exact rest _ rfl
    · rw [decide_eq_false c]
      refine ⟨rfl, ks.map .int, rfl, ?_, by rw [List.length_map]; omega, fun x hx => ?_⟩
      · intro z; exact c (List.map_eq_nil_iff.mp z)
      · obtain ⟨k, hm, rfl⟩ := List.mem_map.mp hx
        exact h k (hk k hm)

theorem dv__law_end (T : Tx W mg) (c__law_draw : Cal P w W.K mg base 1 "_law_draw" s__law_draw ["_law_heap_here", "_law_many"] (spR W RR 2 F__law_draw)) (c__law_pick : Cal P w W.K mg base 2 "_law_pick" s__law_pick ["_law_heap_here", "_law_some"] (spR W RR 2 F__law_pick)) (cdv : Value) (A : Around) (env : List Env) (s : Shared) (H : Hp) (E : XK) (N0 : Addr → Prop) (b c : Addr) {f : Addr} (hr : Rg 2 (A.deeper (envOfC "_law_end" (defScope s__law_end) s.heap.objs.size f cdv))) :
    PSs (cxOf CX0 P w W.K mg base ["_law_heap_here", "_law_known", "_law_shape"] "_law_end" (defScope s__law_end) f cdv A env s H E).nox (defBody s__law_end) (upS ⟨W, RR b c, N0, H⟩ ws__law_end) := by
  have hu : (A.deeper (envOfC "_law_end" (defScope s__law_end) s.heap.objs.size f cdv)).units + 65 < cLine := by have := hr.room.un; omega
  have nd := sc__law_end.nd
  exact (dss_cons (ds_set 2 nd (de_callR 0 c__law_draw rfl rfl hr (kb__law_draw_2) (by decide) (by rfl) (da_cons (de_int (s := true)) (da_nil (s := true)))))
  (dss_cons (ds_if ((dw_and (dt_cmp op_ltU od_lt (de_var 2) (de_int (s := true)) (nomark _)) (dw_and1 (dt_cmp (op_neU hu) od_ne (de_var 1) (de_lst (da_nil (s := true))) (nomark _))))).pt (dss_one (ds_ret (de_callR 0 c__law_pick rfl rfl hr (kb__law_pick_2) (by decide) (by rfl) (da_cons (de_var 1) (da_nil (s := true)))))) dss_nil)
  (dss_one (ds_ret (de_ife (dt_cmp op_ltU od_lt (de_var 2) (de_int (s := true)) (nomark _)) (de_op op_mulU (od_mul (s := true)) (de_int (s := true)) (de_op op_sub (od_sub (s := true)) (de_callR 0 c__law_draw rfl rfl hr (kb__law_draw_2) (by decide) (by rfl) (da_cons (de_int (s := true)) (da_nil (s := true)))) (de_int (s := true)))) (de_op op_mulU (od_mul (s := true)) (de_int (s := true)) (de_op op_sub (od_sub (s := true)) (de_callR 0 c__law_draw rfl rfl hr (kb__law_draw_2) (by decide) (by rfl) (da_cons (de_op op_mulU (od_mul (s := true)) (de_int (s := true)) (de_op op_pow (od_pow (s := true)) (de_int (s := true)) (de_int (s := true)))) (da_nil (s := true)))) (de_op op_mulU (od_mul (s := true)) (de_int (s := true)) (de_op op_pow (od_pow (s := true)) (de_int (s := true)) (de_int (s := true)))))))))))
theorem ok__law_end (T : Tx W mg) (c__law_draw : Cal P w W.K mg base 1 "_law_draw" s__law_draw ["_law_heap_here", "_law_many"] (spR W RR 2 F__law_draw)) (c__law_pick : Cal P w W.K mg base 2 "_law_pick" s__law_pick ["_law_heap_here", "_law_some"] (spR W RR 2 F__law_pick)) {f : Addr} {fd : FuncData} (Fn : Fun W.K "_law_end" "_law_end" s__law_end f fd) : FnG P w W.K mg base CX0 3 f fd ["_law_heap_here", "_law_known"] (spR W RR 2 F__law_end) :=
  ok_draw Fn sc__law_end (by decide) (fun ds Φ h => len__law_end h) fun cdv A env s H E N0 b c hr => ⟨ws__law_end, dv__law_end T c__law_draw c__law_pick cdv A env s H E N0 b c hr, fun ds Φ h => sem__law_end ds Φ h⟩

def F_in_box : FD := fun ds Φ => ∃ (xs : List Fr2) (b : List Rn), ds = [.tuple (xs.map dF), dB b] ∧ xs.length ≤ 100 ∧ (∀ x ∈ xs, OkF x) ∧ OkB b ∧ Φ (.bool (withinF (ptB xs) b))
theorem len_in_box {ds Φ} (h : F_in_box ds Φ) : ds.length = 2 := by obtain ⟨a, b, e, _⟩ := h; rw [e]; rfl
-- slots of in_box: 0 point, 1 box
def ws_in_box : WS :=
  (wRet (wG F_within 2 0 [0, 1] (wCons (wG F_point_box 1 0 [0] (wCons (wVar 0) wNil) wNil) (wCons (wVar 1) wNil)) wNil))

theorem sem_in_box (ds : List PyData) (Φ : PyData → Prop) (h : F_in_box ds Φ) : ws_in_box (retX Φ) (ev0 2 ds) := by
  obtain ⟨xs, b, rfl, hl, hx, hb, h⟩ := h
  refine ⟨rfl, rfl, _, rfl, hl, ?_⟩
  refine ⟨rfl, rfl, _, _, rfl, ⟨by unfold ptB; rw [List.length_map]; exact hl, fun r hr => ?_⟩, hb, h⟩
  obtain ⟨x, hm, rfl⟩ := List.mem_map.mp hr
  exact ⟨hx x hm, hx x hm⟩

theorem dv_in_box (T : Tx W mg) (c_point_box : Cal P w W.K mg base 1 "point_box" s_point_box ["point"] (spP W 1 F_point_box)) (c_within : Cal P w W.K mg base 3 "within" s_within ["box", "other"] (spP W 2 F_within)) (cdv : Value) (A : Around) (env : List Env) (s : Shared) (H : Hp) (E : XK) (N0 : Addr → Prop) {f : Addr} (hr : Rg 3 (A.deeper (envOfC "in_box" (defScope s_in_box) s.heap.objs.size f cdv))) :
    PSs (cxOf CX0 P w W.K mg base ["point", "box"] "in_box" (defScope s_in_box) f cdv A env s H E).nox (defBody s_in_box) (upS ⟨W, Res.none, N0, H⟩ ws_in_box) := by
  have hu : (A.deeper (envOfC "in_box" (defScope s_in_box) s.heap.objs.size f cdv)).units + 65 < cLine := by have := hr.room.un; omega
  have nd := sc_in_box.nd
  exact (dss_one (ds_ret (de_callP c_within rfl hr kb_within_2 (by decide) (by rfl) (da_cons (de_callP c_point_box rfl hr kb_point_box_1 (by decide) (by rfl) (da_cons (de_var 0) (da_nil (s := true)))) (da_cons (de_var 1) (da_nil (s := true)))))))
theorem ok_in_box (T : Tx W mg) (c_point_box : Cal P w W.K mg base 1 "point_box" s_point_box ["point"] (spP W 1 F_point_box)) (c_within : Cal P w W.K mg base 3 "within" s_within ["box", "other"] (spP W 2 F_within)) {f : Addr} {fd : FuncData} (Fn : Fun W.K "in_box" "in_box" s_in_box f fd) : FnG P w W.K mg base CX0 4 f fd ["point", "box"] (spP W 2 F_in_box) :=
  ok_pure Fn sc_in_box (by decide) (fun ds Φ h => len_in_box h) fun cdv A env s H E N0 hr => ⟨ws_in_box, dv_in_box T c_point_box c_within cdv A env s H E N0 hr, fun ds Φ h => sem_in_box ds Φ h⟩

def F_common_box : FD := fun ds Φ => ∃ b o : List Rn, ds = [dB b, dB o] ∧ OkB b ∧ OkB o ∧ Φ (dOB (commonF b o))
theorem len_common_box {ds Φ} (h : F_common_box ds Φ) : ds.length = 2 := by obtain ⟨a, b, e, _⟩ := h; rw [e]; rfl
-- slots of common_box: 0 box, 1 other, 2 common, 3 ends, 4 others, 5 low, 6 high
def ws_common_box : WS :=
  (wSq (wFst 2 (wFl wNil))
  (wSq (wFor (wZip (wCons (wVar 0) (wCons (wVar 1) wNil))) (gT 2 (gsCons (gN 3) (gsCons (gN 4) gsNil)))
  (wSq (wSet 5 (wG F_greater_low 2 0 [0, 1] (wCons (wOp fIx (wVar 3) (wC (.int 0))) (wCons (wOp fIx (wVar 4) (wC (.int 0))) wNil)) wNil))
  (wSq (wSet 6 (wG F_lesser_high 2 0 [0, 1] (wCons (wOp fIx (wVar 3) (wC (.int 1))) (wCons (wOp fIx (wVar 4) (wC (.int 1))) wNil)) wNil))
  (wSq (wIf (wAnd (wTest (wOp fIsNot (wVar 5) (wC .none))) (wAnd (wTest (wOp fIsNot (wVar 6) (wC .none))) (wTest (wG F_less 2 0 [0, 1] (wCons (wVar 6) (wCons (wVar 5) wNil)) wNil))))
  (wRet (wC .none))
  wNx)
  (wApp 2 (wTup (wCons (wVar 5) (wCons (wVar 6) wNil))))))))
  (wFrz 2
  (wRet (wCall fTuple (wCons (wVar 2) wNil))))))

theorem sem_common_box (ds : List PyData) (Φ : PyData → Prop) (h : F_common_box ds Φ) : ws_common_box (retX Φ) (ev0 7 ds) := by
  obtain ⟨b, o, rfl, hb, ho, h⟩ := h
  refine ⟨Nat.zero_le _, ?_⟩
  dsimp only
  have hl : (b.zip o).length ≤ 100 := by rw [List.length_zip]; have := hb.1; omega
  refine sq (for_all (ds := zipD (b.map dR) (o.map dR)) (fun i ρ => ∃ x y z w, ρ = [.d (dB b), .d (dB o), .o (((b.zip o).take i).map fun p => dR (com1 p)), x, y, z, w] ∧ ((b.zip o).take i).any clash1 = false) (fun Ψ h => h) ⟨_, _, _, _, rfl, rfl⟩ (fun i d ρ2 hd hj => ?_) fun ρ2 hj => ?_)
  · obtain ⟨x, y, z, w, rfl, hj⟩ := hj
    rw [zipD_map] at hd
    obtain ⟨p, hp, rfl⟩ := map_at hd
    have hm := zip_mem (List.mem_of_getElem? hp)
    have o1 := hb.at hm.1
    have o2 := ho.at hm.2
    refine ⟨rfl, (by decide : 3 < 7), (by decide : 4 < 7), ?_⟩
    refine ⟨_, rfl, _, rfl, rfl, rfl, _, _, rfl, o1.1, o2.1, ?_⟩
    refine ⟨_, rfl, _, rfl, rfl, rfl, _, _, rfl, o1.2, o2.2, ?_⟩
    have fin : clash1 p = false → ∃ x y z w, ([.d (dB b), .d (dB o), .o (((b.zip o).take i).map (fun p => dR (com1 p)) ++ [dR (com1 p)]), .d (dR p.1), .d (dR p.2), .d (dE (com1 p).1), .d (dE (com1 p).2)] : Ev) = [.d (dB b), .d (dB o), .o (((b.zip o).take (i + 1)).map fun p => dR (com1 p)), x, y, z, w] ∧ ((b.zip o).take (i + 1)).any clash1 = false := fun e => by
      refine ⟨.d (dR p.1), .d (dR p.2), .d (dE (com1 p).1), .d (dE (com1 p).2), ?_, ?_⟩
      · rw [take_more hp, List.map_append]; rfl
      · rw [take_more hp, List.any_append, hj, List.any_cons, List.any_nil, e]; rfl
    have few : (((b.zip o).take i).map fun p => dR (com1 p)).length < 100000 := by
      rw [List.length_map, List.length_take]; omega
    have bad : clash1 p = true → Φ .none := fun e => by
      have : commonF b o = none := by
        unfold commonF
        rw [if_pos (List.any_eq_true.mpr ⟨p, List.mem_of_getElem? hp, e⟩)]
      rw [this] at h; exact h
    have e1 : com1 p = (grLow p.1.1 p.2.1, leHigh p.1.2 p.2.2) := rfl
    have okl := OkE.gr o1.1 o2.1
    have okh := OkE.le o1.2 o2.2
    have e2 : clash1 p = clash (grLow p.1.1 p.2.1) (leHigh p.1.2 p.2.2) := rfl
    rw [e1] at fin
    rw [e2] at fin bad
    generalize grLow p.1.1 p.2.1 = l at okl fin bad ⊢
    generalize leHigh p.1.2 p.2.2 = u at okh fin bad ⊢
    cases l with
    | none => exact ⟨(by decide : 2 ≤ 100000), few, fin rfl⟩
    | some x =>
      cases u with
      | none => exact ⟨(by decide : 2 ≤ 100000), few, fin rfl⟩
      | some y =>
        refine ⟨rfl, rfl, _, _, rfl, okh, okl, ?_⟩
        have e3 : clash (some x) (some y) = ltQ y x := rfl
        rw [e3] at fin bad
        cases e : ltQ y x with
        | true => exact bad e
        | false => exact ⟨(by decide : 2 ≤ 100000), few, fin e⟩
  · obtain ⟨x, y, z, w, rfl, hj⟩ := hj
    rw [zipD_map, List.length_map, List.take_length] at hj
    have : commonF b o = some ((b.zip o).map com1) := by
      unfold commonF
      rw [hj, if_neg Bool.false_ne_true]
    rw [this] at h
    have e : ((b.zip o).take (zipD (b.map dR) (o.map dR)).length).map (fun p => dR (com1 p)) = ((b.zip o).map com1).map dR := by
      rw [zipD_map, List.length_map, List.take_length, List.map_map]; rfl
    rw [e]
    exact h

theorem dv_common_box (T : Tx W mg) (c_greater_low : Cal P w W.K mg base 3 "greater_low" s_greater_low ["one", "other"] (spP W 2 F_greater_low)) (c_less : Cal P w W.K mg base 1 "less" s_less ["one", "other"] (spP W 2 F_less)) (c_lesser_high : Cal P w W.K mg base 3 "lesser_high" s_lesser_high ["one", "other"] (spP W 2 F_lesser_high)) (cdv : Value) (A : Around) (env : List Env) (s : Shared) (H : Hp) (E : XK) (N0 : Addr → Prop) {f : Addr} (hr : Rg 3 (A.deeper (envOfC "common_box" (defScope s_common_box) s.heap.objs.size f cdv))) :
    PSs (cxOf CX0 P w W.K mg base ["box", "other", "common", "ends", "others", "low", "high"] "common_box" (defScope s_common_box) f cdv A env s H E).nox (defBody s_common_box) (upS ⟨W, Res.none, N0, H⟩ ws_common_box) := by
  have hu : (A.deeper (envOfC "common_box" (defScope s_common_box) s.heap.objs.size f cdv)).units + 65 < cLine := by have := hr.room.un; omega
  have nd := sc_common_box.nd
  exact (dss_cons (ds_fst 2 nd (df_lst (da_nil (s := true))))
  (dss_cons (ds_for PassesOwn.never rfl (di_zip rfl (by rfl) T.m_zip (da_cons (de_var 0) (da_cons (de_var 1) (da_nil (s := true))))) (dg_tup rfl rfl (dgs_cons (dg_name 3 nd) (dgs_cons (dg_name 4 nd) dgs_nil))) (dss_cons (ds_set 5 nd (de_callP c_greater_low rfl hr kb_greater_low_2 (by decide) (by rfl) (da_cons (de_ix rfl (de_var 3) (de_int (s := true)) (fun _ _ => rfl)) (da_cons (de_ix rfl (de_var 4) (de_int (s := true)) (fun _ _ => rfl)) (da_nil (s := true))))))
  (dss_cons (ds_set 6 nd (de_callP c_lesser_high rfl hr kb_lesser_high_2 (by decide) (by rfl) (da_cons (de_ix rfl (de_var 3) (de_int (s := true)) (fun _ _ => rfl)) (da_cons (de_ix rfl (de_var 4) (de_int (s := true)) (fun _ _ => rfl)) (da_nil (s := true))))))
  (dss_cons (ds_if ((dw_and (dt_cmp op_isnotU od_isnot (de_var 5) (de_non (s := true)) (nomark _)) (dw_and (dt_cmp op_isnotU od_isnot (de_var 6) (de_non (s := true)) (nomark _)) (dw_and1 (dt_val (de_callP c_less rfl hr kb_less_2 (by decide) (by rfl) (da_cons (de_var 6) (da_cons (de_var 5) (da_nil (s := true)))))))))).pt (dss_one (ds_ret (de_non (s := true)))) dss_nil)
  (dss_one (ds_app 2 (de_tup (da_cons (de_var 5) (da_cons (de_var 6) (da_nil (s := true)))))))))))
  (dss_frz 2 (dss_one (ds_ret (de_callT (s := true) call_tuple_of cd_tuple (by rfl) T.m_tuple boot_tuple (da_cons (de_var 2) (da_nil (s := true)))))))))
theorem ok_common_box (T : Tx W mg) (c_greater_low : Cal P w W.K mg base 3 "greater_low" s_greater_low ["one", "other"] (spP W 2 F_greater_low)) (c_less : Cal P w W.K mg base 1 "less" s_less ["one", "other"] (spP W 2 F_less)) (c_lesser_high : Cal P w W.K mg base 3 "lesser_high" s_lesser_high ["one", "other"] (spP W 2 F_lesser_high)) {f : Addr} {fd : FuncData} (Fn : Fun W.K "common_box" "common_box" s_common_box f fd) : FnG P w W.K mg base CX0 4 f fd ["box", "other"] (spP W 2 F_common_box) :=
  ok_pure Fn sc_common_box (by decide) (fun ds Φ h => len_common_box h) fun cdv A env s H E N0 hr => ⟨ws_common_box, dv_common_box T c_greater_low c_less c_lesser_high cdv A env s H E N0 hr, fun ds Φ h => sem_common_box ds Φ h⟩

def F__law_range : FD := fun ds Φ => ∃ ks : List Int, ds = [dInts ks] ∧ ks.length ≤ 100 ∧ (∀ k ∈ ks, Ed k) ∧ ∀ r : RI, Good r → Φ (dI r)
theorem len__law_range {ds Φ} (h : F__law_range ds Φ) : ds.length + 1 = 2 := by obtain ⟨a, e, _⟩ := h; rw [e]; rfl
-- slots of _law_range: 0 _law_heap_here, 1 _law_known, 2 _law_one, 3 _law_other, 4 _law_low, 5 _law_high
def ws__law_range : WS :=
  (wSq (wPars [2, 3] (wEd (wGR 0 F__law_end 2 (wCons (wVar 1) wNil)) (wEd (wGR 0 F__law_end 2 (wCons (wVar 1) wNil)) wEn)))
  (wSq (wPars [4, 5] (wEd (wCall fMin (wCons (wVar 2) (wCons (wVar 3) wNil))) (wEd (wCall fMax (wCons (wVar 2) (wCons (wVar 3) wNil))) wEn)))
  (wRet (wGR 0 F__law_pick 2 (wCons (wLst (wCons (wTup (wCons (wC .none) (wCons (wC .none) wNil))) (wCons (wTup (wCons (wVar 4) (wCons (wC .none) wNil))) (wCons (wTup (wCons (wC .none) (wCons (wVar 5) wNil))) (wCons (wTup (wCons (wVar 4) (wCons (wVar 5) wNil))) (wCons (wTup (wCons (wVar 4) (wCons (wVar 5) wNil))) (wCons (wTup (wCons (wVar 4) (wCons (wVar 4) wNil))) wNil))))))) wNil)))))

theorem sem__law_range (ds : List PyData) (Φ : PyData → Prop) (h : F__law_range ds Φ) : ws__law_range (retX Φ) (ev1 6 ds) := by
  obtain ⟨ks, rfl, hl, hk, h⟩ := h
  refine ⟨rfl, ks, rfl, hl, hk, fun a ha => ⟨rfl, ks, rfl, hl, hk, fun b hb => ⟨rfl, ⟨(by decide : 2 ≤ 100000), fun i hi => ?_⟩, ?_⟩⟩⟩
  · have : i = 2 ∨ i = 3 := by simpa using hi
    show i < 6
    omega
  refine ⟨rfl, ⟨(by decide : 2 ≤ 100000), fun i hi => ?_⟩, ?_⟩
  · have : i = 4 ∨ i = 5 := by simpa using hi
    show i < 6
    omega
  obtain ⟨lo, e1⟩ : ∃ lo, lo = (if b < a then b else a) := ⟨_, rfl⟩
  obtain ⟨hi, e2⟩ : ∃ hi, hi = (if b > a then b else a) := ⟨_, rfl⟩
  have hlo : Ed lo := by rw [e1]; split <;> assumption
  have hhi : Ed hi := by rw [e2]; split <;> assumption
  have le : lo ≤ hi := by rw [e1, e2]; split <;> split <;> omega
  have g1 : Good (none, none) := ⟨trivial, trivial, fun l u q => nomatch q⟩
  have g2 : Good (some lo, none) := ⟨hlo, trivial, fun l u _ q => nomatch q⟩
  have g3 : Good (none, some hi) := ⟨trivial, hhi, fun l u q => nomatch q⟩
  have g4 : Good (some lo, some hi) := ⟨hlo, hhi, fun l u q1 q2 => by cases q1; cases q2; exact le⟩
  have g5 : Good (some lo, some lo) := ⟨hlo, hlo, fun l u q1 q2 => by cases q1; cases q2; exact Int.le_refl _⟩
  have two : 2 ≤ 100000 := by decide
  refine ⟨two, two, two, two, two, two, (by decide : 6 ≤ 100000), rfl, [dI (none, none), dI (some lo, none), dI (none, some hi), dI (some lo, some hi), dI (some lo, some hi), dI (some lo, some lo)], ?_, List.cons_ne_nil _ _, (by decide : 6 ≤ 2000), fun x hx => ?_⟩
  · rw [e1, e2]; rfl
  · simp only [List.mem_cons, List.not_mem_nil, or_false] at hx
    rcases hx with rfl | rfl | rfl | rfl | rfl | rfl
    · exact h _ g1
    · exact h _ g2
    · exact h _ g3
    · exact h _ g4
    · exact h _ g4
    · exact h _ g5

theorem dv__law_range (T : Tx W mg) (c__law_end : Cal P w W.K mg base 3 "_law_end" s__law_end ["_law_heap_here", "_law_known"] (spR W RR 2 F__law_end)) (c__law_pick : Cal P w W.K mg base 2 "_law_pick" s__law_pick ["_law_heap_here", "_law_some"] (spR W RR 2 F__law_pick)) (cdv : Value) (A : Around) (env : List Env) (s : Shared) (H : Hp) (E : XK) (N0 : Addr → Prop) (b c : Addr) {f : Addr} (hr : Rg 3 (A.deeper (envOfC "_law_range" (defScope s__law_range) s.heap.objs.size f cdv))) :
    PSs (cxOf CX0 P w W.K mg base ["_law_heap_here", "_law_known", "_law_one", "_law_other", "_law_low", "_law_high"] "_law_range" (defScope s__law_range) f cdv A env s H E).nox (defBody s__law_range) (upS ⟨W, RR b c, N0, H⟩ ws__law_range) := by
  have hu : (A.deeper (envOfC "_law_range" (defScope s__law_range) s.heap.objs.size f cdv)).units + 65 < cLine := by have := hr.room.un; omega
  have nd := sc__law_range.nd
  exact (dss_cons (ds_par2 2 3 rfl nd (ea_d (de_callR 0 c__law_end rfl rfl hr (kb__law_end_2) (by decide) (by rfl) (da_cons (de_var 1) (da_nil (s := true)))) (ea_d (de_callR 0 c__law_end rfl rfl hr (kb__law_end_2) (by decide) (by rfl) (da_cons (de_var 1) (da_nil (s := true)))) ea_nil)))
  (dss_cons (ds_par2 4 5 rfl nd (ea_d (de_callB (s := true) (call_minU rfl) cd_min (by rfl) T.m_min boot_min (da_cons (de_var 2) (da_cons (de_var 3) (da_nil (s := true))))) (ea_d (de_callB (s := true) (call_maxU rfl) cd_max (by rfl) T.m_max boot_max (da_cons (de_var 2) (da_cons (de_var 3) (da_nil (s := true))))) ea_nil)))
  (dss_one (ds_ret (de_callR 0 c__law_pick rfl rfl hr (kb__law_pick_2) (by decide) (by rfl) (da_cons (de_lst (da_cons (de_tup (da_cons (de_non (s := true)) (da_cons (de_non (s := true)) (da_nil (s := true))))) (da_cons (de_tup (da_cons (de_var 4) (da_cons (de_non (s := true)) (da_nil (s := true))))) (da_cons (de_tup (da_cons (de_non (s := true)) (da_cons (de_var 5) (da_nil (s := true))))) (da_cons (de_tup (da_cons (de_var 4) (da_cons (de_var 5) (da_nil (s := true))))) (da_cons (de_tup (da_cons (de_var 4) (da_cons (de_var 5) (da_nil (s := true))))) (da_cons (de_tup (da_cons (de_var 4) (da_cons (de_var 4) (da_nil (s := true))))) (da_nil (s := true))))))))) (da_nil (s := true))))))))
theorem ok__law_range (T : Tx W mg) (c__law_end : Cal P w W.K mg base 3 "_law_end" s__law_end ["_law_heap_here", "_law_known"] (spR W RR 2 F__law_end)) (c__law_pick : Cal P w W.K mg base 2 "_law_pick" s__law_pick ["_law_heap_here", "_law_some"] (spR W RR 2 F__law_pick)) {f : Addr} {fd : FuncData} (Fn : Fun W.K "_law_range" "_law_range" s__law_range f fd) : FnG P w W.K mg base CX0 4 f fd ["_law_heap_here", "_law_known"] (spR W RR 2 F__law_range) :=
  ok_draw Fn sc__law_range (by decide) (fun ds Φ h => len__law_range h) fun cdv A env s H E N0 b c hr => ⟨ws__law_range, dv__law_range T c__law_end c__law_pick cdv A env s H E N0 b c hr, fun ds Φ h => sem__law_range ds Φ h⟩

def halfB (n i : Nat) (r : Rn) : List Rn := (freeB n).set i r
def F_halves : FD := fun ds Φ => ∃ (b : List Rn) (i : Nat) (x : Fr2), ds = [dB b, .int (i : Nat), dF x] ∧ OkB b ∧ OkF x ∧ i < b.length ∧ Φ (.tuple [dOB (commonF b (halfB b.length i (none, some x))), dOB (commonF b (halfB b.length i (some x, none)))])
theorem len_halves {ds Φ} (h : F_halves ds Φ) : ds.length = 3 := by obtain ⟨a, b, c, e, _⟩ := h; rw [e]; rfl
-- slots of halves: 0 box, 1 at, 2 value, 3 half, 4 other
def ws_halves : WS :=
  (wSq (wSet 3 (wG F_with_range 3 0 [0, 1, 2] (wCons (wOp fMulT (wTup (wCons (wTup (wCons (wC .none) (wCons (wC .none) wNil))) wNil)) (wCall fLen (wCons (wVar 0) wNil))) (wCons (wVar 1) (wCons (wTup (wCons (wC .none) (wCons (wVar 2) wNil))) wNil))) wNil))
  (wSq (wSet 4 (wG F_with_range 3 0 [0, 1, 2] (wCons (wOp fMulT (wTup (wCons (wTup (wCons (wC .none) (wCons (wC .none) wNil))) wNil)) (wCall fLen (wCons (wVar 0) wNil))) (wCons (wVar 1) (wCons (wTup (wCons (wVar 2) (wCons (wC .none) wNil))) wNil))) wNil))
  (wRet (wTup (wCons (wG F_common_box 2 0 [0, 1] (wCons (wVar 0) (wCons (wVar 3) wNil)) wNil) (wCons (wG F_common_box 2 0 [0, 1] (wCons (wVar 0) (wCons (wVar 4) wNil)) wNil) wNil))))))

theorem sem_halves (ds : List PyData) (Φ : PyData → Prop) (h : F_halves ds Φ) : ws_halves (retX Φ) (ev0 5 ds) := by
  obtain ⟨b, i, x, rfl, hb, hx, hi, h⟩ := h
  have hl := hb.1
  have en : (b.map dR).length = b.length := List.length_map _
  have fr : (List.replicate (((b.map dR).length : Nat) : Int).toNat [PyData.tuple [PyData.none, PyData.none]]).flatten = (freeB b.length).map dR := by
    rw [en, Int.toNat_natCast]
    unfold freeB
    rw [List.map_replicate]
    generalize b.length = n
    induction n with
    | zero => rfl
    | succ n ih => rw [List.replicate_succ, List.flatten_cons, ih, List.replicate_succ]; rfl
  have ok0 : OkB (freeB b.length) := OkB.free hl
  have hi2 : i < (freeB b.length).length := by unfold freeB; rw [List.length_replicate]; exact hi
  have okh1 : OkB (halfB b.length i (none, some x)) := ok0.set ⟨trivial, hx⟩
  have okh2 : OkB (halfB b.length i (some x, none)) := ok0.set ⟨hx, trivial⟩
  have k1 : (1 : Int) ≤ (((b.map dR).length : Nat) : Int) := by rw [en]; omega
  have k2 : (((b.map dR).length : Nat) : Int) ≤ 1000 := by rw [en]; omega
  refine ⟨(by decide : 2 ≤ 100000), (by decide : 1 ≤ 100000), ?_⟩
  refine ⟨k1, k2, List.cons_ne_nil _ _, (by decide : 1 ≤ 100), ?_⟩
  rw [fr]
  refine ⟨(by decide : 2 ≤ 100000), rfl, rfl, freeB b.length, i, (none, some x), rfl, ok0.1, hi2, ?_⟩
  refine ⟨(by decide : 2 ≤ 100000), (by decide : 1 ≤ 100000), ?_⟩
  refine ⟨k1, k2, List.cons_ne_nil _ _, (by decide : 1 ≤ 100), ?_⟩
  rw [fr]
  refine ⟨(by decide : 2 ≤ 100000), rfl, rfl, freeB b.length, i, (some x, none), rfl, ok0.1, hi2, ?_⟩
  refine ⟨rfl, rfl, b, _, rfl, hb, okh1, ?_⟩
  exact ⟨rfl, rfl, b, _, rfl, hb, okh2, (by decide : 2 ≤ 100000), h⟩

theorem dv_halves (T : Tx W mg) (c_common_box : Cal P w W.K mg base 4 "common_box" s_common_box ["box", "other"] (spP W 2 F_common_box)) (c_with_range : Cal P w W.K mg base 1 "with_range" s_with_range ["box", "at", "ends"] (spP W 3 F_with_range)) (cdv : Value) (A : Around) (env : List Env) (s : Shared) (H : Hp) (E : XK) (N0 : Addr → Prop) {f : Addr} (hr : Rg 4 (A.deeper (envOfC "halves" (defScope s_halves) s.heap.objs.size f cdv))) :
    PSs (cxOf CX0 P w W.K mg base ["box", "at", "value", "half", "other"] "halves" (defScope s_halves) f cdv A env s H E).nox (defBody s_halves) (upS ⟨W, Res.none, N0, H⟩ ws_halves) := by
  have hu : (A.deeper (envOfC "halves" (defScope s_halves) s.heap.objs.size f cdv)).units + 65 < cLine := by have := hr.room.un; omega
  have nd := sc_halves.nd
  exact (dss_cons (ds_set 3 nd (de_callP c_with_range rfl hr kb_with_range_3 (by decide) (by rfl) (da_cons (de_op op_mulT (od_mulT (s := true)) (de_tup (da_cons (de_tup (da_cons (de_non (s := true)) (da_cons (de_non (s := true)) (da_nil (s := true))))) (da_nil (s := true)))) (de_callB (s := true) call_len cd_len (by rfl) T.m_len boot_len (da_cons (de_var 0) (da_nil (s := true))))) (da_cons (de_var 1) (da_cons (de_tup (da_cons (de_non (s := true)) (da_cons (de_var 2) (da_nil (s := true))))) (da_nil (s := true)))))))
  (dss_cons (ds_set 4 nd (de_callP c_with_range rfl hr kb_with_range_3 (by decide) (by rfl) (da_cons (de_op op_mulT (od_mulT (s := true)) (de_tup (da_cons (de_tup (da_cons (de_non (s := true)) (da_cons (de_non (s := true)) (da_nil (s := true))))) (da_nil (s := true)))) (de_callB (s := true) call_len cd_len (by rfl) T.m_len boot_len (da_cons (de_var 0) (da_nil (s := true))))) (da_cons (de_var 1) (da_cons (de_tup (da_cons (de_var 2) (da_cons (de_non (s := true)) (da_nil (s := true))))) (da_nil (s := true)))))))
  (dss_one (ds_ret (de_tup (da_cons (de_callP c_common_box rfl hr kb_common_box_2 (by decide) (by rfl) (da_cons (de_var 0) (da_cons (de_var 3) (da_nil (s := true))))) (da_cons (de_callP c_common_box rfl hr kb_common_box_2 (by decide) (by rfl) (da_cons (de_var 0) (da_cons (de_var 4) (da_nil (s := true))))) (da_nil (s := true)))))))))
theorem ok_halves (T : Tx W mg) (c_common_box : Cal P w W.K mg base 4 "common_box" s_common_box ["box", "other"] (spP W 2 F_common_box)) (c_with_range : Cal P w W.K mg base 1 "with_range" s_with_range ["box", "at", "ends"] (spP W 3 F_with_range)) {f : Addr} {fd : FuncData} (Fn : Fun W.K "halves" "halves" s_halves f fd) : FnG P w W.K mg base CX0 5 f fd ["box", "at", "value"] (spP W 3 F_halves) :=
  ok_pure Fn sc_halves (by decide) (fun ds Φ h => len_halves h) fun cdv A env s H E N0 hr => ⟨ws_halves, dv_halves T c_common_box c_with_range cdv A env s H E N0 hr, fun ds Φ h => sem_halves ds Φ h⟩

def F__law_two_right : FD := fun ds Φ => ∃ (cs : List Cd) (s : Int), ds = [.list ((cs.map (·.a)).map dI), .list ((cs.map (·.b)).map dI), dB (shB s cs (·.a)), dB (shB s cs (·.b)), .list ((cs.map (·.t)).map dT), .int s] ∧ cs.length ≤ 100 ∧ (∀ c ∈ cs, CdOk s c) ∧ Scl s ∧ Φ (.bool true)
theorem len__law_two_right {ds Φ} (h : F__law_two_right ds Φ) : ds.length = 6 := by obtain ⟨a, b, e, _⟩ := h; rw [e]; rfl
-- slots of _law_two_right: 0 _law_one, 1 _law_two, 2 _law_box, 3 _law_other, 4 _law_tests_here, 5 _law_scale, 6 _law_spots, 7 _law_mine, 8 _law_yours, 9 _law_both, 10 _law_hull, 11 _law_at, 12 _law_some, 13 _law_least, 14 _law_most, 15 _law_joined, 16 _law_common, 17 _law_value
def ws__law_two_right : WS :=
  (wSq (wSet 6 (wListRg (wCall fLen (wCons (wVar 0) wNil))))
  (wSq (wPars [7, 8] (wEd (wFv (wLc (wListI (wVar 6)) (gN 11) wYes (wG F__law_all_in 2 0 [0, 1] (wCons (wOp fIx (wVar 0) (wVar 11)) (wCons (wOp fIx (wVar 4) (wVar 11)) wNil)) wNil) [11])) (wEd (wFv (wLc (wListI (wVar 6)) (gN 11) wYes (wG F__law_all_in 2 0 [0, 1] (wCons (wOp fIx (wVar 1) (wVar 11)) (wCons (wOp fIx (wVar 4) (wVar 11)) wNil)) wNil) [11])) wEn)))
  (wSq (wSet 9 (wFv (wLc (wListI (wVar 6)) (gN 11) wYes (wFv (wLc (wListI (wOp fIx (wVar 7) (wVar 11))) (gN 17) (wTest (wOp fIn (wVar 17) (wOp fIx (wVar 8) (wVar 11)))) (wVar 17) [17])) [11])))
  (wSq (wFst 10 (wFl wNil))
  (wSq (wFor (wListI (wVar 6)) (gN 11)
  (wSq (wSet 12 (wOp fAdd (wOp fIx (wVar 7) (wVar 11)) (wOp fIx (wVar 8) (wVar 11))))
  (wSq (wPars [13, 14] (wEd (wCall fMin (wCons (wVar 12) wNil)) (wEd (wCall fMax (wCons (wVar 12) wNil)) wEn)))
  (wApp 10 (wFv (wLc (wListI (wOp fIx (wOp fIx (wVar 4) (wVar 11)) (wC (.int 0)))) (gN 17) (wTest (wChain fLe fLe (wVar 13) (wVar 17) (wVar 14))) (wVar 17) [17]))))))
  (wFrz 10
  (wSq (wIf (wOr (wNot (wTest (wG F__law_box_right 4 0 [0, 1, 2, 3] (wCons (wG F_common_box 2 0 [0, 1] (wCons (wVar 2) (wCons (wVar 3) wNil)) wNil) (wCons (wVar 4) (wCons (wVar 9) (wCons (wVar 5) wNil)))) wNil))) (wTest (wOp fNe (wG F_common_box 0 2 [1, 0] wNil (wCons (wVar 2) (wCons (wVar 3) wNil))) (wG F_common_box 2 0 [0, 1] (wCons (wVar 2) (wCons (wVar 3) wNil)) wNil))))
  (wRet (wC (.bool false)))
  wNx)
  (wSq (wIf (wOr (wNot (wTest (wG F__law_box_right 4 0 [0, 1, 2, 3] (wCons (wG F_joined_box 2 0 [0, 1] (wCons (wVar 2) (wCons (wVar 3) wNil)) wNil) (wCons (wVar 4) (wCons (wVar 10) (wCons (wVar 5) wNil)))) wNil))) (wTest (wOp fNe (wG F_joined_box 0 2 [1, 0] wNil (wCons (wVar 2) (wCons (wVar 3) wNil))) (wG F_joined_box 2 0 [0, 1] (wCons (wVar 2) (wCons (wVar 3) wNil)) wNil))))
  (wRet (wC (.bool false)))
  wNx)
  (wSq (wIf (wOr (wTest (wOp fNe (wCall fRepr (wCons (wG F_within 2 0 [0, 1] (wCons (wVar 2) (wCons (wVar 3) wNil)) wNil) wNil)) (wCall fRepr (wCons (wOp fEq (wVar 9) (wVar 7)) wNil)))) (wTest (wOp fNe (wCall fRepr (wCons (wG F_within 0 2 [1, 0] wNil (wCons (wVar 2) (wCons (wVar 3) wNil))) wNil)) (wCall fRepr (wCons (wOp fEq (wVar 9) (wVar 8)) wNil)))))
  (wRet (wC (.bool false)))
  wNx)
  (wSq (wPars [15, 16] (wEd (wG F_joined_box 2 0 [0, 1] (wCons (wVar 2) (wCons (wVar 3) wNil)) wNil) (wEd (wG F_common_box 2 0 [0, 1] (wCons (wVar 2) (wCons (wVar 3) wNil)) wNil) wEn)))
  (wSq (wIf (wOr (wNot (wTest (wG F_within 2 0 [0, 1] (wCons (wVar 2) (wCons (wVar 15) wNil)) wNil))) (wOr (wNot (wTest (wG F_within 2 0 [0, 1] (wCons (wVar 3) (wCons (wVar 15) wNil)) wNil))) (wTest (wOp fNe (wG F_within 2 0 [0, 1] (wCons (wVar 15) (wCons (wVar 2) wNil)) wNil) (wOp fEq (wVar 10) (wVar 7))))))
  (wRet (wC (.bool false)))
  wNx)
  (wRet (wOrV (wOp fIs (wVar 16) (wC .none)) (wAndV (wG F_within 2 0 [0, 1] (wCons (wVar 16) (wCons (wVar 2) wNil)) wNil) (wAndV (wG F_within 2 0 [0, 1] (wCons (wVar 16) (wCons (wVar 3) wNil)) wNil) (wG F_within 2 0 [0, 1] (wCons (wVar 2) (wCons (wVar 2) wNil)) wNil))))))))))))))))

def mineL (cs : List Cd) : List (List Int) := cs.map fun c => c.t.1.filter (has1 c.a)
def yoursL (cs : List Cd) : List (List Int) := cs.map fun c => c.t.1.filter (has1 c.b)
def bothL (cs : List Cd) : List (List Int) := cs.map fun c => c.t.1.filter (has1 (comI c.a c.b))
def hullL (cs : List Cd) : List (List Int) := cs.map fun c => c.t.1.filter (has1 (joinI c.a c.b))
theorem sem__law_two_right (ds : List PyData) (Φ : PyData → Prop) (h : F__law_two_right ds Φ) : ws__law_two_right (retX Φ) (ev0 18 ds) := by
  obtain ⟨cs, s, rfl, hl, hc, hs, h⟩ := h
  have h0 := hs.1
  have atA : ∀ {i : Nat} {c : Cd}, cs[i]? = some c → atI ((cs.map (·.a)).map dI) (i : Int) = some (dI c.a) := fun q => atM (by rw [List.getElem?_map, q]; rfl)
  have atB : ∀ {i : Nat} {c : Cd}, cs[i]? = some c → atI ((cs.map (·.b)).map dI) (i : Int) = some (dI c.b) := fun q => atM (by rw [List.getElem?_map, q]; rfl)
  have atT : ∀ {i : Nat} {c : Cd}, cs[i]? = some c → atI ((cs.map (·.t)).map dT) (i : Int) = some (dT c.t) := fun q => atM (by rw [List.getElem?_map, q]; rfl)
  have atD : ∀ (g : Cd → List Int) {i : Nat} {c : Cd}, cs[i]? = some c → atI ((cs.map g).map dInts) (i : Int) = some (dInts (g c)) := fun g {i c} q => atM (by rw [List.getElem?_map, q]; rfl)
  have eA : ((cs.map (·.a)).map dI).length = cs.length := by rw [List.length_map, List.length_map]
  have len : (intsFrom 0 cs.length).length ≤ 100000 := by rw [intsFrom_len]; omega
  have okA : OkB (shB s cs (·.a)) := box_ok hs hl _ fun c q => (hc c q).ga
  have okB : OkB (shB s cs (·.b)) := box_ok hs hl _ fun c q => (hc c q).gb
  have okJ : OkB (shB s cs fun c => joinI c.a c.b) := box_ok hs hl _ fun c q => (hc c q).ga.join (hc c q).gb
  have okC : OkB (shB s cs fun c => comI c.a c.b) := box_ok2 hs hl _ fun c q => EdO.com ⟨(hc c q).ga.lo, (hc c q).ga.hi⟩ ⟨(hc c q).gb.lo, (hc c q).gb.hi⟩
  have tsok : TsOk (cs.map (·.t)) := ⟨fun t ht => by obtain ⟨c, q, rfl⟩ := List.mem_map.mp ht; exact (hc c q).ok.few, fun t ht v hv => by obtain ⟨c, q, rfl⟩ := List.mem_map.mp ht; exact (hc c q).ok.sml hv⟩
  -- the two boxes' common box, their joined box
  have eC : commonF (shB s cs (·.a)) (shB s cs (·.b)) = if cs.any (fun c => clashI (comI c.a c.b)) then none else some (shB s cs fun c => comI c.a c.b) := common_of h0 cs (·.a) (·.b)
  have eC2 : commonF (shB s cs (·.b)) (shB s cs (·.a)) = commonF (shB s cs (·.a)) (shB s cs (·.b)) := by
    rw [eC, show commonF (shB s cs (·.b)) (shB s cs (·.a)) = _ from common_of h0 cs (·.b) (·.a)]
    have e : ∀ c : Cd, comI c.b c.a = comI c.a c.b := fun c => com_comm _ _
    simp only [e]
    rfl
  have eJ : joinedF (shB s cs (·.a)) (shB s cs (·.b)) = shB s cs fun c => joinI c.a c.b := joined_of h0 cs (·.a) (·.b)
  have eJ2 : joinedF (shB s cs (·.b)) (shB s cs (·.a)) = shB s cs fun c => joinI c.a c.b := by
    rw [show joinedF (shB s cs (·.b)) (shB s cs (·.a)) = _ from joined_of h0 cs (·.b) (·.a)]
    have e : ∀ c : Cd, joinI c.b c.a = joinI c.a c.b := fun c => join_comm _ _
    simp only [e]
    rfl
  have okCm : ∀ b, commonF (shB s cs (·.a)) (shB s cs (·.b)) = some b → OkB b := fun b q => by
    rw [eC] at q
    split at q
    · cases q
    · cases q; exact okC
  have rC : boxRight (commonF (shB s cs (·.a)) (shB s cs (·.b))) (cs.map (·.t)) (bothL cs) s = true := by
    rw [eC]
    exact box_right_of h0 cs (·.t) (·.ks) (fun c => comI c.a c.b) fun c q => ⟨(hc c q).ok, (hc c q).ia.com (hc c q).ib⟩
  have rJ : boxRight (some (shB s cs fun c => joinI c.a c.b)) (cs.map (·.t)) (hullL cs) s = true := by
    have k := box_right_of h0 cs (·.t) (·.ks) (fun c => joinI c.a c.b) fun c q => ⟨(hc c q).ok, (hc c q).ia.join (hc c q).ib⟩
    have e : cs.any (fun c => clashI (joinI c.a c.b)) = false := by
      rw [List.any_eq_false]
      intro c q z
      have g := (hc c q).ga.join (hc c q).gb
      have := (clash_iff (hc c q).ok ((hc c q).ia.join (hc c q).ib)).mp z
      exact allIn_ne (hc c q).ok g ((hc c q).ia.join (hc c q).ib) this
    rw [e, if_neg Bool.false_ne_true] at k
    exact k
  -- the list of spots, the lists of values
  refine ⟨?_, ?_, ?_⟩
  · show (((cs.map (·.a)).map dI).length : Int) ≤ 100000
    rw [eA]; omega
  · exact Int.natCast_nonneg _
  rw [eA, Int.toNat_natCast]
  dsimp only
  refine lc_map (ds := intsFrom 0 cs.length) (pick cs fun c => dInts (c.t.1.filter (has1 c.a))) rfl (fun Ψ q => q) len (fun d hd Ψ q => ?_) ?_
  · obtain ⟨i, c, hi, rfl, e⟩ := spot hd
    rw [e] at q
    exact ⟨(by decide : 11 < 18), _, atA hi, _, atT hi, rfl, rfl, c.a, c.t, rfl, (hc c (List.mem_of_getElem? hi)).ok.few, q⟩
  rw [pick_ints]
  refine lc_map (ds := intsFrom 0 cs.length) (pick cs fun c => dInts (c.t.1.filter (has1 c.b))) rfl (fun Ψ q => q) len (fun d hd Ψ q => ?_) ?_
  · obtain ⟨i, c, hi, rfl, e⟩ := spot hd
    rw [e] at q
    exact ⟨(by decide : 11 < 18), _, atB hi, _, atT hi, rfl, rfl, c.b, c.t, rfl, (hc c (List.mem_of_getElem? hi)).ok.few, q⟩
  rw [pick_ints]
  refine ⟨rfl, ⟨(by decide : 2 ≤ 100000), ltI (n := 18) (by decide) rfl⟩, ?_⟩
  dsimp only
  refine lc_map (ds := intsFrom 0 cs.length) (pick cs fun c => dInts (c.t.1.filter (has1 (comI c.a c.b)))) rfl (fun Ψ q => q) len (fun d hd Ψ q => ?_) ?_
  · obtain ⟨i, c, hi, rfl, e⟩ := spot hd
    rw [e] at q
    have few := (hc c (List.mem_of_getElem? hi)).ok.few
    refine ⟨(by decide : 11 < 18), ?_⟩
    refine lc_filter (ds := (allIn c.a c.t).map .int) (fun d => decide (intD d ∈ allIn c.b c.t)) id rfl (fun Ψ q => ⟨_, atD _ hi, q⟩) (by rw [List.length_map]; have := List.length_filter_le (has1 c.a) c.t.1; unfold allIn; omega) (fun d hd Ψ Θ q1 q2 => ?_) ?_
    · obtain ⟨v, _, rfl⟩ := List.mem_map.mp hd
      refine ⟨(by decide : 17 < 18), _, atD _ hi, fit_int v, fit_of (fit_dInts _), ?_⟩
      show (if memD (.int v) ((c.t.1.filter (has1 c.b)).map .int) = true then _ else _)
      rw [memI]
      show (if decide (v ∈ allIn c.b c.t) = true then _ else _)
      cases k : decide (v ∈ allIn c.b c.t) with
      | true => exact q1 k
      | false => exact q2 k
    · rw [filter_ints (fun v => decide (v ∈ allIn c.b c.t)), both_eq]
      exact q
  rw [pick_ints]
  dsimp only
  refine ⟨Nat.zero_le _, ?_⟩
  dsimp only
  refine sq (for_all (ds := intsFrom 0 cs.length) (fun i ρ => ∃ x y z w, ρ = [.d (.list ((cs.map (·.a)).map dI)), .d (.list ((cs.map (·.b)).map dI)), .d (dB (shB s cs (·.a))), .d (dB (shB s cs (·.b))), .d (.list ((cs.map (·.t)).map dT)), .d (.int s), .d (.list (intsFrom 0 cs.length)), .d (.list ((mineL cs).map dInts)), .d (.list ((yoursL cs).map dInts)), .d (.list ((bothL cs).map dInts)), .o (((hullL cs).take i).map dInts), x, y, z, w, .u, .u, .u]) (fun Ψ h => h) ⟨_, _, _, _, rfl⟩ (fun i d ρ2 hd hj => ?_) fun ρ2 hj => ?_)
  · obtain ⟨x, y, z, w, rfl⟩ := hj
    have hi : i < cs.length := by
      have := (List.getElem?_eq_some_iff.mp hd).1
      rw [intsFrom_len] at this
      exact this
    obtain rfl : d = .int (i : Nat) := by rw [intsFrom_get hd, Int.zero_add]
    obtain ⟨c, hi⟩ := at_of hi
    have ok := hc c (List.mem_of_getElem? hi)
    have few := ok.ok.few
    have l1 := List.length_filter_le (has1 c.a) c.t.1
    have l2 := List.length_filter_le (has1 c.b) c.t.1
    refine ⟨(by decide : 11 < 18), _, atD _ hi, _, atD _ hi, ?_, ?_⟩
    · show ((c.t.1.filter (has1 c.a)).map PyData.int).length + ((c.t.1.filter (has1 c.b)).map PyData.int).length ≤ 100000
      rw [List.length_map, List.length_map]
      omega
    have ne : allIn c.a c.t ++ allIn c.b c.t ≠ [] := fun q => allIn_ne ok.ok ok.ga ok.ia (List.append_eq_nil_iff.mp q).1
    have em : (c.t.1.filter (has1 c.a)).map PyData.int ++ (c.t.1.filter (has1 c.b)).map PyData.int = (allIn c.a c.t ++ allIn c.b c.t).map .int := by rw [List.map_append]; rfl
    rw [em]
    refine ⟨_, rfl, ne, fun lo m1 m2 => ⟨_, rfl, ne, fun hi2 m3 m4 => ⟨rfl, ⟨(by decide : 2 ≤ 100000), ltI (n := 18) (by decide) rfl⟩, ?_⟩⟩⟩
    dsimp only
    have he := hull_eq ok.ok ok.ga ok.gb ok.ia ok.ib m1 m2 m3 m4
    refine lc_filter (ds := c.t.1.map .int) (fun d => decide (lo ≤ intD d) && decide (intD d ≤ hi2)) id rfl (fun Ψ q => ⟨_, atT hi, _, rfl, q⟩) (by rw [List.length_map]; omega) (fun d hd Ψ Θ q1 q2 => ?_) ?_
    · obtain ⟨v, _, rfl⟩ := List.mem_map.mp hd
      refine ⟨(by decide : 17 < 18), ?_⟩
      have q1 : (decide (lo ≤ v) && decide (v ≤ hi2)) = true → Ψ (.int v) := q1
      have q2 : (decide (lo ≤ v) && decide (v ≤ hi2)) = false → Θ := q2
      show (if decide (lo ≤ v) = true then _ else _)
      cases k1 : decide (lo ≤ v) with
      | false => exact q2 (by rw [k1]; rfl)
      | true =>
        rw [if_pos rfl]
        show (if decide (v ≤ hi2) = true then _ else _)
        cases k2 : decide (v ≤ hi2) with
        | false => exact q2 (by rw [k1, k2]; rfl)
        | true => exact q1 (by rw [k1, k2]; rfl)
    · rw [filter_ints (fun v => decide (lo ≤ v) && decide (v ≤ hi2)), he]
      refine ⟨?_, .d (.int (i : Nat)), .d (.list ((allIn c.a c.t ++ allIn c.b c.t).map .int)), .d (.int lo), .d (.int hi2), ?_⟩
      · rw [List.length_map, List.length_take]
        have : (hullL cs).length = cs.length := List.length_map _
        omega
      · have ht : (hullL cs)[i]? = some (c.t.1.filter (has1 (joinI c.a c.b))) := by unfold hullL; rw [List.getElem?_map, hi]; rfl
        have em2 : ((hullL cs).take i).map dInts ++ [dInts (c.t.1.filter (has1 (joinI c.a c.b)))] = ((hullL cs).take (i + 1)).map dInts := by rw [take_more ht, List.map_append]; rfl
        rw [← em2]
        rfl
  · obtain ⟨x, y, z, w, rfl⟩ := hj
    rw [intsFrom_len, show (hullL cs).take cs.length = hullL cs from List.take_of_length_le (by unfold hullL; rw [List.length_map]; exact Nat.le_refl _)]
    have fitC := fit_of (fit_dOB (commonF (shB s cs (·.a)) (shB s cs (·.b))))
    have fitJ := fit_of (fit_dB (shB s cs fun c => joinI c.a c.b))
    have lenT : (cs.map (·.t)).length = cs.length := List.length_map _
    have lenB : (bothL cs).length = cs.length := List.length_map _
    have lenH : (hullL cs).length = cs.length := List.length_map _
    have selfC : PyData.eqv (dOB (commonF (shB s cs (·.a)) (shB s cs (·.b)))) (dOB (commonF (shB s cs (·.a)) (shB s cs (·.b)))) = true := eqv_self (noB_dOB _)
    have selfJ : PyData.eqv (dB (shB s cs fun c => joinI c.a c.b)) (dB (shB s cs fun c => joinI c.a c.b)) = true := eqv_self (noB_dB _)
    dsimp only [wFrz, nth, put]
    -- the common box
    refine ⟨rfl, rfl, _, _, rfl, okA, okB, rfl, rfl, _, cs.map (·.t), bothL cs, s, rfl, okCm, by rw [lenB]; exact hl, by rw [lenT, lenB], tsok, hs, ?_⟩
    rw [rC]
    refine ⟨rfl, rfl, _, _, rfl, okB, okA, ?_⟩
    rw [eC2]
    refine ⟨rfl, rfl, _, _, rfl, okA, okB, ?_⟩
    refine fNe_i fitC fitC ?_
    show (if (!PyData.eqv (dOB (commonF (shB s cs (·.a)) (shB s cs (·.b)))) (dOB (commonF (shB s cs (·.a)) (shB s cs (·.b))))) = true then _ else _)
    rw [selfC, if_neg (by decide : ¬ (!true) = true)]
    dsimp only [wNx]
    -- the joined box
    refine ⟨rfl, rfl, _, _, rfl, okA, okB, ?_⟩
    rw [eJ]
    refine ⟨rfl, rfl, some (shB s cs fun c => joinI c.a c.b), cs.map (·.t), hullL cs, s, rfl, (fun b q => by cases q; exact okJ), by rw [lenH]; exact hl, by rw [lenT, lenH], tsok, hs, ?_⟩
    rw [rJ]
    refine ⟨rfl, rfl, _, _, rfl, okB, okA, ?_⟩
    rw [eJ2]
    refine ⟨rfl, rfl, _, _, rfl, okA, okB, ?_⟩
    rw [eJ]
    refine ⟨fitJ, fitJ, ?_⟩
    show (if (!PyData.eqv (dB (shB s cs fun c => joinI c.a c.b)) (dB (shB s cs fun c => joinI c.a c.b))) = true then _ else _)
    rw [selfJ, if_neg (by decide : ¬ (!true) = true)]
    dsimp only [wNx]
    -- the one in the other
    have w1 : withinF (shB s cs (·.a)) (shB s cs (·.b)) = decide (bothL cs = mineL cs) := by
      rw [show withinF (shB s cs (·.a)) (shB s cs (·.b)) = _ from within_of h0 cs (·.a) (·.b)]
      exact within_due cs (·.t) (·.ks) (·.a) (·.b) (fun c q => ⟨(hc c q).ok, (hc c q).ga, (hc c q).ia, (hc c q).ib⟩) (fun c => c.t.1.filter (has1 (comI c.a c.b))) fun c q => List.filter_congr fun v _ => has_com _ _ _
    have w2 : withinF (shB s cs (·.b)) (shB s cs (·.a)) = decide (bothL cs = yoursL cs) := by
      rw [show withinF (shB s cs (·.b)) (shB s cs (·.a)) = _ from within_of h0 cs (·.b) (·.a)]
      exact within_due cs (·.t) (·.ks) (·.b) (·.a) (fun c q => ⟨(hc c q).ok, (hc c q).gb, (hc c q).ib, (hc c q).ia⟩) (fun c => c.t.1.filter (has1 (comI c.a c.b))) fun c q => List.filter_congr fun v _ => by rw [has_com, Bool.and_comm]
    refine ⟨rfl, rfl, _, _, rfl, okA, okB, fit_bool _, (show_bool _).1, (show_bool _).2, fit_due _, fit_due _, ?_⟩
    rw [w1]
    rw [show PyData.eqv (.list ((bothL cs).map dInts)) (.list ((mineL cs).map dInts)) = decide (bothL cs = mineL cs) from eqv_due _ _]
    refine ⟨fit_bool _, (show_bool _).1, (show_bool _).2, ?_⟩
    show (if (!decide ((PyData.bool (decide (bothL cs = mineL cs))).shown = (PyData.bool (decide (bothL cs = mineL cs))).shown)) = true then _ else _)
    rw [decide_eq_true rfl, if_neg (by decide : ¬ (!true) = true)]
    refine ⟨rfl, rfl, _, _, rfl, okB, okA, fit_bool _, (show_bool _).1, (show_bool _).2, fit_due _, fit_due _, ?_⟩
    rw [w2]
    rw [show PyData.eqv (.list ((bothL cs).map dInts)) (.list ((yoursL cs).map dInts)) = decide (bothL cs = yoursL cs) from eqv_due _ _]
    refine ⟨fit_bool _, (show_bool _).1, (show_bool _).2, ?_⟩
    show (if (!decide ((PyData.bool (decide (bothL cs = yoursL cs))).shown = (PyData.bool (decide (bothL cs = yoursL cs))).shown)) = true then _ else _)
    rw [decide_eq_true rfl, if_neg (by decide : ¬ (!true) = true)]
    dsimp only [wNx]
    -- the joined box and the common box once more
    refine ⟨rfl, rfl, _, _, rfl, okA, okB, ?_⟩
    rw [eJ]
    refine ⟨rfl, rfl, _, _, rfl, okA, okB, rfl, ⟨(by decide : 2 ≤ 100000), ltI (n := 18) (by decide) rfl⟩, ?_⟩
    dsimp only
    have j1 : withinF (shB s cs (·.a)) (shB s cs fun c => joinI c.a c.b) = true := by
      rw [show withinF (shB s cs (·.a)) (shB s cs fun c => joinI c.a c.b) = _ from within_of h0 cs (·.a) fun c => joinI c.a c.b, List.all_eq_true]
      exact fun c _ => with_join _ _
    have j2 : withinF (shB s cs (·.b)) (shB s cs fun c => joinI c.a c.b) = true := by
      rw [show withinF (shB s cs (·.b)) (shB s cs fun c => joinI c.a c.b) = _ from within_of h0 cs (·.b) fun c => joinI c.a c.b, List.all_eq_true]
      exact fun c _ => by rw [join_comm]; exact with_join _ _
    have j3 : withinF (shB s cs fun c => joinI c.a c.b) (shB s cs (·.a)) = decide (hullL cs = mineL cs) := by
      rw [show withinF (shB s cs fun c => joinI c.a c.b) (shB s cs (·.a)) = _ from within_of h0 cs (fun c => joinI c.a c.b) (·.a)]
      rw [within_due cs (·.t) (·.ks) (fun c => joinI c.a c.b) (·.a) (fun c q => ⟨(hc c q).ok, (hc c q).ga.join (hc c q).gb, (hc c q).ia.join (hc c q).ib, (hc c q).ia⟩) (fun c => c.t.1.filter (has1 c.a)) fun c q => List.filter_congr fun v _ => by
        cases k : has1 c.a v with
        | true => rw [has_with (with_join c.a c.b) k]; rfl
        | false => rw [Bool.and_false]]
      exact decide_eq_decide.mpr ⟨fun q => q.symm, fun q => q.symm⟩
    refine ⟨rfl, rfl, _, _, rfl, okA, okJ, ?_⟩
    rw [j1]
    refine ⟨rfl, rfl, _, _, rfl, okB, okJ, ?_⟩
    rw [j2]
    refine ⟨rfl, rfl, _, _, rfl, okJ, okA, fit_due _, fit_due _, fit_bool _, fit_bool _, ?_⟩
    rw [j3]
    have e9 : PyData.eqv (.bool (decide (hullL cs = mineL cs))) (.bool (PyData.eqv (.list ((hullL cs).map dInts)) (.list ((mineL cs).map dInts)))) = true := by rw [eqv_due, eqv_bool]; exact beq_self_eq_true _
    show (if (!PyData.eqv (.bool (decide (hullL cs = mineL cs))) (.bool (PyData.eqv (.list ((hullL cs).map dInts)) (.list ((mineL cs).map dInts))))) = true then _ else _)
    rw [e9, if_neg (by decide : ¬ (!true) = true)]
    dsimp only [wNx]
    cases e : commonF (shB s cs (·.a)) (shB s cs (·.b)) with
    | none => exact h
    | some b =>
      have eb : b = shB s cs fun c => comI c.a c.b := by
        rw [eC] at e
        split at e
        · cases e
        · cases e; rfl
      subst eb
      have k1 : withinF (shB s cs fun c => comI c.a c.b) (shB s cs (·.a)) = true := by
        rw [show withinF (shB s cs fun c => comI c.a c.b) (shB s cs (·.a)) = _ from within_of h0 cs (fun c => comI c.a c.b) (·.a), List.all_eq_true]
        exact fun c _ => with_com _ _
      have k2 : withinF (shB s cs fun c => comI c.a c.b) (shB s cs (·.b)) = true := by
        rw [show withinF (shB s cs fun c => comI c.a c.b) (shB s cs (·.b)) = _ from within_of h0 cs (fun c => comI c.a c.b) (·.b), List.all_eq_true]
        exact fun c _ => by rw [com_comm]; exact with_com _ _
      have k3 : withinF (shB s cs (·.a)) (shB s cs (·.a)) = true := by
        rw [show withinF (shB s cs (·.a)) (shB s cs (·.a)) = _ from within_of h0 cs (·.a) (·.a), List.all_eq_true]
        exact fun c _ => with_self _
      refine ⟨rfl, rfl, _, _, rfl, okC, okA, ?_⟩
      rw [k1]
      refine ⟨rfl, rfl, _, _, rfl, okC, okB, ?_⟩
      rw [k2]
      refine ⟨rfl, rfl, _, _, rfl, okA, okA, ?_⟩
      rw [k3]
      exact h

theorem dv__law_two_right (T : Tx W mg) (c__law_all_in : Cal P w W.K mg base 2 "_law_all_in" s__law_all_in ["_law_ends", "_law_tests_here"] (spP W 2 F__law_all_in)) (c__law_box_right : Cal P w W.K mg base 2 "_law_box_right" s__law_box_right ["_law_box", "_law_tests_here", "_law_due", "_law_scale"] (spP W 4 F__law_box_right)) (c_common_box : Cal P w W.K mg base 4 "common_box" s_common_box ["box", "other"] (spP W 2 F_common_box)) (c_joined_box : Cal P w W.K mg base 3 "joined_box" s_joined_box ["box", "other"] (spP W 2 F_joined_box)) (c_within : Cal P w W.K mg base 3 "within" s_within ["box", "other"] (spP W 2 F_within)) (cdv : Value) (A : Around) (env : List Env) (s : Shared) (H : Hp) (E : XK) (N0 : Addr → Prop) {f : Addr} (hr : Rg 4 (A.deeper (envOfC "_law_two_right" (defScope s__law_two_right) s.heap.objs.size f cdv))) :
    PSs (cxOf CX0 P w W.K mg base ["_law_one", "_law_two", "_law_box", "_law_other", "_law_tests_here", "_law_scale", "_law_spots", "_law_mine", "_law_yours", "_law_both", "_law_hull", "_law_at", "_law_some", "_law_least", "_law_most", "_law_joined", "_law_common", "_law_value"] "_law_two_right" (defScope s__law_two_right) f cdv A env s H E).nox (defBody s__law_two_right) (upS ⟨W, Res.none, N0, H⟩ ws__law_two_right) := by
  have hu : (A.deeper (envOfC "_law_two_right" (defScope s__law_two_right) s.heap.objs.size f cdv)).units + 65 < cLine := by have := hr.room.un; omega
  have nd := sc__law_two_right.nd
  exact (dss_cons (ds_set 6 nd (de_listRg (s := true) rfl (by rfl) T.m_list (by rfl) T.m_range (de_callB (s := true) call_len cd_len (by rfl) T.m_len boot_len (da_cons (de_var 0) (da_nil (s := true))))))
  (dss_cons (ds_parN (is := [7, 8]) rfl (ea_d (de_fv (df_lc (own := [("_law_at", 11)]) rfl nd (di_list rfl (de_var 6)) (blkOk_by (by rfl)) (fun _ _ _ _ _ => (dg_name 11 nd)) (fun _ _ _ _ _ => dts_nil) (fun _ _ _ _ _ => (de_callP c__law_all_in rfl hr kb__law_all_in_2 (by decide) (by rfl) (da_cons (de_ix rfl (de_var 0) (de_var 11) (fun _ _ => rfl)) (da_cons (de_ix rfl (de_var 4) (de_var 11) (fun _ _ => rfl)) (da_nil (s := true)))))))) (ea_d (de_fv (df_lc (own := [("_law_at", 11)]) rfl nd (di_list rfl (de_var 6)) (blkOk_by (by rfl)) (fun _ _ _ _ _ => (dg_name 11 nd)) (fun _ _ _ _ _ => dts_nil) (fun _ _ _ _ _ => (de_callP c__law_all_in rfl hr kb__law_all_in_2 (by decide) (by rfl) (da_cons (de_ix rfl (de_var 1) (de_var 11) (fun _ _ => rfl)) (da_cons (de_ix rfl (de_var 4) (de_var 11) (fun _ _ => rfl)) (da_nil (s := true)))))))) ea_nil)) (tn_cons 7 nd (tn_cons 8 nd tn_nil)))
  (dss_cons (ds_lcD 9 (own := [("_law_at", 11)]) rfl nd (sw_true rfl rfl rfl (by decide +kernel)) (di_list rfl (de_var 6)) (blkOk_by (by rfl)) (fun _ _ _ _ _ => (dg_name 11 nd)) (fun _ _ _ _ _ => dts_nil) (fun _ _ _ _ _ => (de_fv (df_lc (own := [("_law_value", 17)]) rfl nd (di_list rfl (de_ix rfl (de_var 7) (de_var 11) (fun _ _ => rfl))) (blkOk_by (by rfl)) (fun _ _ _ _ _ => (dg_name 17 nd)) (fun _ _ _ _ _ => (dts_one (dt_cmp (op_inU hu) od_in (de_var 17) (de_ix rfl (de_var 8) (de_var 11) (fun _ _ => rfl)) (by with_unfolding_all rfl)))) (fun _ _ _ _ _ => (de_var 17))))))
  (dss_cons (ds_fst 10 nd (df_lst (da_nil (s := true))))
  (dss_cons (ds_for PassesOwn.never rfl (di_list rfl (de_var 6)) (dg_name 11 nd) (dss_cons (ds_set 12 nd (de_op op_addU (od_add (s := true)) (de_ix rfl (de_var 7) (de_var 11) (fun _ _ => rfl)) (de_ix rfl (de_var 8) (de_var 11) (fun _ _ => rfl))))
  (dss_cons (ds_parN (is := [13, 14]) rfl (ea_d (de_callB (s := true) (call_minU rfl) cd_min (by rfl) T.m_min boot_min (da_cons (de_var 12) (da_nil (s := true)))) (ea_d (de_callB (s := true) (call_maxU rfl) cd_max (by rfl) T.m_max boot_max (da_cons (de_var 12) (da_nil (s := true)))) ea_nil)) (tn_cons 13 nd (tn_cons 14 nd tn_nil)))
  (dss_one (ds_app 10 (de_fv (df_lc (own := [("_law_value", 17)]) rfl nd (di_list rfl (de_ix rfl (de_ix rfl (de_var 4) (de_var 11) (fun _ _ => rfl)) (de_int (s := true)) (fun _ _ => rfl))) (blkOk_by (by rfl)) (fun _ _ _ _ _ => (dg_name 17 nd)) (fun _ _ _ _ _ => (dts_one (dt_chain op_le op_le od_le od_le (de_var 13) (de_var 17) (de_var 14)))) (fun _ _ _ _ _ => (de_var 17)))))))))
  (dss_frz 10 (dss_cons (ds_if ((dw_or (dt_not (dt_val (de_callP c__law_box_right rfl hr kb__law_box_right_4 (by decide) (by rfl) (da_cons (de_callP c_common_box rfl hr kb_common_box_2 (by decide) (by rfl) (da_cons (de_var 2) (da_cons (de_var 3) (da_nil (s := true))))) (da_cons (de_var 4) (da_cons (de_var 9) (da_cons (de_var 5) (da_nil (s := true))))))))) (dw_or1 (dt_cmp (op_neU hu) od_ne (de_callP0 c_common_box rfl hr kb_common_box_0_other_box (by decide) (by rfl) (dk_cons (de_var 2) (dk_cons (de_var 3) (dk_nil (s := true))))) (de_callP c_common_box rfl hr kb_common_box_2 (by decide) (by rfl) (da_cons (de_var 2) (da_cons (de_var 3) (da_nil (s := true))))) (nomark _))))).pt (dss_one (ds_ret (de_bl (s := true)))) dss_nil)
  (dss_cons (ds_if ((dw_or (dt_not (dt_val (de_callP c__law_box_right rfl hr kb__law_box_right_4 (by decide) (by rfl) (da_cons (de_callP c_joined_box rfl hr kb_joined_box_2 (by decide) (by rfl) (da_cons (de_var 2) (da_cons (de_var 3) (da_nil (s := true))))) (da_cons (de_var 4) (da_cons (de_var 10) (da_cons (de_var 5) (da_nil (s := true))))))))) (dw_or1 (dt_cmp (op_neU hu) od_ne (de_callP0 c_joined_box rfl hr kb_joined_box_0_other_box (by decide) (by rfl) (dk_cons (de_var 2) (dk_cons (de_var 3) (dk_nil (s := true))))) (de_callP c_joined_box rfl hr kb_joined_box_2 (by decide) (by rfl) (da_cons (de_var 2) (da_cons (de_var 3) (da_nil (s := true))))) (nomark _))))).pt (dss_one (ds_ret (de_bl (s := true)))) dss_nil)
  (dss_cons (ds_if ((dw_or (dt_cmp (op_neU hu) od_ne (de_callB (s := true) (cr_repr hr.free hu) cd_repr (by rfl) T.m_repr boot_repr (da_cons (de_callP c_within rfl hr kb_within_2 (by decide) (by rfl) (da_cons (de_var 2) (da_cons (de_var 3) (da_nil (s := true))))) (da_nil (s := true)))) (de_callB (s := true) (cr_repr hr.free hu) cd_repr (by rfl) T.m_repr boot_repr (da_cons (de_cmp (op_eqU hu) (od_eq (s := true)) (de_var 9) (de_var 7) (nomark _)) (da_nil (s := true)))) (nomark _)) (dw_or1 (dt_cmp (op_neU hu) od_ne (de_callB (s := true) (cr_repr hr.free hu) cd_repr (by rfl) T.m_repr boot_repr (da_cons (de_callP0 c_within rfl hr kb_within_0_other_box (by decide) (by rfl) (dk_cons (de_var 2) (dk_cons (de_var 3) (dk_nil (s := true))))) (da_nil (s := true)))) (de_callB (s := true) (cr_repr hr.free hu) cd_repr (by rfl) T.m_repr boot_repr (da_cons (de_cmp (op_eqU hu) (od_eq (s := true)) (de_var 9) (de_var 8) (nomark _)) (da_nil (s := true)))) (nomark _))))).pt (dss_one (ds_ret (de_bl (s := true)))) dss_nil)
  (dss_cons (ds_par2 15 16 rfl nd (ea_d (de_callP c_joined_box rfl hr kb_joined_box_2 (by decide) (by rfl) (da_cons (de_var 2) (da_cons (de_var 3) (da_nil (s := true))))) (ea_d (de_callP c_common_box rfl hr kb_common_box_2 (by decide) (by rfl) (da_cons (de_var 2) (da_cons (de_var 3) (da_nil (s := true))))) ea_nil)))
  (dss_cons (ds_if ((dw_or (dt_not (dt_val (de_callP c_within rfl hr kb_within_2 (by decide) (by rfl) (da_cons (de_var 2) (da_cons (de_var 15) (da_nil (s := true))))))) (dw_or (dt_not (dt_val (de_callP c_within rfl hr kb_within_2 (by decide) (by rfl) (da_cons (de_var 3) (da_cons (de_var 15) (da_nil (s := true))))))) (dw_or1 (dt_cmp (op_neU hu) od_ne (de_callP c_within rfl hr kb_within_2 (by decide) (by rfl) (da_cons (de_var 15) (da_cons (de_var 2) (da_nil (s := true))))) (de_cmp (op_eqU hu) (od_eq (s := true)) (de_var 10) (de_var 7) (nomark _)) (nomark _)))))).pt (dss_one (ds_ret (de_bl (s := true)))) dss_nil)
  (dss_one (ds_ret (de_or (de_cmp op_isU (od_is (s := true)) (de_var 16) (de_non (s := true)) (nomark _)) (de_one (de_and (de_callP c_within rfl hr kb_within_2 (by decide) (by rfl) (da_cons (de_var 16) (da_cons (de_var 2) (da_nil (s := true))))) (de_and (de_callP c_within rfl hr kb_within_2 (by decide) (by rfl) (da_cons (de_var 16) (da_cons (de_var 3) (da_nil (s := true))))) (de_one (de_callP c_within rfl hr kb_within_2 (by decide) (by rfl) (da_cons (de_var 2) (da_cons (de_var 2) (da_nil (s := true)))))))))))))))))))))))
theorem ok__law_two_right (T : Tx W mg) (c__law_all_in : Cal P w W.K mg base 2 "_law_all_in" s__law_all_in ["_law_ends", "_law_tests_here"] (spP W 2 F__law_all_in)) (c__law_box_right : Cal P w W.K mg base 2 "_law_box_right" s__law_box_right ["_law_box", "_law_tests_here", "_law_due", "_law_scale"] (spP W 4 F__law_box_right)) (c_common_box : Cal P w W.K mg base 4 "common_box" s_common_box ["box", "other"] (spP W 2 F_common_box)) (c_joined_box : Cal P w W.K mg base 3 "joined_box" s_joined_box ["box", "other"] (spP W 2 F_joined_box)) (c_within : Cal P w W.K mg base 3 "within" s_within ["box", "other"] (spP W 2 F_within)) {f : Addr} {fd : FuncData} (Fn : Fun W.K "_law_two_right" "_law_two_right" s__law_two_right f fd) : FnG P w W.K mg base CX0 5 f fd ["_law_one", "_law_two", "_law_box", "_law_other", "_law_tests_here", "_law_scale"] (spP W 6 F__law_two_right) :=
  ok_pure Fn sc__law_two_right (by decide) (fun ds Φ h => len__law_two_right h) fun cdv A env s H E N0 hr => ⟨ws__law_two_right, dv__law_two_right T c__law_all_in c__law_box_right c_common_box c_joined_box c_within cdv A env s H E N0 hr, fun ds Φ h => sem__law_two_right ds Φ h⟩

def F__law_points_right : FD := fun ds Φ => ∃ (cs : List Cd) (s : Int), ds = [.list ((cs.map (·.a)).map dI), dB (shB s cs (·.a)), .list ((cs.map (·.t)).map dT), .int s] ∧ cs ≠ [] ∧ cs.length ≤ 100 ∧ (∀ c ∈ cs, CdOk s c) ∧ Scl s ∧ Φ (.bool true)
theorem len__law_points_right {ds Φ} (h : F__law_points_right ds Φ) : ds.length + 1 = 5 := by obtain ⟨a, b, e, _⟩ := h; rw [e]; rfl
-- slots of _law_points_right: 0 _law_heap_here, 1 _law_own, 2 _law_box, 3 _law_tests_here, 4 _law_scale, 5 _law_turn, 6 _law_point, 7 _law_at, 8 _law_due, 9 _law_told, 10 _law_value, 11 _law_part
def ws__law_points_right : WS :=
  (wSq (wFor (wRng1 (wCons (wC (.int 2)) wNil)) (gN 5)
  (wSq (wFst 6 (wLc (wRng1 (wCons (wCall fLen (wCons (wVar 1) wNil)) wNil)) (gN 7) wYes (wGR 0 F__law_pick 2 (wCons (wG F__law_fit 2 0 [0, 1] (wCons (wG F__law_all_in 2 0 [0, 1] (wCons (wOp fIx (wVar 1) (wVar 7)) (wCons (wOp fIx (wVar 3) (wVar 7)) wNil)) wNil) (wCons (wVar 4) wNil)) wNil) wNil)) [7]))
  (wSq (wIf (wTest (wOp fGt (wVar 5) (wC (.int 0))))
  (wSq (wSet 7 (wGR 0 F__law_draw 2 (wCons (wCall fLen (wCons (wVar 1) wNil)) wNil)))
  (wSetI 6 (wGR 0 F__law_pick 2 (wCons (wG F__law_fit 2 0 [0, 1] (wCons (wOp fIx (wOp fIx (wVar 3) (wVar 7)) (wC (.int 0))) (wCons (wVar 4) wNil)) wNil) wNil)) (wVar 7)))
  wNx)
  (wFrz 6
  (wSq (wSet 8 (wCall fAll (wCons (wFv (wLc (wRng1 (wCons (wCall fLen (wCons (wVar 1) wNil)) wNil)) (gN 7) wYes (wG F__law_has 2 0 [0, 1] (wCons (wOp fIx (wVar 1) (wVar 7)) (wCons (wOp fIx (wVar 6) (wVar 7)) wNil)) wNil) [7])) wNil)))
  (wSq (wSet 9 (wCall fTuple (wCons (wFv (wLc (wListI (wVar 6)) (gN 10) wYes (wG F__law_lowest 2 0 [0, 1] (wCons (wVar 10) (wCons (wVar 4) wNil)) wNil) [10])) wNil)))
  (wSq (wIf (wOr (wTest (wOp fNe (wCall fRepr (wCons (wG F_in_box 2 0 [0, 1] (wCons (wVar 9) (wCons (wVar 2) wNil)) wNil) wNil)) (wCall fRepr (wCons (wVar 8) wNil)))) (wTest (wOp fNe (wG F_in_box 0 2 [1, 0] wNil (wCons (wVar 2) (wCons (wVar 9) wNil))) (wVar 8))))
  (wRet (wC (.bool false)))
  wNx)
  (wSq (wIf (wOr (wTest (wOp fNe (wCall fRepr (wCons (wG F_point_box 1 0 [0] (wCons (wVar 9) wNil) wNil) wNil)) (wCall fRepr (wCons (wCall fTuple (wCons (wFv (wLc (wTupI (wVar 9)) (gN 11) wYes (wTup (wCons (wVar 11) (wCons (wVar 11) wNil))) [11])) wNil)) wNil)))) (wNot (wTest (wG F_in_box 2 0 [0, 1] (wCons (wVar 9) (wCons (wG F_point_box 0 1 [0] wNil (wCons (wVar 9) wNil)) wNil)) wNil))))
  (wRet (wC (.bool false)))
  wNx)
  (wIf (wTest (wOp fNe (wVar 8) (wG F_within 2 0 [0, 1] (wCons (wG F_point_box 1 0 [0] (wCons (wVar 9) wNil) wNil) (wCons (wVar 2) wNil)) wNil)))
  (wRet (wC (.bool false)))
  wNx)))))))))
  (wRet (wC (.bool true))))

/-- what comes behind the drawn point -/
def pr_rest : WS :=
  (wFrz 6
  (wSq (wSet 8 (wCall fAll (wCons (wFv (wLc (wRng1 (wCons (wCall fLen (wCons (wVar 1) wNil)) wNil)) (gN 7) wYes (wG F__law_has 2 0 [0, 1] (wCons (wOp fIx (wVar 1) (wVar 7)) (wCons (wOp fIx (wVar 6) (wVar 7)) wNil)) wNil) [7])) wNil)))
  (wSq (wSet 9 (wCall fTuple (wCons (wFv (wLc (wListI (wVar 6)) (gN 10) wYes (wG F__law_lowest 2 0 [0, 1] (wCons (wVar 10) (wCons (wVar 4) wNil)) wNil) [10])) wNil)))
  (wSq (wIf (wOr (wTest (wOp fNe (wCall fRepr (wCons (wG F_in_box 2 0 [0, 1] (wCons (wVar 9) (wCons (wVar 2) wNil)) wNil) wNil)) (wCall fRepr (wCons (wVar 8) wNil)))) (wTest (wOp fNe (wG F_in_box 0 2 [1, 0] wNil (wCons (wVar 2) (wCons (wVar 9) wNil))) (wVar 8))))
  (wRet (wC (.bool false)))
  wNx)
  (wSq (wIf (wOr (wTest (wOp fNe (wCall fRepr (wCons (wG F_point_box 1 0 [0] (wCons (wVar 9) wNil) wNil) wNil)) (wCall fRepr (wCons (wCall fTuple (wCons (wFv (wLc (wTupI (wVar 9)) (gN 11) wYes (wTup (wCons (wVar 11) (wCons (wVar 11) wNil))) [11])) wNil)) wNil)))) (wNot (wTest (wG F_in_box 2 0 [0, 1] (wCons (wVar 9) (wCons (wG F_point_box 0 1 [0] wNil (wCons (wVar 9) wNil)) wNil)) wNil))))
  (wRet (wC (.bool false)))
  wNx)
  (wIf (wTest (wOp fNe (wVar 8) (wG F_within 2 0 [0, 1] (wCons (wG F_point_box 1 0 [0] (wCons (wVar 9) wNil) wNil) (wCons (wVar 2) wNil)) wNil)))
  (wRet (wC (.bool false)))
  wNx))))))
theorem has_pt {a : RI} {v : Int} : withI (some v, some v) a = has1 a v := by
  obtain ⟨l, u⟩ := a
  unfold withI has1
  cases l <;> cases u <;> rfl
theorem within_pts {s : Int} (h0 : 0 < s) : ∀ (vs : List Int) (cs : List Cd), withinF (ptB (vs.map (low · s))) (shB s cs (·.a)) = (cs.zip vs).all fun p => has1 p.1.a p.2
  | [], cs => by
    cases cs <;> rfl
  | v :: vs, [] => rfl
  | v :: vs, c :: cs => by
    have ih := within_pts h0 vs cs
    unfold withinF at ih ⊢
    show (within1 (shR s (some v, some v), shR s c.a) && ((ptB (vs.map (low · s))).zip (shB s cs (·.a))).all within1) = (has1 c.a v && (cs.zip vs).all fun p => has1 p.1.a p.2)
    rw [ih, within1_sh h0, has_pt]
theorem within_refl {s : Int} (h0 : 0 < s) : ∀ vs : List Int, withinF (ptB (vs.map (low · s))) (ptB (vs.map (low · s))) = true
  | [] => rfl
  | v :: vs => by
    have ih := within_refl h0 vs
    unfold withinF at ih ⊢
    show (within1 (shR s (some v, some v), shR s (some v, some v)) && ((ptB (vs.map (low · s))).zip (ptB (vs.map (low · s)))).all within1) = true
    rw [ih, within1_sh h0, with_self]
    rfl
theorem ints_of : ∀ {ys : List PyData}, (∀ (i : Nat) y, ys[i]? = some y → ∃ v : Int, y = .int v ∧ Sml v) → ∃ vs : List Int, ys = vs.map .int ∧ ∀ v ∈ vs, Sml v
  | [], _ => ⟨[], rfl, fun v hv => nomatch hv⟩
  | y :: ys, h => by
    obtain ⟨v, rfl, hv⟩ := h 0 y rfl
    obtain ⟨vs, rfl, hvs⟩ := ints_of (ys := ys) fun i z hz => h (i + 1) z hz
    exact ⟨v :: vs, rfl, fun x hx => by
      rcases List.mem_cons.mp hx with rfl | hx
      · exact hv
      · exact hvs x hx⟩
theorem sem_rest {cs : List Cd} {s : Int} (hl : cs.length ≤ 100) (hc : ∀ c ∈ cs, CdOk s c) (hs : Scl s) {vs : List Int} (lv : vs.length = cs.length) (hv : ∀ v ∈ vs, Sml v) (W : DL.WX) (x5 x8 x9 : Ent) (x7 : Ent) (h7 : x7 = .u ∨ ∃ d, x7 = .d d)
    (q : ∀ d8 d9, W.nx [.m, .d (.list ((cs.map (·.a)).map dI)), .d (dB (shB s cs (·.a))), .d (.list ((cs.map (·.t)).map dT)), .d (.int s), x5, .d (.list (vs.map .int)), x7, .d d8, .d d9, .u, .u]) :
    pr_rest W [.m, .d (.list ((cs.map (·.a)).map dI)), .d (dB (shB s cs (·.a))), .d (.list ((cs.map (·.t)).map dT)), .d (.int s), x5, .o (vs.map .int), x7, x8, x9, .u, .u] := by
  have h0 := hs.1
  have atA : ∀ {i : Nat} {c : Cd}, cs[i]? = some c → atI ((cs.map (·.a)).map dI) (i : Int) = some (dI c.a) := fun q => atM (by rw [List.getElem?_map, q]; rfl)
  have eA : ((cs.map (·.a)).map dI).length = cs.length := by rw [List.length_map, List.length_map]
  have okA : OkB (shB s cs (·.a)) := box_ok hs hl _ fun c q => (hc c q).ga
  have okP : OkB (ptB (vs.map (low · s))) := ⟨by unfold ptB; rw [List.length_map, List.length_map]; omega, fun r hr => by
    unfold ptB at hr
    rw [List.map_map] at hr
    obtain ⟨v, hm, rfl⟩ := List.mem_map.mp hr
    exact ⟨low_ok hs (hv v hm), low_ok hs (hv v hm)⟩⟩
  have okX : ∀ x ∈ vs.map (low · s), OkF x := fun x hx => by
    obtain ⟨v, hm, rfl⟩ := List.mem_map.mp hx
    exact low_ok hs (hv v hm)
  have lX : (vs.map (low · s)).length ≤ 100 := by rw [List.length_map]; omega
  have no7 : noOwn [.m, .d (.list ((cs.map (·.a)).map dI)), .d (dB (shB s cs (·.a))), .d (.list ((cs.map (·.t)).map dT)), .d (.int s), x5, .d (.list (vs.map .int)), x7, x8, x9, .u, .u] [7] = true := by
    rcases h7 with rfl | ⟨d, rfl⟩ <;> rfl
  unfold pr_rest
  dsimp only [wFrz, nth, put]
  obtain ⟨due, hdue⟩ : ∃ due, due = (cs.zip vs).all fun p => has1 p.1.a p.2 := ⟨_, rfl⟩
  refine lc_map (ds := DL.intsFrom 0 cs.length) (fun d => match cs[(intD d).toNat]?, vs[(intD d).toNat]? with | some c, some v => PyData.bool (has1 c.a v) | _, _ => PyData.none) no7 (fun Ψ q => ?_) (by rw [intsFrom_len]; omega) (fun d hd Ψ q => ?_) ?_
  · refine ⟨?_, ?_, ?_⟩
    · show -(2 ^ 60) < (((cs.map (·.a)).map dI).length : Int); omega
    · show (((cs.map (·.a)).map dI).length : Int) < 2 ^ 60; rw [eA]; omega
    · rw [eA, Int.toNat_natCast]; exact q
  · obtain ⟨i, c, hi, rfl, _⟩ := spot hd
    have ilt := (List.getElem?_eq_some_iff.mp hi).1
    obtain ⟨v, hvi⟩ := at_of (xs := vs) (i := i) (by omega)
    have q : Ψ (.bool (has1 c.a v)) := by
      have q : Ψ (match cs[((i : Nat) : Int).toNat]?, vs[((i : Nat) : Int).toNat]? with | some c, some v => PyData.bool (has1 c.a v) | _, _ => PyData.none) := q
      rw [Int.toNat_natCast, hi, hvi] at q
      exact q
    have wl : ∀ ρ : Ev, (wipeE ρ [7]).length = ρ.length := fun ρ => wipeE_len _
    exact ⟨(by decide : 7 < 12), _, atA hi, _, atM hvi, rfl, rfl, c.a, v, rfl, q⟩
  have eB : (DL.intsFrom 0 cs.length).map (fun d => match cs[(intD d).toNat]?, vs[(intD d).toNat]? with | some c, some v => PyData.bool (has1 c.a v) | _, _ => PyData.none) = ((cs.zip vs).map fun p => has1 p.1.a p.2).map .bool := by
    refine List.ext_getElem? fun i => ?_
    rw [List.getElem?_map, List.getElem?_map, List.getElem?_map]
    by_cases hi : i < cs.length
    · obtain ⟨d, hd⟩ := at_of (xs := DL.intsFrom 0 cs.length) (i := i) (by rw [intsFrom_len]; exact hi)
      have e2 := intsFrom_get hd
      rw [Int.zero_add] at e2
      obtain ⟨c, hci⟩ := at_of hi
      obtain ⟨v, hvi⟩ := at_of (xs := vs) (i := i) (by omega)
      rw [hd, e2, zip_at hci hvi]
      show some (match cs[((i : Nat) : Int).toNat]?, vs[((i : Nat) : Int).toNat]? with | some c, some v => PyData.bool (has1 c.a v) | _, _ => .none) = some (.bool (has1 c.a v))
      rw [Int.toNat_natCast, hci, hvi]
    · rw [List.getElem?_eq_none (by rw [intsFrom_len]; omega), List.getElem?_eq_none (by rw [List.length_zip]; omega)]
      rfl
  rw [eB]
  refine ⟨_, rfl, ?_⟩
  have eD : ((cs.zip vs).map fun p => has1 p.1.a p.2).all id = due := by rw [List.all_map, hdue]; rfl
  rw [eD]
  dsimp only
  refine lc_map (ds := vs.map .int) (fun d => dF (low (intD d) s)) (by rcases h7 with rfl | ⟨d, rfl⟩ <;> rfl) (fun Ψ q => q) (by rw [List.length_map]; omega) (fun d hd Ψ q => ?_) ?_
  · obtain ⟨v, _, rfl⟩ := List.mem_map.mp hd
    exact ⟨(by decide : 10 < 12), rfl, rfl, v, s, rfl, hs, q⟩
  have eF : (vs.map PyData.int).map (fun d => dF (low (intD d) s)) = (vs.map (low · s)).map dF := by rw [List.map_map, List.map_map]; rfl
  rw [eF]
  dsimp only
  have wi := within_pts h0 vs cs
  rw [← hdue] at wi
  have sb := show_bool due
  refine ⟨rfl, rfl, vs.map (low · s), _, rfl, lX, okX, okA, fit_bool _, (show_bool _).1, (show_bool _).2, fit_bool _, sb.1, sb.2, ?_⟩
  rw [wi]
  show (if (!decide ((PyData.bool due).shown = (PyData.bool due).shown)) = true then _ else _)
  rw [decide_eq_true rfl, if_neg (by decide : ¬ (!true) = true)]
  refine ⟨rfl, rfl, vs.map (low · s), _, rfl, lX, okX, okA, fit_bool _, fit_bool _, ?_⟩
  rw [wi]
  show (if (!PyData.eqv (.bool due) (.bool due)) = true then _ else _)
  rw [eqv_bool, beq_self_eq_true, if_neg (by decide : ¬ (!true) = true)]
  dsimp only [wNx]
  have shP := show_dB okP
  refine ⟨rfl, rfl, vs.map (low · s), rfl, lX, fit_of (fit_dB _), shP.1, shP.2, ?_⟩
  refine lc_map (ds := (vs.map (low · s)).map dF) (fun d => .tuple [d, d]) (by rcases h7 with rfl | ⟨d, rfl⟩ <;> rfl) (fun Ψ q => q) (by rw [List.length_map]; omega) (fun d hd Ψ q => ⟨(by decide : 11 < 12), (by decide : 2 ≤ 100000), q⟩) ?_
  have eP : ((vs.map (low · s)).map dF).map (fun d => PyData.tuple [d, d]) = (ptB (vs.map (low · s))).map dR := by
    unfold ptB; simp only [List.map_map]; rfl
  rw [eP]
  refine ⟨fit_of (fit_dB (ptB (vs.map (low · s)))), shP.1, shP.2, ?_⟩
  show (if (!decide ((dB (ptB (vs.map (low · s)))).shown = (dB (ptB (vs.map (low · s)))).shown)) = true then _ else _)
  rw [decide_eq_true rfl, if_neg (by decide : ¬ (!true) = true)]
  refine ⟨rfl, rfl, vs.map (low · s), rfl, lX, ?_⟩
  refine ⟨rfl, rfl, vs.map (low · s), _, rfl, lX, okX, okP, ?_⟩
  rw [within_refl h0]
  dsimp only [wNx]
  refine ⟨rfl, rfl, vs.map (low · s), rfl, lX, ?_⟩
  refine ⟨rfl, rfl, _, _, rfl, okP, okA, fit_bool _, fit_bool _, ?_⟩
  rw [wi]
  show (if (!PyData.eqv (.bool due) (.bool due)) = true then _ else _)
  rw [eqv_bool, beq_self_eq_true, if_neg (by decide : ¬ (!true) = true)]
  exact q _ _
theorem sem__law_points_right (ds : List PyData) (Φ : PyData → Prop) (h : F__law_points_right ds Φ) : ws__law_points_right (retX Φ) (ev1 12 ds) := by
  obtain ⟨cs, s, rfl, ne, hl, hc, hs, h⟩ := h
  have n1 : 1 ≤ cs.length := List.length_pos_iff.mpr ne
  have atA : ∀ {i : Nat} {c : Cd}, cs[i]? = some c → atI ((cs.map (·.a)).map dI) (i : Int) = some (dI c.a) := fun q => atM (by rw [List.getElem?_map, q]; rfl)
  have atT : ∀ {i : Nat} {c : Cd}, cs[i]? = some c → atI ((cs.map (·.t)).map dT) (i : Int) = some (dT c.t) := fun q => atM (by rw [List.getElem?_map, q]; rfl)
  have eA : ((cs.map (·.a)).map dI).length = cs.length := by rw [List.length_map, List.length_map]
  -- what can be picked
  have pickD : ∀ (c : Cd), c ∈ cs → ∀ ks : List Int, (∀ k ∈ ks, k ∈ c.t.1) → ks.length ≤ 1000 → ∀ Ψ : PyData → Prop, (∀ v, Sml v → Ψ (.int v)) → F__law_pick [dInts (fitF ks s)] Ψ := fun c hcc ks hk hkl Ψ q => by
    refine ⟨(fitF ks s).map .int, rfl, ?_, ?_, fun x hx => ?_⟩
    · unfold fitF; simp
    · rw [List.length_map]
      unfold fitF
      have := List.length_filter_le (small9 s) ks
      rw [List.length_append, List.length_cons, List.length_nil]
      omega
    · obtain ⟨v, hm, rfl⟩ := List.mem_map.mp hx
      unfold fitF at hm
      rw [List.mem_append] at hm
      rcases hm with hm | hm
      · exact q v ((hc c hcc).ok.sml (hk v (List.mem_filter.mp hm).1))
      · rw [List.mem_singleton.mp hm]; exact q 0 (by unfold Sml; decide)
  refine for_all (ds := DL.intsFrom 0 2) (fun i ρ => ∃ x5 x6 x7 x8 x9, ρ = [.m, .d (.list ((cs.map (·.a)).map dI)), .d (dB (shB s cs (·.a))), .d (.list ((cs.map (·.t)).map dT)), .d (.int s), x5, x6, x7, x8, x9, .u, .u] ∧ (x7 = .u ∨ ∃ d, x7 = .d d)) (fun Ψ q => ⟨(by decide : -(2 ^ 60) < (2 : Int)), (by decide : (2 : Int) < 2 ^ 60), q⟩) ⟨_, _, _, _, _, rfl, .inl rfl⟩ (fun i d ρ2 hd hj => ?_) fun ρ2 hj => ?_
  · obtain ⟨x5, x6, x7, x8, x9, rfl, h7⟩ := hj
    obtain rfl : d = .int (i : Nat) := by rw [intsFrom_get hd, Int.zero_add]
    refine ⟨(by decide : 5 < 12), ?_⟩
    dsimp only
    refine sq (lc_any (ds := DL.intsFrom 0 cs.length) (fun _ y => ∃ v : Int, y = .int v ∧ Sml v) (by rcases h7 with rfl | ⟨d, rfl⟩ <;> rfl) (fun Ψ q => ?_) (by rw [intsFrom_len]; omega) (fun j d hd Ψ q => ?_) fun ys hy1 hy2 => ?_)
    · refine ⟨?_, ?_, ?_⟩
      · show -(2 ^ 60) < (((cs.map (·.a)).map dI).length : Int); omega
      · show (((cs.map (·.a)).map dI).length : Int) < 2 ^ 60; rw [eA]; omega
      · rw [eA, Int.toNat_natCast]; exact q
    · obtain ⟨k, c, hk, rfl, _⟩ := spot (List.mem_of_getElem? hd)
      have hcm := List.mem_of_getElem? hk
      have few := (hc c hcm).ok.few
      have lf := List.length_filter_le (has1 c.a) c.t.1
      refine ⟨(by decide : 7 < 12), _, atA hk, _, atT hk, rfl, rfl, c.a, c.t, rfl, few, ?_⟩
      refine ⟨rfl, rfl, allIn c.a c.t, s, rfl, by first | omega | (unfold allIn; omega), hs, rfl, ?_⟩
      exact pickD c hcm _ (fun k hk => (List.mem_filter.mp hk).1) (by first | omega | (unfold allIn; omega)) _ fun v hv => q _ ⟨v, rfl, hv⟩
    obtain ⟨vs, rfl, hvs⟩ := ints_of hy2
    rw [List.length_map, intsFrom_len] at hy1
    dsimp only
    by_cases t0 : (0 : Int) < (i : Nat)
    · refine sq ?_
      show (if decide ((0 : Int) < (i : Nat)) = true then _ else _)
      rw [decide_eq_true t0, if_pos rfl]
      refine ⟨rfl, (cs.length : Int), by rw [eA], by omega, by omega, fun r r0 r1 => ?_⟩
      obtain ⟨k, rfl⟩ := Int.eq_ofNat_of_zero_le r0
      obtain ⟨c, hk⟩ := at_of (xs := cs) (i := k) (by omega)
      have hcm := List.mem_of_getElem? hk
      have few := (hc c hcm).ok.few
      dsimp only
      refine ⟨_, atT hk, _, rfl, rfl, rfl, c.t.1, s, rfl, few, hs, rfl, ?_⟩
      refine pickD c hcm _ (fun k hk => hk) few _ fun v hv => ⟨k, ?_, ?_⟩
      · unfold ixN
        rw [if_pos (Int.natCast_nonneg k), if_pos (by rw [List.length_map]; omega), Int.toNat_natCast]
      · dsimp only
        have es : (vs.map PyData.int).set k (.int v) = (vs.set k v).map .int := (List.map_set ..).symm
        rw [es]
        refine sem_rest hl hc hs (by rw [List.length_set]; exact hy1) (fun x hx => ?_) _ _ _ _ _ (.inr ⟨_, rfl⟩) fun d8 d9 => ⟨_, _, _, _, _, rfl, .inr ⟨_, rfl⟩⟩
        rcases List.mem_or_eq_of_mem_set hx with hx | rfl
        · exact hvs x hx
        · exact hv
    · refine sq ?_
      show (if decide ((0 : Int) < (i : Nat)) = true then _ else _)
      rw [decide_eq_false t0, if_neg Bool.false_ne_true]
      dsimp only [wNx]
      exact sem_rest hl hc hs hy1 hvs _ _ _ _ _ h7 fun d8 d9 => ⟨_, _, _, _, _, rfl, h7⟩
  · obtain ⟨x5, x6, x7, x8, x9, rfl, _⟩ := hj
    exact h

theorem dv__law_points_right (T : Tx W mg) (c__law_all_in : Cal P w W.K mg base 2 "_law_all_in" s__law_all_in ["_law_ends", "_law_tests_here"] (spP W 2 F__law_all_in)) (c__law_draw : Cal P w W.K mg base 1 "_law_draw" s__law_draw ["_law_heap_here", "_law_many"] (spR W RR 2 F__law_draw)) (c__law_fit : Cal P w W.K mg base 2 "_law_fit" s__law_fit ["_law_values", "_law_scale"] (spP W 2 F__law_fit)) (c__law_has : Cal P w W.K mg base 1 "_law_has" s__law_has ["_law_ends", "_law_value"] (spP W 2 F__law_has)) (c__law_lowest : Cal P w W.K mg base 1 "_law_lowest" s__law_lowest ["_law_over", "_law_under"] (spP W 2 F__law_lowest)) (c__law_pick : Cal P w W.K mg base 2 "_law_pick" s__law_pick ["_law_heap_here", "_law_some"] (spR W RR 2 F__law_pick)) (c_in_box : Cal P w W.K mg base 4 "in_box" s_in_box ["point", "box"] (spP W 2 F_in_box)) (c_point_box : Cal P w W.K mg base 1 "point_box" s_point_box ["point"] (spP W 1 F_point_box)) (c_within : Cal P w W.K mg base 3 "within" s_within ["box", "other"] (spP W 2 F_within)) (cdv : Value) (A : Around) (env : List Env) (s : Shared) (H : Hp) (E : XK) (N0 : Addr → Prop) (b c : Addr) {f : Addr} (hr : Rg 4 (A.deeper (envOfC "_law_points_right" (defScope s__law_points_right) s.heap.objs.size f cdv))) :
    PSs (cxOf CX0 P w W.K mg base ["_law_heap_here", "_law_own", "_law_box", "_law_tests_here", "_law_scale", "_law_turn", "_law_point", "_law_at", "_law_due", "_law_told", "_law_value", "_law_part"] "_law_points_right" (defScope s__law_points_right) f cdv A env s H E).nox (defBody s__law_points_right) (upS ⟨W, RR b c, N0, H⟩ ws__law_points_right) := by
  have hu : (A.deeper (envOfC "_law_points_right" (defScope s__law_points_right) s.heap.objs.size f cdv)).units + 65 < cLine := by have := hr.room.un; omega
  have nd := sc__law_points_right.nd
  exact (dss_cons (ds_for PassesOwn.never rfl (di_rng1 (by rfl) T.m_range (da_cons (de_int (s := true)) (da_nil (s := true)))) (dg_name 5 nd) (dss_cons (ds_fst 6 nd (df_lc (own := [("_law_at", 7)]) rfl nd (di_rng1 (by rfl) T.m_range (da_cons (de_callB (s := true) call_len cd_len (by rfl) T.m_len boot_len (da_cons (de_var 1) (da_nil (s := true)))) (da_nil (s := true)))) (blkOk_by (by rfl)) (fun _ _ _ _ _ => (dg_name 7 nd)) (fun _ _ _ _ _ => dts_nil) (fun _ _ _ _ _ => (de_callR 0 c__law_pick rfl rfl hr (kb__law_pick_2) (by decide) (by rfl) (da_cons (de_callP c__law_fit rfl hr kb__law_fit_2 (by decide) (by rfl) (da_cons (de_callP c__law_all_in rfl hr kb__law_all_in_2 (by decide) (by rfl) (da_cons (de_ix rfl (de_var 1) (de_var 7) (fun _ _ => rfl)) (da_cons (de_ix rfl (de_var 3) (de_var 7) (fun _ _ => rfl)) (da_nil (s := true))))) (da_cons (de_var 4) (da_nil (s := true))))) (da_nil (s := true)))))))
  (dss_cons (ds_if (dt_cmp op_gt od_gt (de_var 5) (de_int (s := true)) (nomark _)) (dss_cons (ds_set 7 nd (de_callR 0 c__law_draw rfl rfl hr (kb__law_draw_2) (by decide) (by rfl) (da_cons (de_callB (s := true) call_len cd_len (by rfl) T.m_len boot_len (da_cons (de_var 1) (da_nil (s := true)))) (da_nil (s := true)))))
  (dss_one (ds_setI 6 (de_callR 0 c__law_pick rfl rfl hr (kb__law_pick_2) (by decide) (by rfl) (da_cons (de_callP c__law_fit rfl hr kb__law_fit_2 (by decide) (by rfl) (da_cons (de_ix rfl (de_ix rfl (de_var 3) (de_var 7) (fun _ _ => rfl)) (de_int (s := true)) (fun _ _ => rfl)) (da_cons (de_var 4) (da_nil (s := true))))) (da_nil (s := true)))) (de_var 7)))) dss_nil)
  (dss_frz 6 (dss_cons (ds_set 8 nd (de_callB (s := true) (cr_all rfl) cd_all (by rfl) T.m_all boot_all (da_cons (de_fv (df_lc (own := [("_law_at", 7)]) rfl nd (di_rng1 (by rfl) T.m_range (da_cons (de_callB (s := true) call_len cd_len (by rfl) T.m_len boot_len (da_cons (de_var 1) (da_nil (s := true)))) (da_nil (s := true)))) (blkOk_by (by rfl)) (fun _ _ _ _ _ => (dg_name 7 nd)) (fun _ _ _ _ _ => dts_nil) (fun _ _ _ _ _ => (de_callP c__law_has rfl hr kb__law_has_2 (by decide) (by rfl) (da_cons (de_ix rfl (de_var 1) (de_var 7) (fun _ _ => rfl)) (da_cons (de_ix rfl (de_var 6) (de_var 7) (fun _ _ => rfl)) (da_nil (s := true)))))))) (da_nil (s := true)))))
  (dss_cons (ds_set 9 nd (de_callT (s := true) call_tuple_of cd_tuple (by rfl) T.m_tuple boot_tuple (da_cons (de_fv (df_lc (own := [("_law_value", 10)]) rfl nd (di_list rfl (de_var 6)) (blkOk_by (by rfl)) (fun _ _ _ _ _ => (dg_name 10 nd)) (fun _ _ _ _ _ => dts_nil) (fun _ _ _ _ _ => (de_callP c__law_lowest rfl hr kb__law_lowest_2 (by decide) (by rfl) (da_cons (de_var 10) (da_cons (de_var 4) (da_nil (s := true)))))))) (da_nil (s := true)))))
  (dss_cons (ds_if ((dw_or (dt_cmp (op_neU hu) od_ne (de_callB (s := true) (cr_repr hr.free hu) cd_repr (by rfl) T.m_repr boot_repr (da_cons (de_callP c_in_box rfl hr kb_in_box_2 (by decide) (by rfl) (da_cons (de_var 9) (da_cons (de_var 2) (da_nil (s := true))))) (da_nil (s := true)))) (de_callB (s := true) (cr_repr hr.free hu) cd_repr (by rfl) T.m_repr boot_repr (da_cons (de_var 8) (da_nil (s := true)))) (nomark _)) (dw_or1 (dt_cmp (op_neU hu) od_ne (de_callP0 c_in_box rfl hr kb_in_box_0_box_point (by decide) (by rfl) (dk_cons (de_var 2) (dk_cons (de_var 9) (dk_nil (s := true))))) (de_var 8) (nomark _))))).pt (dss_one (ds_ret (de_bl (s := true)))) dss_nil)
  (dss_cons (ds_if ((dw_or (dt_cmp (op_neU hu) od_ne (de_callB (s := true) (cr_repr hr.free hu) cd_repr (by rfl) T.m_repr boot_repr (da_cons (de_callP c_point_box rfl hr kb_point_box_1 (by decide) (by rfl) (da_cons (de_var 9) (da_nil (s := true)))) (da_nil (s := true)))) (de_callB (s := true) (cr_repr hr.free hu) cd_repr (by rfl) T.m_repr boot_repr (da_cons (de_callT (s := true) call_tuple_of cd_tuple (by rfl) T.m_tuple boot_tuple (da_cons (de_fv (df_lc (own := [("_law_part", 11)]) rfl nd (di_tup rfl (de_var 9)) (blkOk_by (by rfl)) (fun _ _ _ _ _ => (dg_name 11 nd)) (fun _ _ _ _ _ => dts_nil) (fun _ _ _ _ _ => (de_tup (da_cons (de_var 11) (da_cons (de_var 11) (da_nil (s := true)))))))) (da_nil (s := true)))) (da_nil (s := true)))) (nomark _)) (dw_or1 (dt_not (dt_val (de_callP c_in_box rfl hr kb_in_box_2 (by decide) (by rfl) (da_cons (de_var 9) (da_cons (de_callP0 c_point_box rfl hr kb_point_box_0_point (by decide) (by rfl) (dk_cons (de_var 9) (dk_nil (s := true)))) (da_nil (s := true)))))))))).pt (dss_one (ds_ret (de_bl (s := true)))) dss_nil)
  (dss_one (ds_if (dt_cmp (op_neU hu) od_ne (de_var 8) (de_callP c_within rfl hr kb_within_2 (by decide) (by rfl) (da_cons (de_callP c_point_box rfl hr kb_point_box_1 (by decide) (by rfl) (da_cons (de_var 9) (da_nil (s := true)))) (da_cons (de_var 2) (da_nil (s := true))))) (nomark _)) (dss_one (ds_ret (de_bl (s := true)))) dss_nil))))))))))
  (dss_one (ds_ret (de_bl (s := true)))))
theorem ok__law_points_right (T : Tx W mg) (c__law_all_in : Cal P w W.K mg base 2 "_law_all_in" s__law_all_in ["_law_ends", "_law_tests_here"] (spP W 2 F__law_all_in)) (c__law_draw : Cal P w W.K mg base 1 "_law_draw" s__law_draw ["_law_heap_here", "_law_many"] (spR W RR 2 F__law_draw)) (c__law_fit : Cal P w W.K mg base 2 "_law_fit" s__law_fit ["_law_values", "_law_scale"] (spP W 2 F__law_fit)) (c__law_has : Cal P w W.K mg base 1 "_law_has" s__law_has ["_law_ends", "_law_value"] (spP W 2 F__law_has)) (c__law_lowest : Cal P w W.K mg base 1 "_law_lowest" s__law_lowest ["_law_over", "_law_under"] (spP W 2 F__law_lowest)) (c__law_pick : Cal P w W.K mg base 2 "_law_pick" s__law_pick ["_law_heap_here", "_law_some"] (spR W RR 2 F__law_pick)) (c_in_box : Cal P w W.K mg base 4 "in_box" s_in_box ["point", "box"] (spP W 2 F_in_box)) (c_point_box : Cal P w W.K mg base 1 "point_box" s_point_box ["point"] (spP W 1 F_point_box)) (c_within : Cal P w W.K mg base 3 "within" s_within ["box", "other"] (spP W 2 F_within)) {f : Addr} {fd : FuncData} (Fn : Fun W.K "_law_points_right" "_law_points_right" s__law_points_right f fd) : FnG P w W.K mg base CX0 5 f fd ["_law_heap_here", "_law_own", "_law_box", "_law_tests_here", "_law_scale"] (spR W RR 5 F__law_points_right) :=
  ok_draw Fn sc__law_points_right (by decide) (fun ds Φ h => len__law_points_right h) fun cdv A env s H E N0 b c hr => ⟨ws__law_points_right, dv__law_points_right T c__law_all_in c__law_draw c__law_fit c__law_has c__law_lowest c__law_pick c_in_box c_point_box c_within cdv A env s H E N0 b c hr, fun ds Φ h => sem__law_points_right ds Φ h⟩

def F__law_cut_right : FD := fun ds Φ => ∃ (cs : List Cd) (s : Int) (i : Nat) (c : Cd), ds = [.list ((cs.map (·.a)).map dI), dB (shB s cs (·.a)), .list ((cs.map (·.t)).map dT), .int s, .int (i : Nat), .int c.cut] ∧ cs[i]? = some c ∧ cs.length ≤ 100 ∧ (∀ c ∈ cs, CdOk s c) ∧ Scl s ∧ Φ (.bool true)
theorem len__law_cut_right {ds Φ} (h : F__law_cut_right ds Φ) : ds.length = 6 := by obtain ⟨a, b, c, d, e, _⟩ := h; rw [e]; rfl
-- slots of _law_cut_right: 0 _law_own, 1 _law_box, 2 _law_tests_here, 3 _law_scale, 4 _law_at, 5 _law_value, 6 _law_part, 7 _law_due, 8 _law_here, 9 _law_two, 10 _law_place, 11 _law_one
def ws__law_cut_right : WS :=
  (wSq (wSet 6 (wG F__law_lowest 2 0 [0, 1] (wCons (wVar 5) (wCons (wVar 3) wNil)) wNil))
  (wSq (wFst 7 (wLc (wRng1 (wCons (wCall fLen (wCons (wVar 0) wNil)) wNil)) (gN 10) wYes (wG F__law_all_in 2 0 [0, 1] (wCons (wOp fIx (wVar 0) (wVar 10)) (wCons (wOp fIx (wVar 2) (wVar 10)) wNil)) wNil) [10]))
  (wSq (wSet 8 (wIxO 7 (wVar 4)))
  (wSq (wSet 9 (wG F_halves 3 0 [0, 1, 2] (wCons (wVar 1) (wCons (wVar 4) (wCons (wVar 6) wNil))) wNil))
  (wSq (wIf (wOr (wNot (wTest (wIsi "tuple" (wVar 9)))) (wOr (wTest (wOp fNe (wCall fLen (wCons (wVar 9) wNil)) (wC (.int 2)))) (wTest (wOp fNe (wG F_halves 0 3 [2, 1, 0] wNil (wCons (wVar 6) (wCons (wVar 4) (wCons (wVar 1) wNil)))) (wVar 9)))))
  (wRet (wC (.bool false)))
  wNx)
  (wSq (wSetI 7 (wFv (wLc (wListI (wVar 8)) (gN 11) (wTest (wOp fLe (wVar 11) (wVar 5))) (wVar 11) [11])) (wVar 4))
  (wSq (wIf (wNot (wTest (wG F__law_box_right 4 0 [0, 1, 2, 3] (wCons (wOp fIx (wVar 9) (wC (.int 0))) (wCons (wVar 2) (wCons (wOwn 7) (wCons (wVar 3) wNil)))) wNil)))
  (wRet (wC (.bool false)))
  wNx)
  (wSq (wSetI 7 (wFv (wLc (wListI (wVar 8)) (gN 11) (wTest (wOp fGe (wVar 11) (wVar 5))) (wVar 11) [11])) (wVar 4))
  (wSq (wIf (wNot (wTest (wG F__law_box_right 4 0 [0, 1, 2, 3] (wCons (wOp fIx (wVar 9) (wC (.int 1))) (wCons (wVar 2) (wCons (wOwn 7) (wCons (wVar 3) wNil)))) wNil)))
  (wRet (wC (.bool false)))
  wNx)
  (wSq (wSetI 7 (wLst (wCons (wVar 5) wNil)) (wVar 4))
  (wFrz 7
  (wRet (wAndV (wG F__law_box_right 4 0 [0, 1, 2, 3] (wCons (wG F_placed 3 0 [0, 1, 2] (wCons (wVar 1) (wCons (wVar 4) (wCons (wVar 6) wNil))) wNil) (wCons (wVar 2) (wCons (wVar 7) (wCons (wVar 3) wNil)))) wNil) (wOp fEq (wG F_placed 0 3 [2, 1, 0] wNil (wCons (wVar 6) (wCons (wVar 4) (wCons (wVar 1) wNil)))) (wG F_placed 3 0 [0, 1, 2] (wCons (wVar 1) (wCons (wVar 4) (wCons (wVar 6) wNil))) wNil)))))))))))))))

/-- the coordinate i cut by r, the others as they are -/
def cutR (i : Nat) (r : RI) (q : Cd × Nat) : RI := if q.2 = i then r else (none, none)
theorem com_free (a : RI) : comI a (none, none) = a := by
  obtain ⟨l, u⟩ := a
  cases l <;> cases u <;> rfl
theorem zip_fst {cs : List Cd} {β : Type} (g : Cd → β) : (cs.zipIdx.map fun q => g q.1) = cs.map g := by
  refine List.ext_getElem? fun j => ?_
  rw [List.getElem?_map, List.getElem?_map, List.getElem?_zipIdx]
  cases cs[j]? <;> rfl
theorem half_eq {s : Int} {cs : List Cd} {i : Nat} (r : RI) : halfB cs.length i (shR s r) = cs.zipIdx.map fun q => shR s (cutR i r q) := by
  unfold halfB freeB
  refine List.ext_getElem? fun j => ?_
  rw [List.getElem?_map, List.getElem?_zipIdx, List.getElem?_set, List.getElem?_replicate, List.length_replicate]
  by_cases h : j < cs.length
  · rw [List.getElem?_eq_getElem h, if_pos h]
    by_cases e : i = j
    · subst e
      rw [if_pos rfl, if_pos h]
      simp [cutR]
    · rw [if_neg e]
      simp [cutR, Ne.symm e, shR, shE]
  · rw [List.getElem?_eq_none (by omega), if_neg h]
    by_cases e : i = j
    · subst e
      rw [if_pos rfl, if_neg h]; rfl
    · rw [if_neg e]; rfl
theorem due_eq {cs : List Cd} {i : Nat} {c : Cd} (hi : cs[i]? = some c) (r : RI) (ks : List Int) (hk : ks = c.t.1.filter (has1 (comI c.a r))) :
    (cs.map fun c => c.t.1.filter (has1 c.a)).set i ks = cs.zipIdx.map fun q => q.1.t.1.filter (has1 (comI q.1.a (cutR i r q))) := by
  refine List.ext_getElem? fun j => ?_
  rw [List.getElem?_map, List.getElem?_zipIdx, List.getElem?_set, List.getElem?_map, List.length_map]
  by_cases h : j < cs.length
  · by_cases e : i = j
    · subst e
      rw [if_pos rfl, if_pos h, hi, hk]
      simp [cutR]
    · rw [if_neg e, List.getElem?_eq_getElem h]
      simp [cutR, Ne.symm e, com_free]
  · rw [List.getElem?_eq_none (by omega : cs.length ≤ j)]
    by_cases e : i = j
    · subst e
      rw [if_pos rfl, if_neg h]; rfl
    · rw [if_neg e]; rfl
theorem sem__law_cut_right (ds : List PyData) (Φ : PyData → Prop) (h : F__law_cut_right ds Φ) : ws__law_cut_right (retX Φ) (ev0 12 ds) := by
  obtain ⟨cs, s, i, c, rfl, hi, hl, hc, hs, h⟩ := h
  have h0 := hs.1
  have okc := hc c (List.mem_of_getElem? hi)
  have ilt : i < cs.length := (List.getElem?_eq_some_iff.mp hi).1
  have atA : ∀ {i : Nat} {c : Cd}, cs[i]? = some c → atI ((cs.map (·.a)).map dI) (i : Int) = some (dI c.a) := fun q => atM (by rw [List.getElem?_map, q]; rfl)
  have atT : ∀ {i : Nat} {c : Cd}, cs[i]? = some c → atI ((cs.map (·.t)).map dT) (i : Int) = some (dT c.t) := fun q => atM (by rw [List.getElem?_map, q]; rfl)
  have atD : ∀ (g : Cd → List Int) {i : Nat} {c : Cd}, cs[i]? = some c → atI ((cs.map g).map dInts) (i : Int) = some (dInts (g c)) := fun g {i c} q => atM (by rw [List.getElem?_map, q]; rfl)
  have eA : ((cs.map (·.a)).map dI).length = cs.length := by rw [List.length_map, List.length_map]
  have okA : OkB (shB s cs (·.a)) := box_ok hs hl _ fun c q => (hc c q).ga
  have cutE : Ed c.cut := okc.ok.eds _ okc.ic
  have okF : OkF (low c.cut s) := low_ok hs cutE.sml
  have tsok : TsOk (cs.map (·.t)) := ⟨fun t ht => by obtain ⟨c, q, rfl⟩ := List.mem_map.mp ht; exact (hc c q).ok.few, fun t ht v hv => by obtain ⟨c, q, rfl⟩ := List.mem_map.mp ht; exact (hc c q).ok.sml hv⟩
  have lenA : (shB s cs (·.a)).length = cs.length := List.length_map _
  have zA : shB s cs (·.a) = cs.zipIdx.map fun q => shR s q.1.a := (zip_fst fun c => shR s c.a).symm
  have zT : cs.map (·.t) = cs.zipIdx.map fun q => q.1.t := (zip_fst fun c => c.t).symm
  -- each half
  have half : ∀ r : RI, EdO r.1 ∧ EdO r.2 → EndsIn r c.ks → commonF (shB s cs (·.a)) (halfB (shB s cs (·.a)).length i (shR s r)) = (if cs.zipIdx.any (fun q => clashI (comI q.1.a (cutR i r q))) then none else some (cs.zipIdx.map fun q => shR s (comI q.1.a (cutR i r q)))) ∧
      (∀ b, commonF (shB s cs (·.a)) (halfB (shB s cs (·.a)).length i (shR s r)) = some b → OkB b) ∧ boxRight (commonF (shB s cs (·.a)) (halfB (shB s cs (·.a)).length i (shR s r))) (cs.map (·.t)) ((cs.map fun c => c.t.1.filter (has1 c.a)).set i (c.t.1.filter (has1 (comI c.a r)))) s = true := by
    intro r hr ir
    have e1 : commonF (shB s cs (·.a)) (halfB (shB s cs (·.a)).length i (shR s r)) = (if cs.zipIdx.any (fun q => clashI (comI q.1.a (cutR i r q))) then none else some (cs.zipIdx.map fun q => shR s (comI q.1.a (cutR i r q)))) := by
      rw [lenA, half_eq r, zA]
      exact common_of h0 cs.zipIdx (fun q => q.1.a) (cutR i r)
    have cut : ∀ q ∈ cs.zipIdx, cutR i r q = r ∧ q.1 = c ∨ cutR i r q = (none, none) := fun q hq => by
      unfold cutR
      by_cases e : q.2 = i
      · have := mem_zipIdx hq
        rw [e, hi] at this
        exact .inl ⟨if_pos e, (Option.some.inj this).symm⟩
      · exact .inr (if_neg e)
    refine ⟨e1, fun b hb => ?_, ?_⟩
    · rw [e1] at hb
      split at hb
      · cases hb
      · cases hb
        refine box_ok2 (xs := cs.zipIdx) hs (by rw [List.length_zipIdx]; exact hl) (fun q => comI q.1.a (cutR i r q)) fun q hq => ?_
        have gq := hc q.1 (List.mem_of_getElem? (mem_zipIdx hq))
        refine EdO.com ⟨gq.ga.lo, gq.ga.hi⟩ ?_
        rcases cut q hq with ⟨e, _⟩ | e <;> rw [e]
        · exact hr
        · exact ⟨trivial, trivial⟩
    · rw [e1, due_eq hi r _ rfl, zT]
      refine box_right_of h0 cs.zipIdx (fun q => q.1.t) (fun q => q.1.ks) (fun q => comI q.1.a (cutR i r q)) fun q hq => ?_
      have gq := hc q.1 (List.mem_of_getElem? (mem_zipIdx hq))
      refine ⟨gq.ok, gq.ia.com ?_⟩
      rcases cut q hq with ⟨e, e2⟩ | e <;> rw [e]
      · rw [e2]; exact ir
      · exact ⟨fun l z => (nomatch z), fun u z => (nomatch z)⟩
  have iU : EndsIn (none, some c.cut) c.ks := ⟨fun l z => (nomatch z), fun u z => by cases z; exact okc.ic⟩
  have iL : EndsIn (some c.cut, none) c.ks := ⟨fun u z => by cases z; exact okc.ic, fun l z => (nomatch z)⟩
  obtain ⟨u1, u2, u3⟩ := half (none, some c.cut) ⟨trivial, cutE⟩ iU
  obtain ⟨l1, l2, l3⟩ := half (some c.cut, none) ⟨cutE, trivial⟩ iL
  -- the value put in
  have place : (shB s cs (·.a)).set i (some (low c.cut s), some (low c.cut s)) = cs.zipIdx.map fun q => shR s (if q.2 = i then (some c.cut, some c.cut) else q.1.a) := by
    refine List.ext_getElem? fun j => ?_
    unfold shB
    rw [List.getElem?_map, List.getElem?_zipIdx, List.getElem?_set, List.getElem?_map, List.length_map]
    by_cases hj : j < cs.length
    · by_cases e : i = j
      · subst e
        rw [if_pos rfl, if_pos hj, hi]
        simp [shR, shE]
      · rw [if_neg e, List.getElem?_eq_getElem hj]
        simp [Ne.symm e]
    · rw [List.getElem?_eq_none (by omega : cs.length ≤ j)]
      by_cases e : i = j
      · subst e
        rw [if_pos rfl, if_neg hj]; rfl
      · rw [if_neg e]; rfl
  have only : c.t.1.filter (has1 (some c.cut, some c.cut)) = [c.cut] := by
    have hm := okc.ok.at_ okc.ic
    have hs2 := okc.ok.srt
    generalize c.t.1 = ms at hm hs2 ⊢
    clear half u1 u2 u3 l1 l2 l3 place
    induction ms with
    | nil => cases hm
    | cons m ms ih =>
      obtain ⟨p1, p2⟩ := List.pairwise_cons.mp hs2
      by_cases e : m = c.cut
      · subst e
        rw [List.filter_cons_of_pos (by simp [has1, loHas, hiHas])]
        have : ms.filter (has1 (some c.cut, some c.cut)) = [] := by
          rw [List.filter_eq_nil_iff]
          intro v hv
          have := p1 v hv
          simp [has1, loHas, hiHas]
          omega
        rw [this]
      · have hm2 : c.cut ∈ ms := by
          rcases List.mem_cons.mp hm with z | z
          · exact absurd z.symm e
          · exact z
        rw [List.filter_cons_of_neg (by simp [has1, loHas, hiHas]; omega)]
        exact ih hm2 p2
  have pR : boxRight (some ((shB s cs (·.a)).set i (some (low c.cut s), some (low c.cut s)))) (cs.map (·.t)) ((cs.map fun c => c.t.1.filter (has1 c.a)).set i [c.cut]) s = true := by
    have k := box_right_of h0 cs.zipIdx (fun q => q.1.t) (fun q => q.1.ks) (fun q => if q.2 = i then (some c.cut, some c.cut) else q.1.a) fun q hq => by
      have gq := hc q.1 (List.mem_of_getElem? (mem_zipIdx hq))
      refine ⟨gq.ok, ?_⟩
      by_cases e : q.2 = i
      · have := mem_zipIdx hq
        rw [e, hi] at this
        rw [if_pos e, ← Option.some.inj this]
        exact ⟨fun u z => by cases z; exact okc.ic, fun u z => by cases z; exact okc.ic⟩
      · rw [if_neg e]; exact gq.ia
    have e0 : cs.zipIdx.any (fun q => clashI (if q.2 = i then (some c.cut, some c.cut) else q.1.a)) = false := by
      rw [List.any_eq_false]
      intro q hq z
      by_cases e : q.2 = i
      · rw [if_pos e] at z
        have z : decide (c.cut < c.cut) = true := z
        simp at z
      · rw [if_neg e] at z
        have gq := hc q.1 (List.mem_of_getElem? (mem_zipIdx hq))
        exact allIn_ne gq.ok gq.ga gq.ia ((clash_iff gq.ok gq.ia).mp z)
    rw [e0, if_neg Bool.false_ne_true, ← place, ← zT] at k
    have e2 : (cs.map fun c => c.t.1.filter (has1 c.a)).set i [c.cut] = cs.zipIdx.map fun q => q.1.t.1.filter (has1 (if q.2 = i then (some c.cut, some c.cut) else q.1.a)) := by
      refine List.ext_getElem? fun j => ?_
      rw [List.getElem?_map, List.getElem?_zipIdx, List.getElem?_set, List.getElem?_map, List.length_map]
      by_cases hj : j < cs.length
      · by_cases e : i = j
        · subst e
          rw [if_pos rfl, if_pos hj, hi]
          simp [only]
        · rw [if_neg e, List.getElem?_eq_getElem hj]
          simp [Ne.symm e]
      · rw [List.getElem?_eq_none (by omega : cs.length ≤ j)]
        by_cases e : i = j
        · subst e
          rw [if_pos rfl, if_neg hj]; rfl
        · rw [if_neg e]; rfl
    rw [e2]
    exact k
  -- the program
  refine ⟨rfl, rfl, c.cut, s, rfl, hs, ?_⟩
  dsimp only
  refine sq (lc_map (ds := intsFrom 0 cs.length) (pick cs fun c => dInts (c.t.1.filter (has1 c.a))) rfl (fun Ψ q => ?_) (by rw [intsFrom_len]; omega) (fun d hd Ψ q => ?_) ?_)
  · refine ⟨?_, ?_, ?_⟩
    · show -(2 ^ 60) < (((cs.map (·.a)).map dI).length : Int); omega
    · show (((cs.map (·.a)).map dI).length : Int) < 2 ^ 60; rw [eA]; omega
    · rw [eA, Int.toNat_natCast]; exact q
  · obtain ⟨j, c, hj, rfl, e⟩ := spot hd
    rw [e] at q
    exact ⟨(by decide : 10 < 12), _, atA hj, _, atT hj, rfl, rfl, c.a, c.t, rfl, (hc c (List.mem_of_getElem? hj)).ok.few, q⟩
  rw [pick_ints]
  dsimp only
  have ixd : ∀ (n : Nat), n = cs.length → ixN n (i : Int) = some i := fun n e => by
    unfold ixN
    rw [if_pos (Int.natCast_nonneg i), if_pos (by omega), Int.toNat_natCast]
  refine ⟨_, atD _ hi, ?_⟩
  dsimp only
  refine ⟨rfl, rfl, _, i, low c.cut s, rfl, okA, okF, by rw [lenA]; exact ilt, ?_⟩
  dsimp only
  have eh : ∀ r : RI, halfB (shB s cs (·.a)).length i (shE s r.1, shE s r.2) = halfB (shB s cs (·.a)).length i (shR s r) := fun r => rfl
  have e1 : halfB (shB s cs (·.a)).length i (none, some (low c.cut s)) = halfB (shB s cs (·.a)).length i (shR s (none, some c.cut)) := rfl
  have e2 : halfB (shB s cs (·.a)).length i (some (low c.cut s), none) = halfB (shB s cs (·.a)).length i (shR s (some c.cut, none)) := rfl
  rw [e1, e2]
  obtain ⟨X, hX⟩ : ∃ X, X = commonF (shB s cs (·.a)) (halfB (shB s cs (·.a)).length i (shR s (none, some c.cut))) := ⟨_, rfl⟩
  obtain ⟨Y, hY⟩ : ∃ Y, Y = commonF (shB s cs (·.a)) (halfB (shB s cs (·.a)).length i (shR s (some c.cut, none))) := ⟨_, rfl⟩
  rw [← hX] at u1 u2 u3
  rw [← hY] at l1 l2 l3
  rw [← hX, ← hY]
  have fitXY : Fit (.tuple [dOB X, dOB Y]) := fit_of (n := 4) (fit_tuple (n := 3) fun x hx => by
    rcases List.mem_cons.mp hx with rfl | hx
    · exact fit_dOB X
    · rw [List.mem_singleton.mp hx]; exact fit_dOB Y)
  have selfXY : PyData.eqv (.tuple [dOB X, dOB Y]) (.tuple [dOB X, dOB Y]) = true := eqv_self (by
    show (noB (dOB X) && (noB (dOB Y) && true)) = true
    rw [noB_dOB, noB_dOB]; rfl)
  refine ⟨true, rfl, fun k z => (nomatch z), fit_int _, fit_int _, ?_⟩
  show (if (!PyData.eqv (.int (([dOB X, dOB Y] : List PyData).length : Nat)) (.int 2)) = true then _ else _)
  rw [show PyData.eqv (.int (([dOB X, dOB Y] : List PyData).length : Nat)) (.int 2) = true from eqv_int 2 2, if_neg (by decide : ¬ (!true) = true)]
  refine ⟨rfl, rfl, _, i, low c.cut s, rfl, okA, okF, by rw [lenA]; exact ilt, ?_⟩
  rw [e1, e2, ← hX, ← hY]
  refine ⟨fitXY, fitXY, ?_⟩
  show (if (!PyData.eqv (.tuple [dOB X, dOB Y]) (.tuple [dOB X, dOB Y])) = true then _ else _)
  rw [selfXY, if_neg (by decide : ¬ (!true) = true)]
  dsimp only [wNx]
  have few := okc.ok.few
  have l0 := List.length_filter_le (has1 c.a) c.t.1
  have lenD : ∀ ks : List Int, (((cs.map fun c => c.t.1.filter (has1 c.a)).set i ks).map dInts).length = cs.length := fun ks => by rw [List.length_map, List.length_set, List.length_map]
  have lenT : (cs.map (·.t)).length = cs.length := List.length_map _
  have lenS : ∀ ks : List Int, ((cs.map fun c => c.t.1.filter (has1 c.a)).set i ks).length = cs.length := fun ks => by rw [List.length_set, List.length_map]
  have mapS : ∀ ks : List Int, ((cs.map fun c => c.t.1.filter (has1 c.a)).map dInts).set i (dInts ks) = ((cs.map fun c => c.t.1.filter (has1 c.a)).set i ks).map dInts := fun ks => (List.map_set ..).symm
  have mapS2 : ∀ ks k2 : List Int, (((cs.map fun c => c.t.1.filter (has1 c.a)).set i ks).map dInts).set i (dInts k2) = ((cs.map fun c => c.t.1.filter (has1 c.a)).set i k2).map dInts := fun ks k2 => by rw [← mapS, List.set_set, mapS]
  have fU : ((c.t.1.filter (has1 c.a)).filter fun v => decide (v ≤ c.cut)) = c.t.1.filter (has1 (comI c.a (none, some c.cut))) := by
    rw [List.filter_filter]
    refine List.filter_congr fun v _ => ?_
    rw [has_com, Bool.and_comm]
    rfl
  have fL : ((c.t.1.filter (has1 c.a)).filter fun v => decide (c.cut ≤ v)) = c.t.1.filter (has1 (comI c.a (some c.cut, none))) := by
    rw [List.filter_filter]
    refine List.filter_congr fun v _ => ?_
    rw [has_com, Bool.and_comm]
    show _ = (has1 c.a v && (decide (c.cut ≤ v) && true))
    rw [Bool.and_true]
  -- below
  refine lc_filter (ds := (c.t.1.filter (has1 c.a)).map .int) (fun d => decide (intD d ≤ c.cut)) id rfl (fun Ψ q => q) (by rw [List.length_map]; omega) (fun d hd Ψ Θ q1 q2 => ?_) ?_
  · obtain ⟨v, _, rfl⟩ := List.mem_map.mp hd
    have q1 : decide (v ≤ c.cut) = true → Ψ (.int v) := q1
    have q2 : decide (v ≤ c.cut) = false → Θ := q2
    refine ⟨(by decide : 11 < 12), ?_⟩
    show (if decide (v ≤ c.cut) = true then _ else _)
    cases k : decide (v ≤ c.cut) with
    | true => exact q1 k
    | false => exact q2 k
  rw [filter_ints (fun v => decide (v ≤ c.cut)), fU]
  refine ⟨i, ixd _ (by rw [List.length_map, List.length_map]), ?_⟩
  dsimp only
  rw [show PyData.list ((c.t.1.filter (has1 (comI c.a (none, some c.cut)))).map PyData.int) = dInts (c.t.1.filter (has1 (comI c.a (none, some c.cut)))) from rfl, mapS]
  refine ⟨_, rfl, rfl, rfl, X, cs.map (·.t), (cs.map fun c => c.t.1.filter (has1 c.a)).set i (c.t.1.filter (has1 (comI c.a (none, some c.cut)))), s, rfl, u2, by rw [lenS]; exact hl, by rw [lenT, lenS], tsok, hs, ?_⟩
  rw [u3]
  dsimp only [wNx]
  -- above
  refine lc_filter (ds := (c.t.1.filter (has1 c.a)).map .int) (fun d => decide (c.cut ≤ intD d)) id rfl (fun Ψ q => q) (by rw [List.length_map]; omega) (fun d hd Ψ Θ q1 q2 => ?_) ?_
  · obtain ⟨v, _, rfl⟩ := List.mem_map.mp hd
    have q1 : decide (c.cut ≤ v) = true → Ψ (.int v) := q1
    have q2 : decide (c.cut ≤ v) = false → Θ := q2
    refine ⟨(by decide : 11 < 12), ?_⟩
    show (if decide (c.cut ≤ v) = true then _ else _)
    cases k : decide (c.cut ≤ v) with
    | true => exact q1 k
    | false => exact q2 k
  rw [filter_ints (fun v => decide (c.cut ≤ v)), fL]
  refine ⟨i, ixd _ (lenD _), ?_⟩
  dsimp only
  rw [show PyData.list ((c.t.1.filter (has1 (comI c.a (some c.cut, none)))).map PyData.int) = dInts (c.t.1.filter (has1 (comI c.a (some c.cut, none)))) from rfl, mapS2]
  refine ⟨_, rfl, rfl, rfl, Y, cs.map (·.t), (cs.map fun c => c.t.1.filter (has1 c.a)).set i (c.t.1.filter (has1 (comI c.a (some c.cut, none)))), s, rfl, l2, by rw [lenS]; exact hl, by rw [lenT, lenS], tsok, hs, ?_⟩
  rw [l3]
  dsimp only [wNx]
  -- the value itself
  refine ⟨(by decide : 1 ≤ 100000), i, ixd _ (lenD _), ?_⟩
  dsimp only
  rw [show PyData.list [PyData.int c.cut] = dInts [c.cut] from rfl, mapS2]
  dsimp only [wFrz, nth, put]
  have okP : OkB ((shB s cs (·.a)).set i (some (low c.cut s), some (low c.cut s))) := okA.set ⟨okF, okF⟩
  refine ⟨rfl, rfl, shB s cs (·.a), i, low c.cut s, rfl, okA.1, by rw [lenA]; exact ilt, ?_⟩
  refine ⟨rfl, rfl, some ((shB s cs (·.a)).set i (some (low c.cut s), some (low c.cut s))), cs.map (·.t), (cs.map fun c => c.t.1.filter (has1 c.a)).set i [c.cut], s, rfl, (fun b q => by cases q; exact okP), by rw [lenS]; exact hl, by rw [lenT, lenS], tsok, hs, ?_⟩
  rw [pR]
  refine ⟨rfl, rfl, shB s cs (·.a), i, low c.cut s, rfl, okA.1, by rw [lenA]; exact ilt, ?_⟩
  refine ⟨rfl, rfl, shB s cs (·.a), i, low c.cut s, rfl, okA.1, by rw [lenA]; exact ilt, ?_⟩
  refine fEq_i (fit_of (fit_dB _)) (fit_of (fit_dB _)) ?_
  rw [eqv_self (noB_dB _)]
  exact h

theorem dv__law_cut_right (T : Tx W mg) (c__law_all_in : Cal P w W.K mg base 2 "_law_all_in" s__law_all_in ["_law_ends", "_law_tests_here"] (spP W 2 F__law_all_in)) (c__law_box_right : Cal P w W.K mg base 2 "_law_box_right" s__law_box_right ["_law_box", "_law_tests_here", "_law_due", "_law_scale"] (spP W 4 F__law_box_right)) (c__law_lowest : Cal P w W.K mg base 1 "_law_lowest" s__law_lowest ["_law_over", "_law_under"] (spP W 2 F__law_lowest)) (c_halves : Cal P w W.K mg base 5 "halves" s_halves ["box", "at", "value"] (spP W 3 F_halves)) (c_placed : Cal P w W.K mg base 2 "placed" s_placed ["box", "at", "value"] (spP W 3 F_placed)) (cdv : Value) (A : Around) (env : List Env) (s : Shared) (H : Hp) (E : XK) (N0 : Addr → Prop) {f : Addr} (hr : Rg 5 (A.deeper (envOfC "_law_cut_right" (defScope s__law_cut_right) s.heap.objs.size f cdv))) :
    PSs (cxOf CX0 P w W.K mg base ["_law_own", "_law_box", "_law_tests_here", "_law_scale", "_law_at", "_law_value", "_law_part", "_law_due", "_law_here", "_law_two", "_law_place", "_law_one"] "_law_cut_right" (defScope s__law_cut_right) f cdv A env s H E).nox (defBody s__law_cut_right) (upS ⟨W, Res.none, N0, H⟩ ws__law_cut_right) := by
  have hu : (A.deeper (envOfC "_law_cut_right" (defScope s__law_cut_right) s.heap.objs.size f cdv)).units + 65 < cLine := by have := hr.room.un; omega
  have nd := sc__law_cut_right.nd
  exact (dss_cons (ds_set 6 nd (de_callP c__law_lowest rfl hr kb__law_lowest_2 (by decide) (by rfl) (da_cons (de_var 5) (da_cons (de_var 3) (da_nil (s := true))))))
  (dss_cons (ds_lcO 7 (own := [("_law_place", 10)]) rfl nd (sw_true rfl rfl rfl (by decide +kernel)) (di_rng1 (by rfl) T.m_range (da_cons (de_callB (s := true) call_len cd_len (by rfl) T.m_len boot_len (da_cons (de_var 0) (da_nil (s := true)))) (da_nil (s := true)))) (blkOk_by (by rfl)) (fun _ _ _ _ _ => (dg_name 10 nd)) (fun _ _ _ _ _ => dts_nil) (fun _ _ _ _ _ => (de_callP c__law_all_in rfl hr kb__law_all_in_2 (by decide) (by rfl) (da_cons (de_ix rfl (de_var 0) (de_var 10) (fun _ _ => rfl)) (da_cons (de_ix rfl (de_var 2) (de_var 10) (fun _ _ => rfl)) (da_nil (s := true)))))))
  (dss_cons (ds_set 8 nd (de_ixo 7 (de_var 4) (fun _ _ => rfl)))
  (dss_cons (ds_set 9 nd (de_callP c_halves rfl hr kb_halves_3 (by decide) (by rfl) (da_cons (de_var 1) (da_cons (de_var 4) (da_cons (de_var 6) (da_nil (s := true)))))))
  (dss_cons (ds_if ((dw_or (dt_not (dt_val (de_isi (s := true) rfl (by rfl) T.m_isinstance boot_isinstance (de_var 9) (by rfl) T.m_tuple boot_tuple))) (dw_or (dt_cmp (op_neU hu) od_ne (de_callB (s := true) call_len cd_len (by rfl) T.m_len boot_len (da_cons (de_var 9) (da_nil (s := true)))) (de_int (s := true)) (nomark _)) (dw_or1 (dt_cmp (op_neU hu) od_ne (de_callP0 c_halves rfl hr kb_halves_0_value_at_box (by decide) (by rfl) (dk_cons (de_var 6) (dk_cons (de_var 4) (dk_cons (de_var 1) (dk_nil (s := true)))))) (de_var 9) (nomark _)))))).pt (dss_one (ds_ret (de_bl (s := true)))) dss_nil)
  (dss_cons (ds_setI 7 (de_fv (df_lc (own := [("_law_one", 11)]) rfl nd (di_list rfl (de_var 8)) (blkOk_by (by rfl)) (fun _ _ _ _ _ => (dg_name 11 nd)) (fun _ _ _ _ _ => (dts_one (dt_cmp op_le od_le (de_var 11) (de_var 5) (nomark _)))) (fun _ _ _ _ _ => (de_var 11)))) (de_var 4))
  (dss_cons (ds_if (dt_not (dt_val (de_callP c__law_box_right rfl hr kb__law_box_right_4 (by decide) (by rfl) (da_cons (de_ix rfl (de_loose (de_var 9)) (de_int (s := true)) (fun _ _ => rfl)) (da_cons (de_loose (de_var 2)) (da_cons (de_own 7) (da_cons (de_loose (de_var 3)) (da_nil (s := false))))))))) (dss_one (ds_ret (de_bl (s := true)))) dss_nil)
  (dss_cons (ds_setI 7 (de_fv (df_lc (own := [("_law_one", 11)]) rfl nd (di_list rfl (de_var 8)) (blkOk_by (by rfl)) (fun _ _ _ _ _ => (dg_name 11 nd)) (fun _ _ _ _ _ => (dts_one (dt_cmp op_ge od_ge (de_var 11) (de_var 5) (nomark _)))) (fun _ _ _ _ _ => (de_var 11)))) (de_var 4))
  (dss_cons (ds_if (dt_not (dt_val (de_callP c__law_box_right rfl hr kb__law_box_right_4 (by decide) (by rfl) (da_cons (de_ix rfl (de_loose (de_var 9)) (de_int (s := true)) (fun _ _ => rfl)) (da_cons (de_loose (de_var 2)) (da_cons (de_own 7) (da_cons (de_loose (de_var 3)) (da_nil (s := false))))))))) (dss_one (ds_ret (de_bl (s := true)))) dss_nil)
  (dss_cons (ds_setI 7 (de_lst (da_cons (de_var 5) (da_nil (s := true)))) (de_var 4))
  (dss_frz 7 (dss_one (ds_ret (de_and (de_callP c__law_box_right rfl hr kb__law_box_right_4 (by decide) (by rfl) (da_cons (de_callP c_placed rfl hr kb_placed_3 (by decide) (by rfl) (da_cons (de_var 1) (da_cons (de_var 4) (da_cons (de_var 6) (da_nil (s := true)))))) (da_cons (de_var 2) (da_cons (de_var 7) (da_cons (de_var 3) (da_nil (s := true))))))) (de_one (de_cmp (op_eqU hu) (od_eq (s := true)) (de_callP0 c_placed rfl hr kb_placed_0_value_at_box (by decide) (by rfl) (dk_cons (de_var 6) (dk_cons (de_var 4) (dk_cons (de_var 1) (dk_nil (s := true)))))) (de_callP c_placed rfl hr kb_placed_3 (by decide) (by rfl) (da_cons (de_var 1) (da_cons (de_var 4) (da_cons (de_var 6) (da_nil (s := true)))))) (nomark _)))))))))))))))))
theorem ok__law_cut_right (T : Tx W mg) (c__law_all_in : Cal P w W.K mg base 2 "_law_all_in" s__law_all_in ["_law_ends", "_law_tests_here"] (spP W 2 F__law_all_in)) (c__law_box_right : Cal P w W.K mg base 2 "_law_box_right" s__law_box_right ["_law_box", "_law_tests_here", "_law_due", "_law_scale"] (spP W 4 F__law_box_right)) (c__law_lowest : Cal P w W.K mg base 1 "_law_lowest" s__law_lowest ["_law_over", "_law_under"] (spP W 2 F__law_lowest)) (c_halves : Cal P w W.K mg base 5 "halves" s_halves ["box", "at", "value"] (spP W 3 F_halves)) (c_placed : Cal P w W.K mg base 2 "placed" s_placed ["box", "at", "value"] (spP W 3 F_placed)) {f : Addr} {fd : FuncData} (Fn : Fun W.K "_law_cut_right" "_law_cut_right" s__law_cut_right f fd) : FnG P w W.K mg base CX0 6 f fd ["_law_own", "_law_box", "_law_tests_here", "_law_scale", "_law_at", "_law_value"] (spP W 6 F__law_cut_right) :=
  ok_pure Fn sc__law_cut_right (by decide) (fun ds Φ h => len__law_cut_right h) fun cdv A env s H E N0 hr => ⟨ws__law_cut_right, dv__law_cut_right T c__law_all_in c__law_box_right c__law_lowest c_halves c_placed cdv A env s H E N0 hr, fun ds Φ h => sem__law_cut_right ds Φ h⟩

def F_law : List Int → (PyData → Prop) → Prop := fun ns Φ => ns.length ≤ 1000 ∧ Φ (.bool true)
-- slots of law: 0 _law_script, 1 _law_heap_here, 2 _law_turn, 3 _law_scale, 4 _law_size, 5 _law_known, 6 _law_one, 7 _law_two, 8 _law_tests_here, 9 _law_cuts, 10 _law_at, 11 _law_first, 12 _law_near, 13 _law_second, 14 _law_cut, 15 _law_box, 16 _law_other, 17 _law_place, 18 _law_names, 19 _law_end_here, 20 _law_some
def ws_law : WS :=
  (wSq (wFor (wRng1 (wCons (wOp fAdd (wC (.int 1)) (wCall fInt (wCons (wOp fGt (wSLen 0) (wC (.int 2))) wNil))) wNil)) (gN 2)
  (wSq (wSet 3 (wGR 1 F__law_pick 2 (wCons (wLst (wCons (wC (.int 1)) (wCons (wC (.int 1)) (wCons (wC (.int 2)) (wCons (wC (.int 3)) (wCons (wC (.int 4)) (wCons (wC (.int 6)) (wCons (wC (.int 12)) (wCons (wC (.int 35)) (wCons (wC (.int 999999937)) (wCons (wOp fPow (wC (.int 10)) (wC (.int 9))) wNil))))))))))) wNil)))
  (wSq (wPars [4, 5] (wEd (wGR 1 F__law_pick 2 (wCons (wLst (wCons (wC (.int 1)) (wCons (wC (.int 2)) (wCons (wC (.int 2)) (wCons (wC (.int 3)) (wCons (wC (.int 3)) (wCons (wC (.int 3)) (wCons (wC (.int 4)) (wCons (wC (.int 2)) (wCons (wC (.int 4)) (wCons (wC (.int 5)) (wCons (wC (.int 6)) wNil)))))))))))) wNil)) (wEd (wLst wNil) wEn)))
  (wSq (wPars [6, 7, 8, 9] (wEf (wFl wNil) (wEf (wFl wNil) (wEf (wFl wNil) (wEf (wFl wNil) wEn)))))
  (wSq (wFor (wRng1 (wCons (wVar 4) wNil)) (gN 10)
  (wSq (wSet 11 (wGR 1 F__law_range 2 (wCons (wVar 5) wNil)))
  (wSq (wSet 12 (wFv (wLc (wTupI (wVar 11)) (gN 19) (wTest (wOp fIsNot (wVar 19) (wC .none))) (wVar 19) [19])))
  (wSq (wSet 13 (wGR 1 F__law_pick 2 (wCons (wLst (wCons (wVar 11) (wCons (wGR 1 F__law_range 2 (wCons (wVar 12) wNil)) (wCons (wGR 1 F__law_range 2 (wCons (wVar 12) wNil)) wNil)))) wNil)))
  (wSq (wSet 14 (wGR 1 F__law_pick 2 (wCons (wOp fAdd (wVar 12) (wLst (wCons (wGR 1 F__law_end 2 (wCons (wVar 12) wNil)) (wCons (wGR 1 F__law_end 2 (wCons (wVar 12) wNil)) wNil)))) wNil)))
  (wSq (wSet 5 (wOp fAdd (wOp fAdd (wVar 12) (wFv (wLc (wTupI (wVar 13)) (gN 19) (wTest (wOp fIsNot (wVar 19) (wC .none))) (wVar 19) [19]))) (wLst (wCons (wVar 14) wNil))))
  (wSq (wApp 6 (wVar 11))
  (wSq (wApp 7 (wVar 13))
  (wSq (wApp 8 (wTup (wCons (wG F__law_tests 1 0 [0] (wCons (wVar 5) wNil) wNil) (wCons (wG F__law_fractions 2 0 [0, 1] (wCons (wSortSet (wVar 5)) (wCons (wVar 3) wNil)) wNil) wNil))))
  (wApp 9 (wVar 14)))))))))))
  (wFrz 9
  (wFrz 6
  (wFrz 8
  (wFrz 7
  (wSq (wPars [15, 16] (wEd (wG F__law_shown 2 0 [0, 1] (wCons (wVar 6) (wCons (wVar 3) wNil)) wNil) (wEd (wG F__law_shown 2 0 [0, 1] (wCons (wVar 7) (wCons (wVar 3) wNil)) wNil) wEn)))
  (wSq (wIf (wOr (wNot (wTest (wG F__law_two_right 6 0 [0, 1, 2, 3, 4, 5] (wCons (wVar 6) (wCons (wVar 7) (wCons (wVar 15) (wCons (wVar 16) (wCons (wVar 8) (wCons (wVar 3) wNil)))))) wNil))) (wNot (wTest (wGR 1 F__law_ends_right 5 (wCons (wVar 6) (wCons (wVar 15) (wCons (wVar 8) (wCons (wVar 3) wNil))))))))
  (wRet (wC (.bool false)))
  wNx)
  (wSq (wIf (wNot (wTest (wGR 1 F__law_points_right 5 (wCons (wVar 6) (wCons (wVar 15) (wCons (wVar 8) (wCons (wVar 3) wNil)))))))
  (wRet (wC (.bool false)))
  wNx)
  (wSq (wPars [10, 17] (wEd (wGR 1 F__law_draw 2 (wCons (wVar 4) wNil)) (wEd (wGR 1 F__law_draw 2 (wCons (wVar 4) wNil)) wEn)))
  (wSq (wIf (wOr (wNot (wTest (wG F__law_cut_right 6 0 [0, 1, 2, 3, 4, 5] (wCons (wVar 6) (wCons (wVar 15) (wCons (wVar 8) (wCons (wVar 3) (wCons (wVar 10) (wCons (wOp fIx (wVar 9) (wVar 10)) wNil)))))) wNil))) (wNot (wTest (wG F__law_cut_right 6 0 [0, 1, 2, 3, 4, 5] (wCons (wVar 7) (wCons (wVar 16) (wCons (wVar 8) (wCons (wVar 3) (wCons (wVar 17) (wCons (wOp fIx (wVar 9) (wVar 17)) wNil)))))) wNil))))
  (wRet (wC (.bool false)))
  wNx)
  (wSq (wSet 18 (wCall fTuple (wCons (wFv (wLc (wRng1 (wCons (wVar 4) wNil)) (gN 10) wYes (wOp fIx (wC (.str "abcdef")) (wVar 10)) [10])) wNil)))
  (wIf (wNot (wTest (wG F__law_box_right 4 0 [0, 1, 2, 3] (wCons (wG F_free_box 1 0 [0] (wCons (wMake F_System ["names", "rows"] 3 (wCons (wVar 18) (wCons (wTup wNil) wNil))) wNil) wNil) (wCons (wVar 8) (wCons (wFv (wLc (wListI (wVar 8)) (gN 20) wYes (wOp fIx (wVar 20) (wC (.int 0))) [20])) (wCons (wVar 3) wNil)))) wNil)))
  (wRet (wC (.bool false)))
  wNx))))))))))))))))
  (wSq (wSet 15 (wTup (wCons (wTup (wCons (wTup (wCons (wC (.int 0)) (wCons (wC (.int 1)) wNil))) (wCons (wTup (wCons (wC (.int 1)) (wCons (wC (.int 2)) wNil))) wNil))) (wCons (wTup (wCons (wC .none) (wCons (wTup (wCons (wC (.int 3)) (wCons (wC (.int 1)) wNil))) wNil))) wNil))))
  (wSq (wIf (wTest (wOp fNe (wG F_common_box 2 0 [0, 1] (wCons (wVar 15) (wCons (wTup (wCons (wTup (wCons (wTup (wCons (wC (.int 1)) (wCons (wC (.int 2)) wNil))) (wCons (wC .none) wNil))) (wCons (wTup (wCons (wTup (wCons (wC (.int 3)) (wCons (wC (.int 1)) wNil))) (wCons (wC .none) wNil))) wNil))) wNil)) wNil) (wTup (wCons (wTup (wCons (wTup (wCons (wC (.int 1)) (wCons (wC (.int 2)) wNil))) (wCons (wTup (wCons (wC (.int 1)) (wCons (wC (.int 2)) wNil))) wNil))) (wCons (wTup (wCons (wTup (wCons (wC (.int 3)) (wCons (wC (.int 1)) wNil))) (wCons (wTup (wCons (wC (.int 3)) (wCons (wC (.int 1)) wNil))) wNil))) wNil)))))
  (wRet (wC (.bool false)))
  wNx)
  (wSq (wIf (wOr (wTest (wOp fIsNot (wG F_common_box 2 0 [0, 1] (wCons (wVar 15) (wCons (wTup (wCons (wTup (wCons (wTup (wCons (wC (.int 2)) (wCons (wC (.int 3)) wNil))) (wCons (wC .none) wNil))) (wCons (wTup (wCons (wC .none) (wCons (wC .none) wNil))) wNil))) wNil)) wNil) (wC .none))) (wTest (wOp fNe (wG F_halves 3 0 [0, 1, 2] (wCons (wVar 15) (wCons (wC (.int 0)) (wCons (wTup (wCons (wNeg (wC (.int 1))) (wCons (wC (.int 7)) wNil))) wNil))) wNil) (wTup (wCons (wC .none) (wCons (wVar 15) wNil))))))
  (wRet (wC (.bool false)))
  wNx)
  (wRet (wOp fEq (wG F_joined_box 2 0 [0, 1] (wCons (wVar 15) (wCons (wTup (wCons (wTup (wCons (wTup (wCons (wC (.int 2)) (wCons (wC (.int 3)) wNil))) (wCons (wTup (wCons (wC (.int 2)) (wCons (wC (.int 3)) wNil))) wNil))) (wCons (wTup (wCons (wTup (wCons (wC (.int 4)) (wCons (wC (.int 1)) wNil))) (wCons (wC .none) wNil))) wNil))) wNil)) wNil) (wTup (wCons (wTup (wCons (wTup (wCons (wC (.int 0)) (wCons (wC (.int 1)) wNil))) (wCons (wTup (wCons (wC (.int 2)) (wCons (wC (.int 3)) wNil))) wNil))) (wCons (wTup (wCons (wC .none) (wCons (wC .none) wNil))) wNil)))))))))

def near (r : RI) : List Int := r.1.toList ++ r.2.toList
theorem near_len (r : RI) : (near r).length ≤ 2 := by
  obtain ⟨a, b⟩ := r
  cases a <;> cases b <;> simp [near]
theorem near_data (r : RI) : ([dO r.1, dO r.2].filter fun d => !isNone d).map id = (near r).map .int := by
  obtain ⟨a, b⟩ := r
  cases a <;> cases b <;> rfl
theorem near_ed {r : RI} (h : Good r) : ∀ k ∈ near r, Ed k := by
  obtain ⟨a, b⟩ := r
  intro k hk
  unfold near at hk
  rw [List.mem_append] at hk
  rcases hk with hk | hk
  · cases a with
    | none => cases hk
    | some l => rw [List.mem_singleton.mp hk]; exact h.lo
  · cases b with
    | none => cases hk
    | some l => rw [List.mem_singleton.mp hk]; exact h.hi
theorem near_in {r : RI} {ks : List Int} (h : ∀ k ∈ near r, k ∈ ks) : EndsIn r ks := by
  refine ⟨fun l e => h l ?_, fun l e => h l ?_⟩
  · unfold near; rw [e]; exact List.mem_append_left _ List.mem_cons_self
  · unfold near; rw [e]; exact List.mem_append_right _ List.mem_cons_self
theorem asc_len : ∀ {ms L : List Int}, ms.Pairwise (· < ·) → (∀ x ∈ ms, x ∈ L) → ms.length ≤ L.length
  | [], _, _, _ => Nat.zero_le _
  | x :: r, L, h, hs => by
    rw [List.pairwise_cons] at h
    have hx := hs x List.mem_cons_self
    have ih := asc_len (L := L.erase x) h.2 fun y hy => (List.mem_erase_of_ne (by have := h.1 y hy; omega)).mpr (hs y (List.mem_cons_of_mem _ hy))
    rw [List.length_erase_of_mem hx] at ih
    have := List.length_pos_of_mem hx
    rw [List.length_cons]
    omega
theorem tests_few {ms ks : List Int} (h : ms.Pairwise (· < ·)) (hl : ks.length ≤ 100) (hm : ∀ k, k ∈ ms ↔ (k = -10 ^ 20 ∨ k = 10 ^ 20 ∨ ∃ x ∈ ks, k = x - 1 ∨ k = x ∨ k = x + 1)) : ms.length ≤ 1000 := by
  have := asc_len (L := (-10 ^ 20) :: 10 ^ 20 :: around ks) h fun x hx => by
    rcases (hm x).mp hx with e | e | ⟨y, hy, e⟩
    · rw [e]; exact List.mem_cons_self
    · rw [e]; exact List.mem_cons_of_mem _ List.mem_cons_self
    · refine List.mem_cons_of_mem _ (List.mem_cons_of_mem _ ?_)
      unfold around
      rw [List.mem_flatMap]
      refine ⟨y, hy, ?_⟩
      rcases e with rfl | rfl | rfl <;> simp
  have e := around_len ks
  simp only [List.length_cons] at this
  omega
def swp (c : Cd) : Cd := { c with a := c.b, b := c.a }
theorem swp_ok {s : Int} {c : Cd} (h : CdOk s c) : CdOk s (swp c) := ⟨h.gb, h.ga, h.ok, h.ib, h.ia, h.ic⟩
theorem chr_at {n i : Nat} (h : i < 6) : ∃ c, atI (("abcdef" : Str).cps.toList) (i : Int) = some c ∧ (⟨#[c]⟩ : Str) = ltr i := by
  match i, h with
  | 0, _ => exact ⟨_, rfl, rfl⟩
  | 1, _ => exact ⟨_, rfl, rfl⟩
  | 2, _ => exact ⟨_, rfl, rfl⟩
  | 3, _ => exact ⟨_, rfl, rfl⟩
  | 4, _ => exact ⟨_, rfl, rfl⟩
  | 5, _ => exact ⟨_, rfl, rfl⟩
theorem free_right {s : Int} {cs : List Cd} (hc : ∀ c ∈ cs, CdOk s c) (h0 : 0 < s) : boxRight (some (freeB cs.length)) (cs.map (·.t)) (cs.map (·.t.1)) s = true := by
  have h := box_right_of (s := s) (xs := cs) h0 (·.t) (·.ks) (fun _ => (none, none)) fun x hx => ⟨(hc x hx).ok, (fun l q => nomatch q), fun l q => nomatch q⟩
  have e1 : (cs.any fun _ => clashI (none, none)) = false := by
    rw [List.any_eq_false]; intro x _; exact Bool.false_ne_true
  rw [e1, if_neg Bool.false_ne_true] at h
  have e2 : (cs.map fun _ => shR s (none, none)) = freeB cs.length := by
    unfold freeB
    exact List.map_const' ..
  rw [e2] at h
  have e3 : (cs.map fun x => x.t.1.filter (has1 (none, none))) = cs.map (·.t.1) := List.map_congr_left fun x _ => List.filter_eq_self.mpr fun _ _ => rfl
  rw [e3] at h
  exact h
theorem okx (a b : Int) (ha : a.natAbs < 2 ^ 200 := by decide) (hb : b.natAbs < 2 ^ 200 := by decide) : OkE (some (a, b)) := ⟨ha, hb⟩
theorem okB2 {r q : Rn} (h1 : OkR r) (h2 : OkR q) : OkB [r, q] := ⟨(by decide : 2 ≤ 100), fun x hx => by
  rcases List.mem_cons.mp hx with rfl | hx
  · exact h1
  · rw [List.mem_singleton.mp hx]; exact h2⟩
def bx : List Rn := [(some (0, 1), some (1, 2)), (none, some (3, 1))]
def o1 : List Rn := [(some (1, 2), none), (some (3, 1), none)]
def r1 : List Rn := [(some (1, 2), some (1, 2)), (some (3, 1), some (3, 1))]
def o2 : List Rn := [(some (2, 3), none), (none, none)]
def o3 : List Rn := [(some (2, 3), some (2, 3)), (some (4, 1), none)]
def r3 : List Rn := [(some (0, 1), some (2, 3)), (none, none)]
theorem fit_tuple' (b : List Rn) : Fit (.tuple [.none, dB b]) := fit_of (n := 4) (fit_tuple (n := 3) fun x hx => by
  rcases List.mem_cons.mp hx with rfl | hx
  · simp [dOk]
  · rw [List.mem_singleton.mp hx]; exact fit_dB b)
theorem noB_two (b : List Rn) : noB (.tuple [.none, dB b]) = true := by
  show (true && (noB (dB b) && true)) = true
  rw [noB_dB]; rfl
theorem bx_ok : OkB bx := okB2 ⟨okx 0 1, okx 1 2⟩ ⟨trivial, okx 3 1⟩
theorem o1_ok : OkB o1 := okB2 ⟨okx 1 2, trivial⟩ ⟨okx 3 1, trivial⟩
theorem o2_ok : OkB o2 := okB2 ⟨okx 2 3, trivial⟩ ⟨trivial, trivial⟩
theorem o3_ok : OkB o3 := okB2 ⟨okx 2 3, okx 2 3⟩ ⟨okx 4 1, trivial⟩
theorem e_1 : commonF bx o1 = some r1 := by decide
theorem e_2 : commonF bx o2 = none := by decide
theorem e_3 : joinedF bx o3 = r3 := by decide
theorem e_4 : commonF bx (halfB bx.length 0 (none, some (-1, 7))) = none := by decide
theorem e_5 : commonF bx (halfB bx.length 0 (some (-1, 7), none)) = some bx := by decide
theorem sem_law (ns : List Int) (Φ : PyData → Prop) (h : F_law ns Φ) : ws_law (retX Φ) (evS1 21 ns) := by
  obtain ⟨hns, h⟩ := h
  have z : 0 ≤ 100000 := Nat.zero_le _
  refine sq (for_all (ds := DL.intsFrom 0 (1 + (if decide ((2 : Int) < (ns.length : Int)) = true then 1 else 0) : Int).toNat) (fun _ ρ => ∃ x2 x3 x4 x5 x6 x7 x8 x9 x10 x11 x12 x13 x14 x15 x16 x17 x18, ρ = [.s ns, .m, x2, x3, x4, x5, x6, x7, x8, x9, x10, x11, x12, x13, x14, x15, x16, x17, x18, .u, .u]) (fun Ψ q => ?_) ⟨_, _, _, _, _, _, _, _, _, _, _, _, _, _, _, _, _, rfl⟩ (fun i d ρ2 hd hj => ?_) fun ρ2 hj => ?_)
  · refine ⟨?_, ?_, q⟩
    · split <;> decide
    · split <;> decide
  · obtain ⟨x2, x3, x4, x5, x6, x7, x8, x9, x10, x11, x12, x13, x14, x15, x16, x17, x18, rfl⟩ := hj
    refine ⟨(by decide : 2 < 21), ?_⟩
    dsimp only
    refine sq ⟨⟨by decide, by decide, by decide⟩, (by decide : 10 ≤ 100000), rfl, _, rfl, List.cons_ne_nil _ _, (by decide : 10 ≤ 2000), fun x hx => ?_⟩
    obtain ⟨s, rfl, hs⟩ : ∃ s : Int, x = .int s ∧ Scl s := by
      simp only [List.mem_cons, List.not_mem_nil, or_false] at hx
      rcases hx with rfl | rfl | rfl | rfl | rfl | rfl | rfl | rfl | rfl | rfl <;> exact ⟨_, rfl, by unfold Scl; decide⟩
    clear hx
    dsimp only
    refine sq ⟨(by decide : 11 ≤ 100000), rfl, _, rfl, List.cons_ne_nil _ _, (by decide : 11 ≤ 2000), fun x hx => ?_⟩
    obtain ⟨m, rfl, m1, m6⟩ : ∃ m : Nat, x = .int (m : Int) ∧ 1 ≤ m ∧ m ≤ 6 := by
      simp only [List.mem_cons, List.not_mem_nil, or_false] at hx
      rcases hx with rfl | rfl | rfl | rfl | rfl | rfl | rfl | rfl | rfl | rfl | rfl
      · exact ⟨1, rfl, by decide, by decide⟩
      · exact ⟨2, rfl, by decide, by decide⟩
      · exact ⟨2, rfl, by decide, by decide⟩
      · exact ⟨3, rfl, by decide, by decide⟩
      · exact ⟨3, rfl, by decide, by decide⟩
      · exact ⟨3, rfl, by decide, by decide⟩
      · exact ⟨4, rfl, by decide, by decide⟩
      · exact ⟨2, rfl, by decide, by decide⟩
      · exact ⟨4, rfl, by decide, by decide⟩
      · exact ⟨5, rfl, by decide, by decide⟩
      · exact ⟨6, rfl, by decide, by decide⟩
    clear hx
    refine ⟨z, rfl, ⟨by decide, ltI (n := 21) (by decide) rfl⟩, ?_⟩
    dsimp only
    refine sq ⟨z, z, z, z, rfl, ⟨by decide, ltI (n := 21) (by decide) rfl⟩, ?_⟩
    dsimp only
    refine sq (for_all (ds := DL.intsFrom 0 m) (fun i ρ => ∃ (cs : List Cd) (kn : List Int) (y10 y11 y12 y13 y14 : Ent), cs.length = min i m ∧ kn.length ≤ 10 ∧ (∀ k ∈ kn, Ed k) ∧ (∀ c ∈ cs, CdOk s c) ∧
      ρ = [.s ns, .m, .d d, .d (.int s), .d (.int (m : Int)), .d (dInts kn), .o ((cs.map (·.a)).map dI), .o ((cs.map (·.b)).map dI), .o ((cs.map (·.t)).map dT), .o ((cs.map (·.cut)).map .int), y10, y11, y12, y13, y14, x15, x16, x17, x18, .u, .u])
      (fun Ψ q => ?_) ⟨[], [], _, _, _, _, _, by simp, by decide, (fun _ q => nomatch q), (fun _ q => nomatch q), rfl⟩ (fun j e ρ3 he hk => ?_) fun ρ3 hk => ?_)
    · refine ⟨?_, ?_, ?_⟩
      · show -(2 ^ 60) < (m : Int); omega
      · show (m : Int) < 2 ^ 60; omega
      · rw [Int.toNat_natCast]; exact q
    · -- one more name
      obtain ⟨cs, kn, y10, y11, y12, y13, y14, lcs, lkn, hkn, hc, rfl⟩ := hk
      have hj : j < m := by
        have := (List.getElem?_eq_some_iff.mp he).1
        rw [intsFrom_len] at this
        exact this
      refine ⟨(by decide : 10 < 21), ?_⟩
      dsimp only
      refine sq ⟨rfl, kn, rfl, by omega, hkn, fun a ga => ?_⟩
      dsimp only
      refine sq (lc_filter (ds := [dO a.1, dO a.2]) (fun d => !isNone d) id rfl (fun Ψ q => q) (by decide : 2 ≤ 100000) (fun d hd Ψ Θ h1 h2 => ?_) ?_)
      · refine ⟨(by decide : 19 < 21), ?_⟩
        show (if (!isNone d) = true then Ψ d else Θ)
        cases q : (!isNone d) with
        | true => rw [if_pos rfl]; exact h1 q
        | false => rw [if_neg Bool.false_ne_true]; exact h2 q
      rw [near_data]
      have la := near_len a
      have ea := near_ed ga
      dsimp only
      refine sq ⟨rfl, near a, rfl, by omega, ea, fun b1 gb1 => ⟨rfl, near a, rfl, by omega, ea, fun b2 gb2 => ⟨(by decide : 3 ≤ 100000), rfl, _, rfl, List.cons_ne_nil _ _, (by decide : 3 ≤ 2000), fun x hx => ?_⟩⟩⟩
      obtain ⟨b, rfl, gb⟩ : ∃ b : RI, x = dI b ∧ Good b := by
        simp only [List.mem_cons, List.not_mem_nil, or_false] at hx
        rcases hx with rfl | rfl | rfl
        · exact ⟨a, rfl, ga⟩
        · exact ⟨b1, rfl, gb1⟩
        · exact ⟨b2, rfl, gb2⟩
      clear hx
      dsimp only
      refine sq ⟨rfl, near a, rfl, by omega, ea, fun c1 hc1 => ⟨rfl, near a, rfl, by omega, ea, fun c2 hc2 => ⟨(by decide : 2 ≤ 100000), ?_, ?_⟩⟩⟩
      · show ((near a).map PyData.int).length + 2 ≤ 100000
        rw [List.length_map]; omega
      refine ⟨rfl, (near a).map .int ++ [.int c1, .int c2], rfl, by simp, ?_, fun x hx => ?_⟩
      · rw [List.length_append, List.length_map]
        show (near a).length + 2 ≤ 2000
        omega
      obtain ⟨cut, rfl, hcut⟩ : ∃ cut : Int, x = .int cut ∧ Ed cut := by
        rcases List.mem_append.mp hx with hx | hx
        · obtain ⟨k, hk, rfl⟩ := List.mem_map.mp hx
          exact ⟨k, rfl, ea k hk⟩
        · simp only [List.mem_cons, List.not_mem_nil, or_false] at hx
          rcases hx with rfl | rfl
          · exact ⟨c1, rfl, hc1⟩
          · exact ⟨c2, rfl, hc2⟩
      clear hx
      have lb := near_len b
      have eb := near_ed gb
      dsimp only
      refine sq (lc_filter (ds := [dO b.1, dO b.2]) (fun d => !isNone d) id rfl (fun Ψ q => q) (by decide : 2 ≤ 100000) (fun d hd Ψ Θ h1 h2 => ?_) ?_)
      · refine ⟨(by decide : 19 < 21), ?_⟩
        show (if (!isNone d) = true then Ψ d else Θ)
        cases q : (!isNone d) with
        | true => rw [if_pos rfl]; exact h1 q
        | false => rw [if_neg Bool.false_ne_true]; exact h2 q
      rw [near_data]
      refine ⟨?_, (by decide : 1 ≤ 100000), ?_, ?_⟩
      · rw [List.length_map, List.length_map]; omega
      · rw [List.length_append, List.length_map, List.length_map]
        show (near a).length + (near b).length + 1 ≤ 100000
        omega
      obtain ⟨ks, hks⟩ : ∃ ks, ks = near a ++ near b ++ [cut] := ⟨_, rfl⟩
      have eks : (near a).map PyData.int ++ (near b).map PyData.int ++ [PyData.int cut] = ks.map .int := by
        rw [hks, List.map_append, List.map_append]; rfl
      rw [eks]
      have lks : ks.length ≤ 10 := by
        rw [hks, List.length_append, List.length_append, List.length_singleton]; omega
      have edk : ∀ k ∈ ks, Ed k := fun k hk => by
        rw [hks, List.mem_append, List.mem_append] at hk
        rcases hk with (hk | hk) | hk
        · exact ea k hk
        · exact eb k hk
        · rw [List.mem_singleton.mp hk]; exact hcut
      have ia : EndsIn a ks := near_in fun k hk => by rw [hks]; exact List.mem_append_left _ (List.mem_append_left _ hk)
      have ib : EndsIn b ks := near_in fun k hk => by rw [hks]; exact List.mem_append_left _ (List.mem_append_right _ hk)
      have ic : cut ∈ ks := by rw [hks]; exact List.mem_append_right _ List.mem_cons_self
      have mm : ∀ {α : Type} (f : Cd → α), (cs.map f).length < 100000 := fun f => by rw [List.length_map]; omega
      dsimp only
      refine sq ⟨by rw [List.length_map]; exact mm _, ?_⟩
      dsimp only
      refine sq ⟨by rw [List.length_map]; exact mm _, ?_⟩
      dsimp only
      refine sq ⟨rfl, rfl, ks, rfl, by omega, fun ms hms hmem => ⟨ks, rfl, by omega, fun os hos homem => ⟨rfl, rfl, os, s, rfl, ?_, hs, (by decide : 2 ≤ 100000), by rw [List.length_map]; exact mm _, ?_⟩⟩⟩
      · have := asc_len (L := ks) hos fun x hx => (homem x).mp hx
        omega
      dsimp only
      refine ⟨by rw [List.length_map]; exact mm _, ?_⟩
      refine ⟨cs ++ [⟨a, b, (ms, os.map (low · s)), ks, cut⟩], ks, .d e, .d (dI a), .d (.list ((near a).map .int)), .d (dI b), .d (.int cut), ?_, lks, edk, fun c hcc => ?_, ?_⟩
      · rw [List.length_append, List.length_singleton]; omega
      · rcases List.mem_append.mp hcc with q | q
        · exact hc c q
        · rw [List.mem_singleton.mp q]
          exact ⟨ga, gb, ⟨hmem, hms, fun k hk => List.mem_map.mpr ⟨k, (homem k).mpr hk, rfl⟩, tests_few hms (by omega) hmem, edk⟩, ia, ib, ic⟩
      · simp only [List.map_append, List.map_cons, List.map_nil]
        rfl
    · -- all the names
      obtain ⟨cs, kn, y10, y11, y12, y13, y14, lcs, _, _, hc, rfl⟩ := hk
      rw [intsFrom_len, Nat.min_self] at lcs
      have hl : cs.length ≤ 100 := by omega
      have ne : cs ≠ [] := fun e => by rw [e] at lcs; simp at lcs; omega
      have sA : shown (cs.map (·.a)) s = shB s cs (·.a) := by unfold shown shB; rw [List.map_map]; rfl
      have sB : shown (cs.map (·.b)) s = shB s cs (·.b) := by unfold shown shB; rw [List.map_map]; rfl
      refine sq ⟨rfl, rfl, cs.map (·.a), s, rfl, by rw [List.length_map]; exact hl, hs, rfl, rfl, cs.map (·.b), s, rfl, by rw [List.length_map]; exact hl, hs, rfl, ⟨by decide, ltI (n := 21) (by decide) rfl⟩, ?_⟩
      rw [sA, sB]
      dsimp only
      refine sq ⟨rfl, rfl, cs, s, rfl, hl, hc, hs, ?_⟩
      show (if false = true then _ else _)
      rw [if_neg Bool.false_ne_true]
      refine ⟨rfl, cs, s, rfl, ne, hl, hc, hs, ?_⟩
      show (if false = true then _ else _)
      rw [if_neg Bool.false_ne_true]
      dsimp only [wNx]
      refine sq ⟨rfl, cs, s, rfl, ne, hl, hc, hs, ?_⟩
      show (if false = true then _ else _)
      rw [if_neg Bool.false_ne_true]
      dsimp only [wNx]
      refine sq ⟨rfl, (m : Int), rfl, by omega, by omega, fun r r0 r1 => ⟨rfl, (m : Int), rfl, by omega, by omega, fun q q0 q1 => ⟨rfl, ⟨by decide, ltI (n := 21) (by decide) rfl⟩, ?_⟩⟩⟩
      obtain ⟨i1, rfl⟩ := Int.eq_ofNat_of_zero_le r0
      obtain ⟨i2, rfl⟩ := Int.eq_ofNat_of_zero_le q0
      obtain ⟨c1, h1⟩ := at_of (xs := cs) (i := i1) (by omega)
      obtain ⟨c2, h2⟩ := at_of (xs := cs) (i := i2) (by omega)
      have at1 : atI ((cs.map (·.cut)).map PyData.int) (i1 : Int) = some (.int c1.cut) := atM (by rw [List.getElem?_map, h1]; rfl)
      have at2 : atI ((cs.map (·.cut)).map PyData.int) (i2 : Int) = some (.int c2.cut) := atM (by rw [List.getElem?_map, h2]; rfl)
      dsimp only
      refine sq ⟨_, at1, rfl, rfl, cs, s, i1, c1, rfl, h1, hl, hc, hs, ?_⟩
      show (if false = true then _ else _)
      rw [if_neg Bool.false_ne_true]
      refine ⟨_, at2, rfl, rfl, cs.map swp, s, i2, swp c2, ?_, by rw [List.getElem?_map, h2]; rfl, by rw [List.length_map]; exact hl, fun c hcc => ?_, hs, ?_⟩
      · unfold shB
        simp only [List.map_map]
        rfl
      · obtain ⟨c0, hc0, rfl⟩ := List.mem_map.mp hcc
        exact swp_ok (hc c0 hc0)
      show (if false = true then _ else _)
      rw [if_neg Bool.false_ne_true]
      dsimp only [wNx]
      -- the names
      refine sq (lc_map (ds := DL.intsFrom 0 m) (fun d => .str (ltr (intD d).toNat)) rfl (fun Ψ q => ?_) (by rw [intsFrom_len]; omega) (fun d hd Ψ q => ?_) ?_)
      · refine ⟨?_, ?_, ?_⟩
        · show -(2 ^ 60) < (m : Int); omega
        · show (m : Int) < 2 ^ 60; omega
        · rw [Int.toNat_natCast]; exact q
      · obtain ⟨i, c, hi, rfl, _⟩ := spot (cs := cs) (by rw [lcs]; exact hd)
        have ilt := (List.getElem?_eq_some_iff.mp hi).1
        obtain ⟨ch, e1, e2⟩ := chr_at (n := m) (i := i) (by omega)
        refine ⟨(by decide : 10 < 21), (by decide : 6 ≤ 100000), ch, e1, ?_⟩
        rw [e2]
        exact q
      have en : (DL.intsFrom 0 m).map (fun d => PyData.str (ltr (intD d).toNat)) = namesN m := by
        unfold DL.intsFrom namesN
        rw [List.map_map]
        refine List.map_congr_left fun i _ => ?_
        show PyData.str (ltr ((0 : Int) + (i : Nat)).toNat) = _
        rw [Int.zero_add, Int.toNat_natCast]
      rw [en]
      dsimp only
      have ln : (namesN m).length = m := by unfold namesN; rw [List.length_map, List.length_range]
      refine ⟨z, rfl, m, rfl, m1, m6, rfl, rfl, rfl, namesN m, .tuple [], rfl, by omega, by omega, ?_⟩
      rw [ln, ← lcs]
      refine lc_map (ds := (cs.map (·.t)).map dT) (fun d => match d with | .tuple (x :: _) => x | _ => .none) rfl (fun Ψ q => q) (by rw [List.length_map, List.length_map]; omega) (fun d hd Ψ q => ?_) ?_
      · obtain ⟨t, _, rfl⟩ := List.mem_map.mp hd
        exact ⟨(by decide : 20 < 21), _, rfl, q⟩
      have ed : ((cs.map (·.t)).map dT).map (fun d => match d with | .tuple (x :: _) => x | _ => PyData.none) = (cs.map (·.t.1)).map dInts := by
        rw [List.map_map, List.map_map, List.map_map]; rfl
      rw [ed]
      refine ⟨rfl, rfl, some (freeB cs.length), cs.map (·.t), cs.map (·.t.1), s, rfl, fun b e => ?_, by rw [List.length_map]; exact hl, by rw [List.length_map, List.length_map], ⟨fun t ht => ?_, fun t ht v hv => ?_⟩, hs, ?_⟩
      · cases e; exact OkB.free hl
      · obtain ⟨c, q, rfl⟩ := List.mem_map.mp ht; exact (hc c q).ok.few
      · obtain ⟨c, q, rfl⟩ := List.mem_map.mp ht; exact (hc c q).ok.sml hv
      rw [free_right hc hs.1]
      show (if false = true then _ else _)
      rw [if_neg Bool.false_ne_true]
      exact ⟨_, _, _, _, _, _, _, _, _, _, _, _, _, _, _, _, _, rfl⟩
  · obtain ⟨x2, x3, x4, x5, x6, x7, x8, x9, x10, x11, x12, x13, x14, x15, x16, x17, x18, rfl⟩ := hj
    have t2 : 2 ≤ 100000 := by decide
    refine sq ⟨t2, t2, t2, t2, t2, t2, ?_⟩
    dsimp only
    refine sq ⟨t2, t2, t2, t2, t2, rfl, rfl, bx, o1, rfl, bx_ok, o1_ok, ?_⟩
    rw [e_1]
    refine ⟨t2, t2, t2, t2, t2, t2, t2, fit_of (fit_dB r1), fit_of (fit_dB r1), ?_⟩
    show (if (!PyData.eqv (dB r1) (dB r1)) = true then _ else _)
    rw [eqv_self (noB_dB r1)]
    show (if false = true then _ else _)
    rw [if_neg Bool.false_ne_true]
    dsimp only [wNx]
    refine sq ⟨t2, t2, t2, t2, rfl, rfl, bx, o2, rfl, bx_ok, o2_ok, ?_⟩
    rw [e_2]
    refine ⟨t2, rfl, rfl, bx, 0, (-1, 7), rfl, bx_ok, ⟨by decide, by decide⟩, (by decide : 0 < 2), ?_⟩
    rw [e_4, e_5]
    refine ⟨t2, fit_tuple' bx, fit_tuple' bx, ?_⟩
    show (if (!PyData.eqv (.tuple [.none, dB bx]) (.tuple [.none, dB bx])) = true then _ else _)
    rw [eqv_self (noB_two bx)]
    show (if false = true then _ else _)
    rw [if_neg Bool.false_ne_true]
    dsimp only [wNx]
    refine ⟨t2, t2, t2, t2, t2, t2, rfl, rfl, bx, o3, rfl, bx_ok, o3_ok, ?_⟩
    rw [e_3]
    refine ⟨t2, t2, t2, t2, t2, fit_of (fit_dB r3), fit_of (fit_dB r3), ?_⟩
    show Φ (.bool (PyData.eqv (dB r3) (dB r3)))
    rw [eqv_self (noB_dB r3)]
    exact h

theorem dv_law (T : Tx W mg) (c_System : CalI P w W mg base 3 "System" ["names", "rows"] ["self", "names", "rows"] F_System) (c__law_box_right : Cal P w W.K mg base 2 "_law_box_right" s__law_box_right ["_law_box", "_law_tests_here", "_law_due", "_law_scale"] (spP W 4 F__law_box_right)) (c__law_cut_right : Cal P w W.K mg base 6 "_law_cut_right" s__law_cut_right ["_law_own", "_law_box", "_law_tests_here", "_law_scale", "_law_at", "_law_value"] (spP W 6 F__law_cut_right)) (c__law_draw : Cal P w W.K mg base 1 "_law_draw" s__law_draw ["_law_heap_here", "_law_many"] (spR W RR 2 F__law_draw)) (c__law_end : Cal P w W.K mg base 3 "_law_end" s__law_end ["_law_heap_here", "_law_known"] (spR W RR 2 F__law_end)) (c__law_ends_right : Cal P w W.K mg base 2 "_law_ends_right" s__law_ends_right ["_law_heap_here", "_law_own", "_law_box", "_law_tests_here", "_law_scale"] (spR W RR 5 F__law_ends_right)) (c__law_fractions : Cal P w W.K mg base 2 "_law_fractions" s__law_fractions ["_law_some", "_law_scale"] (spP W 2 F__law_fractions)) (c__law_pick : Cal P w W.K mg base 2 "_law_pick" s__law_pick ["_law_heap_here", "_law_some"] (spR W RR 2 F__law_pick)) (c__law_points_right : Cal P w W.K mg base 5 "_law_points_right" s__law_points_right ["_law_heap_here", "_law_own", "_law_box", "_law_tests_here", "_law_scale"] (spR W RR 5 F__law_points_right)) (c__law_range : Cal P w W.K mg base 4 "_law_range" s__law_range ["_law_heap_here", "_law_known"] (spR W RR 2 F__law_range)) (c__law_shown : Cal P w W.K mg base 2 "_law_shown" s__law_shown ["_law_own", "_law_scale"] (spP W 2 F__law_shown)) (c__law_tests : Cal P w W.K mg base 1 "_law_tests" s__law_tests ["_law_some"] (spP W 1 F__law_tests)) (c__law_two_right : Cal P w W.K mg base 5 "_law_two_right" s__law_two_right ["_law_one", "_law_two", "_law_box", "_law_other", "_law_tests_here", "_law_scale"] (spP W 6 F__law_two_right)) (c_common_box : Cal P w W.K mg base 4 "common_box" s_common_box ["box", "other"] (spP W 2 F_common_box)) (c_free_box : Cal P w W.K mg base 1 "free_box" s_free_box ["system"] (spP W 1 F_free_box)) (c_halves : Cal P w W.K mg base 5 "halves" s_halves ["box", "at", "value"] (spP W 3 F_halves)) (c_joined_box : Cal P w W.K mg base 3 "joined_box" s_joined_box ["box", "other"] (spP W 2 F_joined_box)) (cdv : Value) (A : Around) (env : List Env) (s : Shared) (H : Hp) (E : XK) (N0 : Addr → Prop) (b c : Addr) (H1 : Hp) {f : Addr} (hr : Rg 6 (A.deeper (envOfC "law" (defScope s_law) s.heap.objs.size f cdv))) :
    PSs (cxOf CX0 P w W.K mg base ["_law_script", "_law_heap_here", "_law_turn", "_law_scale", "_law_size", "_law_known", "_law_one", "_law_two", "_law_tests_here", "_law_cuts", "_law_at", "_law_first", "_law_near", "_law_second", "_law_cut", "_law_box", "_law_other", "_law_place", "_law_names", "_law_end_here", "_law_some"] "law" (defScope s_law) f cdv A env s H E).nox (defBody s_law).tail (upS ⟨W, RR b c, N0, H1⟩ ws_law) := by
  have hu : (A.deeper (envOfC "law" (defScope s_law) s.heap.objs.size f cdv)).units + 65 < cLine := by have := hr.room.un; omega
  have nd := sc_law.nd
  exact (dss_cons (ds_for PassesOwn.never rfl (di_rng1 (by rfl) T.m_range (da_cons (de_op op_addU (od_add (s := true)) (de_int (s := true)) (de_callT (s := true) call_int1 cd_int (by rfl) T.m_int boot_int (da_cons (de_cmp op_gt (od_gt (s := true)) (de_slen (s := true) 0 rfl (by rfl) T.m_len) (de_int (s := true)) (nomark _)) (da_nil (s := true))))) (da_nil (s := true)))) (dg_name 2 nd) (dss_cons (ds_set 3 nd (de_callR 1 c__law_pick rfl rfl hr (kb__law_pick_2) (by decide) (by rfl) (da_cons (de_lst (da_cons (de_int (s := true)) (da_cons (de_int (s := true)) (da_cons (de_int (s := true)) (da_cons (de_int (s := true)) (da_cons (de_int (s := true)) (da_cons (de_int (s := true)) (da_cons (de_int (s := true)) (da_cons (de_int (s := true)) (da_cons (de_int (s := true)) (da_cons (de_op op_pow (od_pow (s := true)) (de_int (s := true)) (de_int (s := true))) (da_nil (s := true))))))))))))) (da_nil (s := true)))))
  (dss_cons (ds_par2 4 5 rfl nd (ea_d (de_callR 1 c__law_pick rfl rfl hr (kb__law_pick_2) (by decide) (by rfl) (da_cons (de_lst (da_cons (de_int (s := true)) (da_cons (de_int (s := true)) (da_cons (de_int (s := true)) (da_cons (de_int (s := true)) (da_cons (de_int (s := true)) (da_cons (de_int (s := true)) (da_cons (de_int (s := true)) (da_cons (de_int (s := true)) (da_cons (de_int (s := true)) (da_cons (de_int (s := true)) (da_cons (de_int (s := true)) (da_nil (s := true)))))))))))))) (da_nil (s := true)))) (ea_d (de_lst (da_nil (s := true))) ea_nil)))
  (dss_cons (ds_parN (is := [6, 7, 8, 9]) rfl (ea_f (df_lst (da_nil (s := true))) (ea_f (df_lst (da_nil (s := true))) (ea_f (df_lst (da_nil (s := true))) (ea_f (df_lst (da_nil (s := true))) ea_nil)))) (tn_cons 6 nd (tn_cons 7 nd (tn_cons 8 nd (tn_cons 9 nd tn_nil)))))
  (dss_cons (ds_for PassesOwn.never rfl (di_rng1 (by rfl) T.m_range (da_cons (de_var 4) (da_nil (s := true)))) (dg_name 10 nd) (dss_cons (ds_set 11 nd (de_callR 1 c__law_range rfl rfl hr (kb__law_range_2) (by decide) (by rfl) (da_cons (de_var 5) (da_nil (s := true)))))
  (dss_cons (ds_lcD 12 (own := [("_law_end_here", 19)]) rfl nd (sw_true rfl rfl rfl (by decide +kernel)) (di_tup rfl (de_var 11)) (blkOk_by (by rfl)) (fun _ _ _ _ _ => (dg_name 19 nd)) (fun _ _ _ _ _ => (dts_one (dt_cmp op_isnotU od_isnot (de_var 19) (de_non (s := true)) (nomark _)))) (fun _ _ _ _ _ => (de_var 19)))
  (dss_cons (ds_set 13 nd (de_callR 1 c__law_pick rfl rfl hr (kb__law_pick_2) (by decide) (by rfl) (da_cons (de_lst (da_cons (de_var 11) (da_cons (de_callR 1 c__law_range rfl rfl hr (kb__law_range_2) (by decide) (by rfl) (da_cons (de_var 12) (da_nil (s := true)))) (da_cons (de_callR 1 c__law_range rfl rfl hr (kb__law_range_2) (by decide) (by rfl) (da_cons (de_var 12) (da_nil (s := true)))) (da_nil (s := true)))))) (da_nil (s := true)))))
  (dss_cons (ds_set 14 nd (de_callR 1 c__law_pick rfl rfl hr (kb__law_pick_2) (by decide) (by rfl) (da_cons (de_op op_addU (od_add (s := true)) (de_var 12) (de_lst (da_cons (de_callR 1 c__law_end rfl rfl hr (kb__law_end_2) (by decide) (by rfl) (da_cons (de_var 12) (da_nil (s := true)))) (da_cons (de_callR 1 c__law_end rfl rfl hr (kb__law_end_2) (by decide) (by rfl) (da_cons (de_var 12) (da_nil (s := true)))) (da_nil (s := true)))))) (da_nil (s := true)))))
  (dss_cons (ds_set 5 nd (de_op op_addU (od_add (s := true)) (de_op op_addU (od_add (s := true)) (de_var 12) (de_fv (df_lc (own := [("_law_end_here", 19)]) rfl nd (di_tup rfl (de_var 13)) (blkOk_by (by rfl)) (fun _ _ _ _ _ => (dg_name 19 nd)) (fun _ _ _ _ _ => (dts_one (dt_cmp op_isnotU od_isnot (de_var 19) (de_non (s := true)) (nomark _)))) (fun _ _ _ _ _ => (de_var 19))))) (de_lst (da_cons (de_var 14) (da_nil (s := true))))))
  (dss_cons (ds_app 6 (de_var 11))
  (dss_cons (ds_app 7 (de_var 13))
  (dss_cons (ds_app 8 (de_tup (da_cons (de_callP c__law_tests rfl hr kb__law_tests_1 (by decide) (by rfl) (da_cons (de_var 5) (da_nil (s := true)))) (da_cons (de_callP c__law_fractions rfl hr kb__law_fractions_2 (by decide) (by rfl) (da_cons (de_sortSet rfl rfl (by rfl) T.m_sorted (by rfl) T.m_set (de_var 5)) (da_cons (de_var 3) (da_nil (s := true))))) (da_nil (s := true))))))
  (dss_one (ds_app 9 (de_var 14))))))))))))
  (dss_frz 9 (dss_frz 6 (dss_frz 8 (dss_frz 7 (dss_cons (ds_par2 15 16 rfl nd (ea_d (de_callP c__law_shown rfl hr kb__law_shown_2 (by decide) (by rfl) (da_cons (de_var 6) (da_cons (de_var 3) (da_nil (s := true))))) (ea_d (de_callP c__law_shown rfl hr kb__law_shown_2 (by decide) (by rfl) (da_cons (de_var 7) (da_cons (de_var 3) (da_nil (s := true))))) ea_nil)))
  (dss_cons (ds_if ((dw_or (dt_not (dt_val (de_callP c__law_two_right rfl hr kb__law_two_right_6 (by decide) (by rfl) (da_cons (de_var 6) (da_cons (de_var 7) (da_cons (de_var 15) (da_cons (de_var 16) (da_cons (de_var 8) (da_cons (de_var 3) (da_nil (s := true))))))))))) (dw_or1 (dt_not (dt_val (de_callR 1 c__law_ends_right rfl rfl hr (kb__law_ends_right_5) (by decide) (by rfl) (da_cons (de_var 6) (da_cons (de_var 15) (da_cons (de_var 8) (da_cons (de_var 3) (da_nil (s := true)))))))))))).pt (dss_one (ds_ret (de_bl (s := true)))) dss_nil)
  (dss_cons (ds_if (dt_not (dt_val (de_callR 1 c__law_points_right rfl rfl hr (kb__law_points_right_5) (by decide) (by rfl) (da_cons (de_var 6) (da_cons (de_var 15) (da_cons (de_var 8) (da_cons (de_var 3) (da_nil (s := true))))))))) (dss_one (ds_ret (de_bl (s := true)))) dss_nil)
  (dss_cons (ds_par2 10 17 rfl nd (ea_d (de_callR 1 c__law_draw rfl rfl hr (kb__law_draw_2) (by decide) (by rfl) (da_cons (de_var 4) (da_nil (s := true)))) (ea_d (de_callR 1 c__law_draw rfl rfl hr (kb__law_draw_2) (by decide) (by rfl) (da_cons (de_var 4) (da_nil (s := true)))) ea_nil)))
  (dss_cons (ds_if ((dw_or (dt_not (dt_val (de_callP c__law_cut_right rfl hr kb__law_cut_right_6 (by decide) (by rfl) (da_cons (de_var 6) (da_cons (de_var 15) (da_cons (de_var 8) (da_cons (de_var 3) (da_cons (de_var 10) (da_cons (de_ix rfl (de_var 9) (de_var 10) (fun _ _ => rfl)) (da_nil (s := true))))))))))) (dw_or1 (dt_not (dt_val (de_callP c__law_cut_right rfl hr kb__law_cut_right_6 (by decide) (by rfl) (da_cons (de_var 7) (da_cons (de_var 16) (da_cons (de_var 8) (da_cons (de_var 3) (da_cons (de_var 17) (da_cons (de_ix rfl (de_var 9) (de_var 17) (fun _ _ => rfl)) (da_nil (s := true)))))))))))))).pt (dss_one (ds_ret (de_bl (s := true)))) dss_nil)
  (dss_cons (ds_set 18 nd (de_callT (s := true) call_tuple_of cd_tuple (by rfl) T.m_tuple boot_tuple (da_cons (de_fv (df_lc (own := [("_law_at", 10)]) rfl nd (di_rng1 (by rfl) T.m_range (da_cons (de_var 4) (da_nil (s := true)))) (blkOk_by (by rfl)) (fun _ _ _ _ _ => (dg_name 10 nd)) (fun _ _ _ _ _ => dts_nil) (fun _ _ _ _ _ => (de_ix rfl (de_str (s := true)) (de_var 10) (fun _ _ => rfl))))) (da_nil (s := true)))))
  (dss_one (ds_if (dt_not (dt_val (de_callP c__law_box_right rfl hr kb__law_box_right_4 (by decide) (by rfl) (da_cons (de_callP c_free_box rfl hr kb_free_box_1 (by decide) (by rfl) (da_cons (de_make c_System rfl hr (by decide) (by rfl) (da_cons (de_var 18) (da_cons (de_tup (da_nil (s := true))) (da_nil (s := true))))) (da_nil (s := true)))) (da_cons (de_var 8) (da_cons (de_fv (df_lc (own := [("_law_some", 20)]) rfl nd (di_list rfl (de_var 8)) (blkOk_by (by rfl)) (fun _ _ _ _ _ => (dg_name 20 nd)) (fun _ _ _ _ _ => dts_nil) (fun _ _ _ _ _ => (de_ix rfl (de_var 20) (de_int (s := true)) (fun _ _ => rfl))))) (da_cons (de_var 3) (da_nil (s := true))))))))) (dss_one (ds_ret (de_bl (s := true)))) dss_nil)))))))))))))))))
  (dss_cons (ds_set 15 nd (de_tup (da_cons (de_tup (da_cons (de_tup (da_cons (de_int (s := true)) (da_cons (de_int (s := true)) (da_nil (s := true))))) (da_cons (de_tup (da_cons (de_int (s := true)) (da_cons (de_int (s := true)) (da_nil (s := true))))) (da_nil (s := true))))) (da_cons (de_tup (da_cons (de_non (s := true)) (da_cons (de_tup (da_cons (de_int (s := true)) (da_cons (de_int (s := true)) (da_nil (s := true))))) (da_nil (s := true))))) (da_nil (s := true))))))
  (dss_cons (ds_if (dt_cmp (op_neU hu) od_ne (de_callP c_common_box rfl hr kb_common_box_2 (by decide) (by rfl) (da_cons (de_var 15) (da_cons (de_tup (da_cons (de_tup (da_cons (de_tup (da_cons (de_int (s := true)) (da_cons (de_int (s := true)) (da_nil (s := true))))) (da_cons (de_non (s := true)) (da_nil (s := true))))) (da_cons (de_tup (da_cons (de_tup (da_cons (de_int (s := true)) (da_cons (de_int (s := true)) (da_nil (s := true))))) (da_cons (de_non (s := true)) (da_nil (s := true))))) (da_nil (s := true))))) (da_nil (s := true))))) (de_tup (da_cons (de_tup (da_cons (de_tup (da_cons (de_int (s := true)) (da_cons (de_int (s := true)) (da_nil (s := true))))) (da_cons (de_tup (da_cons (de_int (s := true)) (da_cons (de_int (s := true)) (da_nil (s := true))))) (da_nil (s := true))))) (da_cons (de_tup (da_cons (de_tup (da_cons (de_int (s := true)) (da_cons (de_int (s := true)) (da_nil (s := true))))) (da_cons (de_tup (da_cons (de_int (s := true)) (da_cons (de_int (s := true)) (da_nil (s := true))))) (da_nil (s := true))))) (da_nil (s := true))))) (nomark _)) (dss_one (ds_ret (de_bl (s := true)))) dss_nil)
  (dss_cons (ds_if ((dw_or (dt_cmp op_isnotU od_isnot (de_callP c_common_box rfl hr kb_common_box_2 (by decide) (by rfl) (da_cons (de_var 15) (da_cons (de_tup (da_cons (de_tup (da_cons (de_tup (da_cons (de_int (s := true)) (da_cons (de_int (s := true)) (da_nil (s := true))))) (da_cons (de_non (s := true)) (da_nil (s := true))))) (da_cons (de_tup (da_cons (de_non (s := true)) (da_cons (de_non (s := true)) (da_nil (s := true))))) (da_nil (s := true))))) (da_nil (s := true))))) (de_non (s := true)) (nomark _)) (dw_or1 (dt_cmp (op_neU hu) od_ne (de_callP c_halves rfl hr kb_halves_3 (by decide) (by rfl) (da_cons (de_var 15) (da_cons (de_int (s := true)) (da_cons (de_tup (da_cons (de_neg (de_int (s := true))) (da_cons (de_int (s := true)) (da_nil (s := true))))) (da_nil (s := true)))))) (de_tup (da_cons (de_non (s := true)) (da_cons (de_var 15) (da_nil (s := true))))) (nomark _))))).pt (dss_one (ds_ret (de_bl (s := true)))) dss_nil)
  (dss_one (ds_ret (de_cmp (op_eqU hu) (od_eq (s := true)) (de_callP c_joined_box rfl hr kb_joined_box_2 (by decide) (by rfl) (da_cons (de_var 15) (da_cons (de_tup (da_cons (de_tup (da_cons (de_tup (da_cons (de_int (s := true)) (da_cons (de_int (s := true)) (da_nil (s := true))))) (da_cons (de_tup (da_cons (de_int (s := true)) (da_cons (de_int (s := true)) (da_nil (s := true))))) (da_nil (s := true))))) (da_cons (de_tup (da_cons (de_tup (da_cons (de_int (s := true)) (da_cons (de_int (s := true)) (da_nil (s := true))))) (da_cons (de_non (s := true)) (da_nil (s := true))))) (da_nil (s := true))))) (da_nil (s := true))))) (de_tup (da_cons (de_tup (da_cons (de_tup (da_cons (de_int (s := true)) (da_cons (de_int (s := true)) (da_nil (s := true))))) (da_cons (de_tup (da_cons (de_int (s := true)) (da_cons (de_int (s := true)) (da_nil (s := true))))) (da_nil (s := true))))) (da_cons (de_tup (da_cons (de_non (s := true)) (da_cons (de_non (s := true)) (da_nil (s := true))))) (da_nil (s := true))))) (nomark _))))))))

end
section
variable {P : Program} {w : World} {mg : Str → Option Value} {base : Heap} {W : Wd}
/-- the law: the drawn state is made, then the rest of the text -/
theorem ok_law (T : Tx W mg) (c_System : CalI P w W mg base 3 "System" ["names", "rows"] ["self", "names", "rows"] F_System) (c__law_box_right : Cal P w W.K mg base 2 "_law_box_right" s__law_box_right ["_law_box", "_law_tests_here", "_law_due", "_law_scale"] (spP W 4 F__law_box_right)) (c__law_cut_right : Cal P w W.K mg base 6 "_law_cut_right" s__law_cut_right ["_law_own", "_law_box", "_law_tests_here", "_law_scale", "_law_at", "_law_value"] (spP W 6 F__law_cut_right)) (c__law_draw : Cal P w W.K mg base 1 "_law_draw" s__law_draw ["_law_heap_here", "_law_many"] (spR W drw 2 F__law_draw)) (c__law_end : Cal P w W.K mg base 3 "_law_end" s__law_end ["_law_heap_here", "_law_known"] (spR W drw 2 F__law_end)) (c__law_ends_right : Cal P w W.K mg base 2 "_law_ends_right" s__law_ends_right ["_law_heap_here", "_law_own", "_law_box", "_law_tests_here", "_law_scale"] (spR W drw 5 F__law_ends_right)) (c__law_fractions : Cal P w W.K mg base 2 "_law_fractions" s__law_fractions ["_law_some", "_law_scale"] (spP W 2 F__law_fractions)) (c__law_pick : Cal P w W.K mg base 2 "_law_pick" s__law_pick ["_law_heap_here", "_law_some"] (spR W drw 2 F__law_pick)) (c__law_points_right : Cal P w W.K mg base 5 "_law_points_right" s__law_points_right ["_law_heap_here", "_law_own", "_law_box", "_law_tests_here", "_law_scale"] (spR W drw 5 F__law_points_right)) (c__law_range : Cal P w W.K mg base 4 "_law_range" s__law_range ["_law_heap_here", "_law_known"] (spR W drw 2 F__law_range)) (c__law_shown : Cal P w W.K mg base 2 "_law_shown" s__law_shown ["_law_own", "_law_scale"] (spP W 2 F__law_shown)) (c__law_tests : Cal P w W.K mg base 1 "_law_tests" s__law_tests ["_law_some"] (spP W 1 F__law_tests)) (c__law_two_right : Cal P w W.K mg base 5 "_law_two_right" s__law_two_right ["_law_one", "_law_two", "_law_box", "_law_other", "_law_tests_here", "_law_scale"] (spP W 6 F__law_two_right)) (c_common_box : Cal P w W.K mg base 4 "common_box" s_common_box ["box", "other"] (spP W 2 F_common_box)) (c_free_box : Cal P w W.K mg base 1 "free_box" s_free_box ["system"] (spP W 1 F_free_box)) (c_halves : Cal P w W.K mg base 5 "halves" s_halves ["box", "at", "value"] (spP W 3 F_halves)) (c_joined_box : Cal P w W.K mg base 3 "joined_box" s_joined_box ["box", "other"] (spP W 2 F_joined_box)) {fh : Addr} {dh : FuncData} (Fh : Fun W.K "_law_heap" "_law_heap" s__law_heap fh dh) (gh : mg "_law_heap" = some (.ref fh)) {f : Addr} {fd : FuncData} (Fn : Fun W.K "law" "law" s_law f fd) :
    FnG P w W.K mg base CX0 7 f fd ["_law_script"] (spLaw W.K 63) := by
  refine FnG.mk' Fn sc_law (fun vs H Q E h => ?_) fun cdv A env s H vs Q E hr h => ?_
  · obtain ⟨a, ns, rfl, _⟩ := h
    rfl
  obtain ⟨a, ns, rfl, hS, hl, hQ⟩ := h
  have nd := sc_law.nd
  have Fg := ok__law_heap (P := P) (w := w) (base := base) T Fh
  have kb : Kb W.K dh ["_law_script"] [] 1 [0] := Kb.of Fh fun _ _ _ _ _ _ us ws h1 h2 => match us, ws, h1, h2 with | [_], [], _, _ => rfl
  have der : PSs (cxOf CX0 P w W.K mg base ["_law_script", "_law_heap_here", "_law_turn", "_law_scale", "_law_size", "_law_known", "_law_one", "_law_two", "_law_tests_here", "_law_cuts", "_law_at", "_law_first", "_law_near", "_law_second", "_law_cut", "_law_box", "_law_other", "_law_place", "_law_names", "_law_end_here", "_law_some"] "law" (defScope s_law) f cdv A env s H E).nox (defBody s_law) _ :=
    pss_cons (ps_set (i := 1) nd rfl (.inl rfl) (pe_callGP (E := fun _ _ _ => False) Fg (hr.mono (by decide)) kb pass0 (by rfl) gh Fh.kp (pa_cons (pe_var (i := 0) rfl (.inl rfl)) pa_nil rfl)) rfl (.inl rfl))
      (pss_ex (ι := (Addr × Addr) × (Addr → Prop) × Hp) fun i => dv_law T c_System c__law_box_right c__law_cut_right c__law_draw c__law_end c__law_ends_right c__law_fractions c__law_pick c__law_points_right c__law_range c__law_shown c__law_tests c__law_two_right c_common_box c_free_box c_halves c_joined_box cdv A env s H E i.2.1 i.1.1 i.1.2 i.2.2 hr)
  refine ⟨_, der.nox, ?_⟩
  refine ⟨_, rfl, rfl, rfl, a, fun b => ∃ o, H b = some o, ns, HeapOk, rfl, hS, fun _ z => z, ⟨by omega, fun _ z => z⟩, fun v H1 d hd im kp => ?_⟩
  obtain ⟨b, c, rfl, hI, hb, hc⟩ := heap_made hd im
  have al : ∀ x, (x = b ∨ x = c) → ∃ o, H1 x = some o := fun x z => (drw b c).al H1 x hI z
  refine ⟨((b, c), (fun x => x = b ∨ x = c), H1), [], _, _, retX (fun d => d = .bool true), sta_law (n := 21) (G := ⟨W, drw b c, fun x => x = b ∨ x = c, H1⟩) (by decide) rfl rfl rfl hI al (fun _ z => z) (hS.keep kp), sem_law ns _ ⟨by omega, rfl⟩, ?_, ?_, ?_, ?_⟩
  · exact fun _ _ _ _ _ z => nomatch z
  · intro v H2 d z m _ _
    have z : d = .bool true := z
    subst z
    obtain rfl : v = .bl true := m
    exact hQ _
  · exact fun _ _ _ _ _ z => z
  · exact fun _ _ _ _ _ z => z
end
theorem all_mk {P : Program} {w : World} {K : PySem.W.Frag} {h : Heap} {mg : Str → Option Value} {fa : Addr} (X : K.In h) (G : h.Ns mainGlobals mg) (hfa : mg "law" = some (.ref fa))
    {f0 f1 f2 f3 f4 f5 f6 f7 f8 f9 f10 f11 f12 f13 f14 f15 f16 f17 f18 f19 f20 f21 f22 f23 f24 f25 f26 f27 f28 f29 f30 f31 f32 f33 f34 f35 f36 f37 f38 fISystem CSystem : Addr}
    {od0 an0 od1 an1 od2 an2 od3 an3 od4 an4 od5 an5 od6 an6 od7 an7 od8 an8 od9 an9 od10 an10 od11 an11 od12 an12 od13 an13 od14 an14 od15 an15 od16 an16 od17 an17 od18 an18 od19 an19 od20 an20 od21 an21 od22 an22 od23 an23 od24 an24 od25 an25 od26 an26 od27 an27 od28 an28 od29 an29 od30 an30 od31 an31 od32 an32 od33 an33 od34 an34 od35 an35 od36 an36 od37 an37 od38 an38 odISystem anISystem : Option Addr} {sl0 sl1 sl2 sl3 sl4 sl5 sl6 sl7 sl8 sl9 sl10 sl11 sl12 sl13 sl14 sl15 sl16 sl17 sl18 sl19 sl20 sl21 sl22 sl23 sl24 sl25 sl26 sl27 sl28 sl29 sl30 sl31 sl32 sl33 sl34 sl35 sl36 sl37 sl38 slISystem : Array (Option Value)} {oc0 kV0 dc0 pm0 cd0 ct0 oc1 kV1 dc1 pm1 cd1 ct1 oc2 kV2 dc2 pm2 cd2 ct2 oc3 kV3 dc3 pm3 cd3 ct3 oc4 kV4 dc4 pm4 cd4 ct4 oc5 kV5 dc5 pm5 cd5 ct5 oc6 kV6 dc6 pm6 cd6 ct6 oc7 kV7 dc7 pm7 cd7 ct7 oc8 kV8 dc8 pm8 cd8 ct8 oc9 kV9 dc9 pm9 cd9 ct9 oc10 kV10 dc10 pm10 cd10 ct10 oc11 kV11 dc11 pm11 cd11 ct11 oc12 kV12 dc12 pm12 cd12 ct12 oc13 kV13 dc13 pm13 cd13 ct13 oc14 kV14 dc14 pm14 cd14 ct14 oc15 kV15 dc15 pm15 cd15 ct15 oc16 kV16 dc16 pm16 cd16 ct16 oc17 kV17 dc17 pm17 cd17 ct17 oc18 kV18 dc18 pm18 cd18 ct18 oc19 kV19 dc19 pm19 cd19 ct19 oc20 kV20 dc20 pm20 cd20 ct20 oc21 kV21 dc21 pm21 cd21 ct21 oc22 kV22 dc22 pm22 cd22 ct22 oc23 kV23 dc23 pm23 cd23 ct23 oc24 kV24 dc24 pm24 cd24 ct24 oc25 kV25 dc25 pm25 cd25 ct25 oc26 kV26 dc26 pm26 cd26 ct26 oc27 kV27 dc27 pm27 cd27 ct27 oc28 kV28 dc28 pm28 cd28 ct28 oc29 kV29 dc29 pm29 cd29 ct29 oc30 kV30 dc30 pm30 cd30 ct30 oc31 kV31 dc31 pm31 cd31 ct31 oc32 kV32 dc32 pm32 cd32 ct32 oc33 kV33 dc33 pm33 cd33 ct33 oc34 kV34 dc34 pm34 cd34 ct34 oc35 kV35 dc35 pm35 cd35 ct35 oc36 kV36 dc36 pm36 cd36 ct36 oc37 kV37 dc37 pm37 cd37 ct37 oc38 kV38 dc38 pm38 cd38 ct38 ocISystem kVISystem dcISystem pmISystem cdISystem ctISystem : Value}
    {tLETTERS tMOST_LETTERS tMOST_NAMES : Tok}
    (a0 : PySem.W.nsIn K mainGlobals "is_name" = some (some (.ref f0)))
    (l0 : K.lookup f0 = some ⟨oc0, od0, .func (PySem.W.fnOf "is_name" "is_name" (defArgs s_is_name) (defBody s_is_name) (defScope s_is_name) .none kV0 dc0 pm0 an0 cd0 ct0), sl0⟩)
    (c0 : PySem.W.codeIn K cd0 "is_name" = true)
    (k0 : PySem.W.keepIn K (.ref f0) = true)
    (a1 : PySem.W.nsIn K mainGlobals "is_rising" = some (some (.ref f1)))
    (l1 : K.lookup f1 = some ⟨oc1, od1, .func (PySem.W.fnOf "is_rising" "is_rising" (defArgs s_is_rising) (defBody s_is_rising) (defScope s_is_rising) .none kV1 dc1 pm1 an1 cd1 ct1), sl1⟩)
    (c1 : PySem.W.codeIn K cd1 "is_rising" = true)
    (k1 : PySem.W.keepIn K (.ref f1) = true)
    (a2 : PySem.W.nsIn K mainGlobals "is_name_lot" = some (some (.ref f2)))
    (l2 : K.lookup f2 = some ⟨oc2, od2, .func (PySem.W.fnOf "is_name_lot" "is_name_lot" (defArgs s_is_name_lot) (defBody s_is_name_lot) (defScope s_is_name_lot) .none kV2 dc2 pm2 an2 cd2 ct2), sl2⟩)
    (c2 : PySem.W.codeIn K cd2 "is_name_lot" = true)
    (k2 : PySem.W.keepIn K (.ref f2) = true)
    (a3 : PySem.W.nsIn K mainGlobals "less" = some (some (.ref f3)))
    (l3 : K.lookup f3 = some ⟨oc3, od3, .func (PySem.W.fnOf "less" "less" (defArgs s_less) (defBody s_less) (defScope s_less) .none kV3 dc3 pm3 an3 cd3 ct3), sl3⟩)
    (c3 : PySem.W.codeIn K cd3 "less" = true)
    (k3 : PySem.W.keepIn K (.ref f3) = true)
    (a4 : PySem.W.nsIn K mainGlobals "free_box" = some (some (.ref f4)))
    (l4 : K.lookup f4 = some ⟨oc4, od4, .func (PySem.W.fnOf "free_box" "free_box" (defArgs s_free_box) (defBody s_free_box) (defScope s_free_box) .none kV4 dc4 pm4 an4 cd4 ct4), sl4⟩)
    (c4 : PySem.W.codeIn K cd4 "free_box" = true)
    (k4 : PySem.W.keepIn K (.ref f4) = true)
    (a5 : PySem.W.nsIn K mainGlobals "point_box" = some (some (.ref f5)))
    (l5 : K.lookup f5 = some ⟨oc5, od5, .func (PySem.W.fnOf "point_box" "point_box" (defArgs s_point_box) (defBody s_point_box) (defScope s_point_box) .none kV5 dc5 pm5 an5 cd5 ct5), sl5⟩)
    (c5 : PySem.W.codeIn K cd5 "point_box" = true)
    (k5 : PySem.W.keepIn K (.ref f5) = true)
    (a6 : PySem.W.nsIn K mainGlobals "in_box" = some (some (.ref f6)))
    (l6 : K.lookup f6 = some ⟨oc6, od6, .func (PySem.W.fnOf "in_box" "in_box" (defArgs s_in_box) (defBody s_in_box) (defScope s_in_box) .none kV6 dc6 pm6 an6 cd6 ct6), sl6⟩)
    (c6 : PySem.W.codeIn K cd6 "in_box" = true)
    (k6 : PySem.W.keepIn K (.ref f6) = true)
    (a7 : PySem.W.nsIn K mainGlobals "is_low_within" = some (some (.ref f7)))
    (l7 : K.lookup f7 = some ⟨oc7, od7, .func (PySem.W.fnOf "is_low_within" "is_low_within" (defArgs s_is_low_within) (defBody s_is_low_within) (defScope s_is_low_within) .none kV7 dc7 pm7 an7 cd7 ct7), sl7⟩)
    (c7 : PySem.W.codeIn K cd7 "is_low_within" = true)
    (k7 : PySem.W.keepIn K (.ref f7) = true)
    (a8 : PySem.W.nsIn K mainGlobals "is_high_within" = some (some (.ref f8)))
    (l8 : K.lookup f8 = some ⟨oc8, od8, .func (PySem.W.fnOf "is_high_within" "is_high_within" (defArgs s_is_high_within) (defBody s_is_high_within) (defScope s_is_high_within) .none kV8 dc8 pm8 an8 cd8 ct8), sl8⟩)
    (c8 : PySem.W.codeIn K cd8 "is_high_within" = true)
    (k8 : PySem.W.keepIn K (.ref f8) = true)
    (a9 : PySem.W.nsIn K mainGlobals "within" = some (some (.ref f9)))
    (l9 : K.lookup f9 = some ⟨oc9, od9, .func (PySem.W.fnOf "within" "within" (defArgs s_within) (defBody s_within) (defScope s_within) .none kV9 dc9 pm9 an9 cd9 ct9), sl9⟩)
    (c9 : PySem.W.codeIn K cd9 "within" = true)
    (k9 : PySem.W.keepIn K (.ref f9) = true)
    (a10 : PySem.W.nsIn K mainGlobals "greater_low" = some (some (.ref f10)))
    (l10 : K.lookup f10 = some ⟨oc10, od10, .func (PySem.W.fnOf "greater_low" "greater_low" (defArgs s_greater_low) (defBody s_greater_low) (defScope s_greater_low) .none kV10 dc10 pm10 an10 cd10 ct10), sl10⟩)
    (c10 : PySem.W.codeIn K cd10 "greater_low" = true)
    (k10 : PySem.W.keepIn K (.ref f10) = true)
    (a11 : PySem.W.nsIn K mainGlobals "lesser_high" = some (some (.ref f11)))
    (l11 : K.lookup f11 = some ⟨oc11, od11, .func (PySem.W.fnOf "lesser_high" "lesser_high" (defArgs s_lesser_high) (defBody s_lesser_high) (defScope s_lesser_high) .none kV11 dc11 pm11 an11 cd11 ct11), sl11⟩)
    (c11 : PySem.W.codeIn K cd11 "lesser_high" = true)
    (k11 : PySem.W.keepIn K (.ref f11) = true)
    (a12 : PySem.W.nsIn K mainGlobals "common_box" = some (some (.ref f12)))
    (l12 : K.lookup f12 = some ⟨oc12, od12, .func (PySem.W.fnOf "common_box" "common_box" (defArgs s_common_box) (defBody s_common_box) (defScope s_common_box) .none kV12 dc12 pm12 an12 cd12 ct12), sl12⟩)
    (c12 : PySem.W.codeIn K cd12 "common_box" = true)
    (k12 : PySem.W.keepIn K (.ref f12) = true)
    (a13 : PySem.W.nsIn K mainGlobals "joined_box" = some (some (.ref f13)))
    (l13 : K.lookup f13 = some ⟨oc13, od13, .func (PySem.W.fnOf "joined_box" "joined_box" (defArgs s_joined_box) (defBody s_joined_box) (defScope s_joined_box) .none kV13 dc13 pm13 an13 cd13 ct13), sl13⟩)
    (c13 : PySem.W.codeIn K cd13 "joined_box" = true)
    (k13 : PySem.W.keepIn K (.ref f13) = true)
    (a14 : PySem.W.nsIn K mainGlobals "box_ends" = some (some (.ref f14)))
    (l14 : K.lookup f14 = some ⟨oc14, od14, .func (PySem.W.fnOf "box_ends" "box_ends" (defArgs s_box_ends) (defBody s_box_ends) (defScope s_box_ends) .none kV14 dc14 pm14 an14 cd14 ct14), sl14⟩)
    (c14 : PySem.W.codeIn K cd14 "box_ends" = true)
    (k14 : PySem.W.keepIn K (.ref f14) = true)
    (a15 : PySem.W.nsIn K mainGlobals "only_ends" = some (some (.ref f15)))
    (l15 : K.lookup f15 = some ⟨oc15, od15, .func (PySem.W.fnOf "only_ends" "only_ends" (defArgs s_only_ends) (defBody s_only_ends) (defScope s_only_ends) .none kV15 dc15 pm15 an15 cd15 ct15), sl15⟩)
    (c15 : PySem.W.codeIn K cd15 "only_ends" = true)
    (k15 : PySem.W.keepIn K (.ref f15) = true)
    (a16 : PySem.W.nsIn K mainGlobals "with_range" = some (some (.ref f16)))
    (l16 : K.lookup f16 = some ⟨oc16, od16, .func (PySem.W.fnOf "with_range" "with_range" (defArgs s_with_range) (defBody s_with_range) (defScope s_with_range) .none kV16 dc16 pm16 an16 cd16 ct16), sl16⟩)
    (c16 : PySem.W.codeIn K cd16 "with_range" = true)
    (k16 : PySem.W.keepIn K (.ref f16) = true)
    (a17 : PySem.W.nsIn K mainGlobals "placed" = some (some (.ref f17)))
    (l17 : K.lookup f17 = some ⟨oc17, od17, .func (PySem.W.fnOf "placed" "placed" (defArgs s_placed) (defBody s_placed) (defScope s_placed) .none kV17 dc17 pm17 an17 cd17 ct17), sl17⟩)
    (c17 : PySem.W.codeIn K cd17 "placed" = true)
    (k17 : PySem.W.keepIn K (.ref f17) = true)
    (a18 : PySem.W.nsIn K mainGlobals "halves" = some (some (.ref f18)))
    (l18 : K.lookup f18 = some ⟨oc18, od18, .func (PySem.W.fnOf "halves" "halves" (defArgs s_halves) (defBody s_halves) (defScope s_halves) .none kV18 dc18 pm18 an18 cd18 ct18), sl18⟩)
    (c18 : PySem.W.codeIn K cd18 "halves" = true)
    (k18 : PySem.W.keepIn K (.ref f18) = true)
    (a19 : PySem.W.nsIn K mainGlobals "_law_pick" = some (some (.ref f19)))
    (l19 : K.lookup f19 = some ⟨oc19, od19, .func (PySem.W.fnOf "_law_pick" "_law_pick" (defArgs s__law_pick) (defBody s__law_pick) (defScope s__law_pick) .none kV19 dc19 pm19 an19 cd19 ct19), sl19⟩)
    (c19 : PySem.W.codeIn K cd19 "_law_pick" = true)
    (k19 : PySem.W.keepIn K (.ref f19) = true)
    (a20 : PySem.W.nsIn K mainGlobals "_law_lowest" = some (some (.ref f20)))
    (l20 : K.lookup f20 = some ⟨oc20, od20, .func (PySem.W.fnOf "_law_lowest" "_law_lowest" (defArgs s__law_lowest) (defBody s__law_lowest) (defScope s__law_lowest) .none kV20 dc20 pm20 an20 cd20 ct20), sl20⟩)
    (c20 : PySem.W.codeIn K cd20 "_law_lowest" = true)
    (k20 : PySem.W.keepIn K (.ref f20) = true)
    (a21 : PySem.W.nsIn K mainGlobals "_law_end" = some (some (.ref f21)))
    (l21 : K.lookup f21 = some ⟨oc21, od21, .func (PySem.W.fnOf "_law_end" "_law_end" (defArgs s__law_end) (defBody s__law_end) (defScope s__law_end) .none kV21 dc21 pm21 an21 cd21 ct21), sl21⟩)
    (c21 : PySem.W.codeIn K cd21 "_law_end" = true)
    (k21 : PySem.W.keepIn K (.ref f21) = true)
    (a22 : PySem.W.nsIn K mainGlobals "_law_range" = some (some (.ref f22)))
    (l22 : K.lookup f22 = some ⟨oc22, od22, .func (PySem.W.fnOf "_law_range" "_law_range" (defArgs s__law_range) (defBody s__law_range) (defScope s__law_range) .none kV22 dc22 pm22 an22 cd22 ct22), sl22⟩)
    (c22 : PySem.W.codeIn K cd22 "_law_range" = true)
    (k22 : PySem.W.keepIn K (.ref f22) = true)
    (a23 : PySem.W.nsIn K mainGlobals "_law_has" = some (some (.ref f23)))
    (l23 : K.lookup f23 = some ⟨oc23, od23, .func (PySem.W.fnOf "_law_has" "_law_has" (defArgs s__law_has) (defBody s__law_has) (defScope s__law_has) .none kV23 dc23 pm23 an23 cd23 ct23), sl23⟩)
    (c23 : PySem.W.codeIn K cd23 "_law_has" = true)
    (k23 : PySem.W.keepIn K (.ref f23) = true)
    (a24 : PySem.W.nsIn K mainGlobals "_law_shown" = some (some (.ref f24)))
    (l24 : K.lookup f24 = some ⟨oc24, od24, .func (PySem.W.fnOf "_law_shown" "_law_shown" (defArgs s__law_shown) (defBody s__law_shown) (defScope s__law_shown) .none kV24 dc24 pm24 an24 cd24 ct24), sl24⟩)
    (c24 : PySem.W.codeIn K cd24 "_law_shown" = true)
    (k24 : PySem.W.keepIn K (.ref f24) = true)
    (a25 : PySem.W.nsIn K mainGlobals "_law_tests" = some (some (.ref f25)))
    (l25 : K.lookup f25 = some ⟨oc25, od25, .func (PySem.W.fnOf "_law_tests" "_law_tests" (defArgs s__law_tests) (defBody s__law_tests) (defScope s__law_tests) .none kV25 dc25 pm25 an25 cd25 ct25), sl25⟩)
    (c25 : PySem.W.codeIn K cd25 "_law_tests" = true)
    (k25 : PySem.W.keepIn K (.ref f25) = true)
    (a26 : PySem.W.nsIn K mainGlobals "_law_is_end" = some (some (.ref f26)))
    (l26 : K.lookup f26 = some ⟨oc26, od26, .func (PySem.W.fnOf "_law_is_end" "_law_is_end" (defArgs s__law_is_end) (defBody s__law_is_end) (defScope s__law_is_end) .none kV26 dc26 pm26 an26 cd26 ct26), sl26⟩)
    (c26 : PySem.W.codeIn K cd26 "_law_is_end" = true)
    (k26 : PySem.W.keepIn K (.ref f26) = true)
    (a27 : PySem.W.nsIn K mainGlobals "_law_told_has" = some (some (.ref f27)))
    (l27 : K.lookup f27 = some ⟨oc27, od27, .func (PySem.W.fnOf "_law_told_has" "_law_told_has" (defArgs s__law_told_has) (defBody s__law_told_has) (defScope s__law_told_has) .none kV27 dc27 pm27 an27 cd27 ct27), sl27⟩)
    (c27 : PySem.W.codeIn K cd27 "_law_told_has" = true)
    (k27 : PySem.W.keepIn K (.ref f27) = true)
    (a28 : PySem.W.nsIn K mainGlobals "_law_fractions" = some (some (.ref f28)))
    (l28 : K.lookup f28 = some ⟨oc28, od28, .func (PySem.W.fnOf "_law_fractions" "_law_fractions" (defArgs s__law_fractions) (defBody s__law_fractions) (defScope s__law_fractions) .none kV28 dc28 pm28 an28 cd28 ct28), sl28⟩)
    (c28 : PySem.W.codeIn K cd28 "_law_fractions" = true)
    (k28 : PySem.W.keepIn K (.ref f28) = true)
    (a29 : PySem.W.nsIn K mainGlobals "_law_box_right" = some (some (.ref f29)))
    (l29 : K.lookup f29 = some ⟨oc29, od29, .func (PySem.W.fnOf "_law_box_right" "_law_box_right" (defArgs s__law_box_right) (defBody s__law_box_right) (defScope s__law_box_right) .none kV29 dc29 pm29 an29 cd29 ct29), sl29⟩)
    (c29 : PySem.W.codeIn K cd29 "_law_box_right" = true)
    (k29 : PySem.W.keepIn K (.ref f29) = true)
    (a30 : PySem.W.nsIn K mainGlobals "_law_all_in" = some (some (.ref f30)))
    (l30 : K.lookup f30 = some ⟨oc30, od30, .func (PySem.W.fnOf "_law_all_in" "_law_all_in" (defArgs s__law_all_in) (defBody s__law_all_in) (defScope s__law_all_in) .none kV30 dc30 pm30 an30 cd30 ct30), sl30⟩)
    (c30 : PySem.W.codeIn K cd30 "_law_all_in" = true)
    (k30 : PySem.W.keepIn K (.ref f30) = true)
    (a31 : PySem.W.nsIn K mainGlobals "_law_two_right" = some (some (.ref f31)))
    (l31 : K.lookup f31 = some ⟨oc31, od31, .func (PySem.W.fnOf "_law_two_right" "_law_two_right" (defArgs s__law_two_right) (defBody s__law_two_right) (defScope s__law_two_right) .none kV31 dc31 pm31 an31 cd31 ct31), sl31⟩)
    (c31 : PySem.W.codeIn K cd31 "_law_two_right" = true)
    (k31 : PySem.W.keepIn K (.ref f31) = true)
    (a32 : PySem.W.nsIn K mainGlobals "_law_ends_right" = some (some (.ref f32)))
    (l32 : K.lookup f32 = some ⟨oc32, od32, .func (PySem.W.fnOf "_law_ends_right" "_law_ends_right" (defArgs s__law_ends_right) (defBody s__law_ends_right) (defScope s__law_ends_right) .none kV32 dc32 pm32 an32 cd32 ct32), sl32⟩)
    (c32 : PySem.W.codeIn K cd32 "_law_ends_right" = true)
    (k32 : PySem.W.keepIn K (.ref f32) = true)
    (a33 : PySem.W.nsIn K mainGlobals "_law_cut_right" = some (some (.ref f33)))
    (l33 : K.lookup f33 = some ⟨oc33, od33, .func (PySem.W.fnOf "_law_cut_right" "_law_cut_right" (defArgs s__law_cut_right) (defBody s__law_cut_right) (defScope s__law_cut_right) .none kV33 dc33 pm33 an33 cd33 ct33), sl33⟩)
    (c33 : PySem.W.codeIn K cd33 "_law_cut_right" = true)
    (k33 : PySem.W.keepIn K (.ref f33) = true)
    (a34 : PySem.W.nsIn K mainGlobals "_law_fit" = some (some (.ref f34)))
    (l34 : K.lookup f34 = some ⟨oc34, od34, .func (PySem.W.fnOf "_law_fit" "_law_fit" (defArgs s__law_fit) (defBody s__law_fit) (defScope s__law_fit) .none kV34 dc34 pm34 an34 cd34 ct34), sl34⟩)
    (c34 : PySem.W.codeIn K cd34 "_law_fit" = true)
    (k34 : PySem.W.keepIn K (.ref f34) = true)
    (a35 : PySem.W.nsIn K mainGlobals "_law_points_right" = some (some (.ref f35)))
    (l35 : K.lookup f35 = some ⟨oc35, od35, .func (PySem.W.fnOf "_law_points_right" "_law_points_right" (defArgs s__law_points_right) (defBody s__law_points_right) (defScope s__law_points_right) .none kV35 dc35 pm35 an35 cd35 ct35), sl35⟩)
    (c35 : PySem.W.codeIn K cd35 "_law_points_right" = true)
    (k35 : PySem.W.keepIn K (.ref f35) = true)
    (a36 : PySem.W.nsIn K mainGlobals "_law_heap" = some (some (.ref f36)))
    (l36 : K.lookup f36 = some ⟨oc36, od36, .func (PySem.W.fnOf "_law_heap" "_law_heap" (defArgs s__law_heap) (defBody s__law_heap) (defScope s__law_heap) .none kV36 dc36 pm36 an36 cd36 ct36), sl36⟩)
    (c36 : PySem.W.codeIn K cd36 "_law_heap" = true)
    (k36 : PySem.W.keepIn K (.ref f36) = true)
    (a37 : PySem.W.nsIn K mainGlobals "law" = some (some (.ref f37)))
    (l37 : K.lookup f37 = some ⟨oc37, od37, .func (PySem.W.fnOf "law" "law" (defArgs s_law) (defBody s_law) (defScope s_law) .none kV37 dc37 pm37 an37 cd37 ct37), sl37⟩)
    (c37 : PySem.W.codeIn K cd37 "law" = true)
    (k37 : PySem.W.keepIn K (.ref f37) = true)
    (a38 : PySem.W.nsIn K mainGlobals "_law_draw" = some (some (.ref f38)))
    (l38 : K.lookup f38 = some ⟨oc38, od38, .func (PySem.W.fnOf "_law_draw" "_law_draw" (defArgs s__law_draw) (defBody s__law_draw) (defScope s__law_draw) .none kV38 dc38 pm38 an38 cd38 ct38), sl38⟩)
    (c38 : PySem.W.codeIn K cd38 "_law_draw" = true)
    (k38 : PySem.W.keepIn K (.ref f38) = true)
    (aCSystem : PySem.W.nsIn K mainGlobals "System" = some (some (.ref CSystem)))
    (aISystem : PySem.W.findIn K (.ref CSystem) "__init__" = some (some (.ref fISystem)))
    (iISystem : PySem.W.isFn K (.ref fISystem) = true)
    (lISystem : K.lookup fISystem = some ⟨ocISystem, odISystem, .func (PySem.W.fnOf "__init__" "System.__init__" (defArgs s_System_init) (defBody s_System_init) (defScope s_System_init) .none kVISystem dcISystem pmISystem anISystem cdISystem ctISystem), slISystem⟩)
    (cISystem : PySem.W.codeIn K cdISystem "System.__init__" = true)
    (kISystem : PySem.W.keepIn K (.ref fISystem) = true)
    (pgSystem : PySem.W.plainGet K CSystem Str.empty = true)
    (hdSystem : PySem.W.hasDictIn K CSystem = true)
    (poSystem : PySem.W.plainOver K CSystem = true)
    (saSystem : PySem.W.findIn K (.ref CSystem) "__setattr__" = some (some (.builtin "object.__setattr__")))
    (mkSystem : PySem.W.makesIn K CSystem = true)
    (kcSystem : PySem.W.keepIn K (.ref CSystem) = true)
    (nSystem_names : PySem.W.findIn K (.ref CSystem) "names" = some none)
    (nSystem_rows : PySem.W.findIn K (.ref CSystem) "rows" = some none)
    (zLETTERS : PySem.W.nsIn K mainGlobals "LETTERS" = some (some (.str "abcdefghijklmnopqrstuvwxyz" tLETTERS)))
    (zMOST_LETTERS : PySem.W.nsIn K mainGlobals "MOST_LETTERS" = some (some (.int 5 tMOST_LETTERS)))
    (zMOST_NAMES : PySem.W.nsIn K mainGlobals "MOST_NAMES" = some (some (.int 6 tMOST_NAMES)))
    (zabs : PySem.W.nsIn K mainGlobals "abs" = some none)
    (zall : PySem.W.nsIn K mainGlobals "all" = some none)
    (zany : PySem.W.nsIn K mainGlobals "any" = some none)
    (zbool : PySem.W.nsIn K mainGlobals "bool" = some none)
    (zenumerate : PySem.W.nsIn K mainGlobals "enumerate" = some none)
    (zint : PySem.W.nsIn K mainGlobals "int" = some none)
    (zisinstance : PySem.W.nsIn K mainGlobals "isinstance" = some none)
    (zlen : PySem.W.nsIn K mainGlobals "len" = some none)
    (zlist : PySem.W.nsIn K mainGlobals "list" = some none)
    (zmax : PySem.W.nsIn K mainGlobals "max" = some none)
    (zmin : PySem.W.nsIn K mainGlobals "min" = some none)
    (zrange : PySem.W.nsIn K mainGlobals "range" = some none)
    (zrepr : PySem.W.nsIn K mainGlobals "repr" = some none)
    (zset : PySem.W.nsIn K mainGlobals "set" = some none)
    (zsorted : PySem.W.nsIn K mainGlobals "sorted" = some none)
    (zstr : PySem.W.nsIn K mainGlobals "str" = some none)
    (ztuple : PySem.W.nsIn K mainGlobals "tuple" = some none)
    (zzip : PySem.W.nsIn K mainGlobals "zip" = some none)
    : ∃ fd : FuncData, (∀ (s : Shared) (v : Value), BindsTo s fd ⟨[v], []⟩ [("_law_script", v)]) ∧ ∀ base : Heap, K.In base → base.Ns mainGlobals mg → FnG P w K mg base CX0 7 fa fd ["_law_script"] (spLaw K 63) := by
  have e := hfa.symm.trans (PySem.W.mg_of X G a37)
  cases e
  have T : Tx ⟨K, fun _ => CSystem⟩ mg := ⟨.str (PySem.W.mg_of X G zLETTERS), .int (PySem.W.mg_of X G zMOST_LETTERS), .int (PySem.W.mg_of X G zMOST_NAMES), PySem.W.mg_none_of X G zabs, PySem.W.mg_none_of X G zall, PySem.W.mg_none_of X G zany, PySem.W.mg_none_of X G zbool, PySem.W.mg_none_of X G zenumerate, PySem.W.mg_none_of X G zint, PySem.W.mg_none_of X G zisinstance, PySem.W.mg_none_of X G zlen, PySem.W.mg_none_of X G zlist, PySem.W.mg_none_of X G zmax, PySem.W.mg_none_of X G zmin, PySem.W.mg_none_of X G zrange, PySem.W.mg_none_of X G zrepr, PySem.W.mg_none_of X G zset, PySem.W.mg_none_of X G zsorted, PySem.W.mg_none_of X G zstr, PySem.W.mg_none_of X G ztuple, PySem.W.mg_none_of X G zzip, ⟨pgSystem, hdSystem, poSystem, saSystem⟩, nSystem_names, nSystem_rows⟩
  refine ⟨PySem.W.fnOf "law" "law" (defArgs s_law) (defBody s_law) (defScope s_law) .none kV37 dc37 pm37 an37 cd37 ct37, fun s v => .of_eq rfl, fun base _ _ => ?_⟩
  have C_is_name : Cal P w K mg base 1 "is_name" s_is_name ["value"] (spP ⟨K, fun _ => CSystem⟩ 1 F_is_name) := ⟨_, _, fun_mk (st := s_is_name) l0 c0 k0, PySem.W.mg_of X G a0, ok_is_name T (fun_mk (st := s_is_name) l0 c0 k0)⟩
  have C_is_rising : Cal P w K mg base 1 "is_rising" s_is_rising ["values"] (spP ⟨K, fun _ => CSystem⟩ 1 F_is_rising) := ⟨_, _, fun_mk (st := s_is_rising) l1 c1 k1, PySem.W.mg_of X G a1, ok_is_rising T (fun_mk (st := s_is_rising) l1 c1 k1)⟩
  have C_is_name_lot : Cal P w K mg base 2 "is_name_lot" s_is_name_lot ["value"] (spP ⟨K, fun _ => CSystem⟩ 1 F_is_name_lot) := ⟨_, _, fun_mk (st := s_is_name_lot) l2 c2 k2, PySem.W.mg_of X G a2, ok_is_name_lot T C_is_name C_is_rising (fun_mk (st := s_is_name_lot) l2 c2 k2)⟩
  have C_System : CalI P w ⟨K, fun _ => CSystem⟩ mg base 3 "System" ["names", "rows"] ["self", "names", "rows"] F_System := ⟨_, _, ⟨mkSystem, aISystem, iISystem, kcSystem⟩, PySem.W.mg_of X G aCSystem, (fun_mk (st := s_System_init) lISystem cISystem kISystem).binds (ps := ["self", "names", "rows"]) (fun _ _ _ _ _ _ us hl => match us, hl with | [_, _, _], _ => rfl), ok_System_init T C_is_name_lot (fun_mk (st := s_System_init) lISystem cISystem kISystem)⟩
  have C__law_is_end : Cal P w K mg base 1 "_law_is_end" s__law_is_end ["_law_end_here", "_law_ends"] (spP ⟨K, fun _ => CSystem⟩ 2 F__law_is_end) := ⟨_, _, fun_mk (st := s__law_is_end) l26 c26 k26, PySem.W.mg_of X G a26, ok__law_is_end T (fun_mk (st := s__law_is_end) l26 c26 k26)⟩
  have C__law_told_has : Cal P w K mg base 1 "_law_told_has" s__law_told_has ["_law_ends", "_law_value", "_law_scale"] (spP ⟨K, fun _ => CSystem⟩ 3 F__law_told_has) := ⟨_, _, fun_mk (st := s__law_told_has) l27 c27 k27, PySem.W.mg_of X G a27, ok__law_told_has T (fun_mk (st := s__law_told_has) l27 c27 k27)⟩
  have C__law_box_right : Cal P w K mg base 2 "_law_box_right" s__law_box_right ["_law_box", "_law_tests_here", "_law_due", "_law_scale"] (spP ⟨K, fun _ => CSystem⟩ 4 F__law_box_right) := ⟨_, _, fun_mk (st := s__law_box_right) l29 c29 k29, PySem.W.mg_of X G a29, ok__law_box_right T C__law_is_end C__law_told_has (fun_mk (st := s__law_box_right) l29 c29 k29)⟩
  have C__law_has : Cal P w K mg base 1 "_law_has" s__law_has ["_law_ends", "_law_value"] (spP ⟨K, fun _ => CSystem⟩ 2 F__law_has) := ⟨_, _, fun_mk (st := s__law_has) l23 c23 k23, PySem.W.mg_of X G a23, ok__law_has T (fun_mk (st := s__law_has) l23 c23 k23)⟩
  have C__law_all_in : Cal P w K mg base 2 "_law_all_in" s__law_all_in ["_law_ends", "_law_tests_here"] (spP ⟨K, fun _ => CSystem⟩ 2 F__law_all_in) := ⟨_, _, fun_mk (st := s__law_all_in) l30 c30 k30, PySem.W.mg_of X G a30, ok__law_all_in T C__law_has (fun_mk (st := s__law_all_in) l30 c30 k30)⟩
  have C__law_lowest : Cal P w K mg base 1 "_law_lowest" s__law_lowest ["_law_over", "_law_under"] (spP ⟨K, fun _ => CSystem⟩ 2 F__law_lowest) := ⟨_, _, fun_mk (st := s__law_lowest) l20 c20 k20, PySem.W.mg_of X G a20, ok__law_lowest T (fun_mk (st := s__law_lowest) l20 c20 k20)⟩
  have C_less : Cal P w K mg base 1 "less" s_less ["one", "other"] (spP ⟨K, fun _ => CSystem⟩ 2 F_less) := ⟨_, _, fun_mk (st := s_less) l3 c3 k3, PySem.W.mg_of X G a3, ok_less T (fun_mk (st := s_less) l3 c3 k3)⟩
  have C_is_low_within : Cal P w K mg base 2 "is_low_within" s_is_low_within ["low", "other"] (spP ⟨K, fun _ => CSystem⟩ 2 F_is_low_within) := ⟨_, _, fun_mk (st := s_is_low_within) l7 c7 k7, PySem.W.mg_of X G a7, ok_is_low_within T C_less (fun_mk (st := s_is_low_within) l7 c7 k7)⟩
  have C_greater_low : Cal P w K mg base 3 "greater_low" s_greater_low ["one", "other"] (spP ⟨K, fun _ => CSystem⟩ 2 F_greater_low) := ⟨_, _, fun_mk (st := s_greater_low) l10 c10 k10, PySem.W.mg_of X G a10, ok_greater_low T C_is_low_within (fun_mk (st := s_greater_low) l10 c10 k10)⟩
  have C_is_high_within : Cal P w K mg base 2 "is_high_within" s_is_high_within ["high", "other"] (spP ⟨K, fun _ => CSystem⟩ 2 F_is_high_within) := ⟨_, _, fun_mk (st := s_is_high_within) l8 c8 k8, PySem.W.mg_of X G a8, ok_is_high_within T C_less (fun_mk (st := s_is_high_within) l8 c8 k8)⟩
  have C_lesser_high : Cal P w K mg base 3 "lesser_high" s_lesser_high ["one", "other"] (spP ⟨K, fun _ => CSystem⟩ 2 F_lesser_high) := ⟨_, _, fun_mk (st := s_lesser_high) l11 c11 k11, PySem.W.mg_of X G a11, ok_lesser_high T C_is_high_within (fun_mk (st := s_lesser_high) l11 c11 k11)⟩
  have C_common_box : Cal P w K mg base 4 "common_box" s_common_box ["box", "other"] (spP ⟨K, fun _ => CSystem⟩ 2 F_common_box) := ⟨_, _, fun_mk (st := s_common_box) l12 c12 k12, PySem.W.mg_of X G a12, ok_common_box T C_greater_low C_less C_lesser_high (fun_mk (st := s_common_box) l12 c12 k12)⟩
  have C_with_range : Cal P w K mg base 1 "with_range" s_with_range ["box", "at", "ends"] (spP ⟨K, fun _ => CSystem⟩ 3 F_with_range) := ⟨_, _, fun_mk (st := s_with_range) l16 c16 k16, PySem.W.mg_of X G a16, ok_with_range T (fun_mk (st := s_with_range) l16 c16 k16)⟩
  have C_halves : Cal P w K mg base 5 "halves" s_halves ["box", "at", "value"] (spP ⟨K, fun _ => CSystem⟩ 3 F_halves) := ⟨_, _, fun_mk (st := s_halves) l18 c18 k18, PySem.W.mg_of X G a18, ok_halves T C_common_box C_with_range (fun_mk (st := s_halves) l18 c18 k18)⟩
  have C_placed : Cal P w K mg base 2 "placed" s_placed ["box", "at", "value"] (spP ⟨K, fun _ => CSystem⟩ 3 F_placed) := ⟨_, _, fun_mk (st := s_placed) l17 c17 k17, PySem.W.mg_of X G a17, ok_placed T C_with_range (fun_mk (st := s_placed) l17 c17 k17)⟩
  have C__law_cut_right : Cal P w K mg base 6 "_law_cut_right" s__law_cut_right ["_law_own", "_law_box", "_law_tests_here", "_law_scale", "_law_at", "_law_value"] (spP ⟨K, fun _ => CSystem⟩ 6 F__law_cut_right) := ⟨_, _, fun_mk (st := s__law_cut_right) l33 c33 k33, PySem.W.mg_of X G a33, ok__law_cut_right T C__law_all_in C__law_box_right C__law_lowest C_halves C_placed (fun_mk (st := s__law_cut_right) l33 c33 k33)⟩
  have C__law_draw : Cal P w K mg base 1 "_law_draw" s__law_draw ["_law_heap_here", "_law_many"] (spR ⟨K, fun _ => CSystem⟩ drw 2 F__law_draw) := ⟨_, _, fun_mk (st := s__law_draw) l38 c38 k38, PySem.W.mg_of X G a38, ok__law_draw T (fun_mk (st := s__law_draw) l38 c38 k38)⟩
  have C__law_pick : Cal P w K mg base 2 "_law_pick" s__law_pick ["_law_heap_here", "_law_some"] (spR ⟨K, fun _ => CSystem⟩ drw 2 F__law_pick) := ⟨_, _, fun_mk (st := s__law_pick) l19 c19 k19, PySem.W.mg_of X G a19, ok__law_pick T C__law_draw (fun_mk (st := s__law_pick) l19 c19 k19)⟩
  have C__law_end : Cal P w K mg base 3 "_law_end" s__law_end ["_law_heap_here", "_law_known"] (spR ⟨K, fun _ => CSystem⟩ drw 2 F__law_end) := ⟨_, _, fun_mk (st := s__law_end) l21 c21 k21, PySem.W.mg_of X G a21, ok__law_end T C__law_draw C__law_pick (fun_mk (st := s__law_end) l21 c21 k21)⟩
  have C_box_ends : Cal P w K mg base 1 "box_ends" s_box_ends ["box"] (spP ⟨K, fun _ => CSystem⟩ 1 F_box_ends) := ⟨_, _, fun_mk (st := s_box_ends) l14 c14 k14, PySem.W.mg_of X G a14, ok_box_ends T (fun_mk (st := s_box_ends) l14 c14 k14)⟩
  have C_only_ends : Cal P w K mg base 1 "only_ends" s_only_ends ["box", "ends"] (spP ⟨K, fun _ => CSystem⟩ 2 F_only_ends) := ⟨_, _, fun_mk (st := s_only_ends) l15 c15 k15, PySem.W.mg_of X G a15, ok_only_ends T (fun_mk (st := s_only_ends) l15 c15 k15)⟩
  have C__law_ends_right : Cal P w K mg base 2 "_law_ends_right" s__law_ends_right ["_law_heap_here", "_law_own", "_law_box", "_law_tests_here", "_law_scale"] (spR ⟨K, fun _ => CSystem⟩ drw 5 F__law_ends_right) := ⟨_, _, fun_mk (st := s__law_ends_right) l32 c32 k32, PySem.W.mg_of X G a32, ok__law_ends_right T C__law_draw C_box_ends C_only_ends (fun_mk (st := s__law_ends_right) l32 c32 k32)⟩
  have C__law_fractions : Cal P w K mg base 2 "_law_fractions" s__law_fractions ["_law_some", "_law_scale"] (spP ⟨K, fun _ => CSystem⟩ 2 F__law_fractions) := ⟨_, _, fun_mk (st := s__law_fractions) l28 c28 k28, PySem.W.mg_of X G a28, ok__law_fractions T C__law_lowest (fun_mk (st := s__law_fractions) l28 c28 k28)⟩
  have C__law_fit : Cal P w K mg base 2 "_law_fit" s__law_fit ["_law_values", "_law_scale"] (spP ⟨K, fun _ => CSystem⟩ 2 F__law_fit) := ⟨_, _, fun_mk (st := s__law_fit) l34 c34 k34, PySem.W.mg_of X G a34, ok__law_fit T C__law_lowest (fun_mk (st := s__law_fit) l34 c34 k34)⟩
  have C_point_box : Cal P w K mg base 1 "point_box" s_point_box ["point"] (spP ⟨K, fun _ => CSystem⟩ 1 F_point_box) := ⟨_, _, fun_mk (st := s_point_box) l5 c5 k5, PySem.W.mg_of X G a5, ok_point_box T (fun_mk (st := s_point_box) l5 c5 k5)⟩
  have C_within : Cal P w K mg base 3 "within" s_within ["box", "other"] (spP ⟨K, fun _ => CSystem⟩ 2 F_within) := ⟨_, _, fun_mk (st := s_within) l9 c9 k9, PySem.W.mg_of X G a9, ok_within T C_is_high_within C_is_low_within (fun_mk (st := s_within) l9 c9 k9)⟩
  have C_in_box : Cal P w K mg base 4 "in_box" s_in_box ["point", "box"] (spP ⟨K, fun _ => CSystem⟩ 2 F_in_box) := ⟨_, _, fun_mk (st := s_in_box) l6 c6 k6, PySem.W.mg_of X G a6, ok_in_box T C_point_box C_within (fun_mk (st := s_in_box) l6 c6 k6)⟩
  have C__law_points_right : Cal P w K mg base 5 "_law_points_right" s__law_points_right ["_law_heap_here", "_law_own", "_law_box", "_law_tests_here", "_law_scale"] (spR ⟨K, fun _ => CSystem⟩ drw 5 F__law_points_right) := ⟨_, _, fun_mk (st := s__law_points_right) l35 c35 k35, PySem.W.mg_of X G a35, ok__law_points_right T C__law_all_in C__law_draw C__law_fit C__law_has C__law_lowest C__law_pick C_in_box C_point_box C_within (fun_mk (st := s__law_points_right) l35 c35 k35)⟩
  have C__law_range : Cal P w K mg base 4 "_law_range" s__law_range ["_law_heap_here", "_law_known"] (spR ⟨K, fun _ => CSystem⟩ drw 2 F__law_range) := ⟨_, _, fun_mk (st := s__law_range) l22 c22 k22, PySem.W.mg_of X G a22, ok__law_range T C__law_end C__law_pick (fun_mk (st := s__law_range) l22 c22 k22)⟩
  have C__law_shown : Cal P w K mg base 2 "_law_shown" s__law_shown ["_law_own", "_law_scale"] (spP ⟨K, fun _ => CSystem⟩ 2 F__law_shown) := ⟨_, _, fun_mk (st := s__law_shown) l24 c24 k24, PySem.W.mg_of X G a24, ok__law_shown T C__law_lowest (fun_mk (st := s__law_shown) l24 c24 k24)⟩
  have C__law_tests : Cal P w K mg base 1 "_law_tests" s__law_tests ["_law_some"] (spP ⟨K, fun _ => CSystem⟩ 1 F__law_tests) := ⟨_, _, fun_mk (st := s__law_tests) l25 c25 k25, PySem.W.mg_of X G a25, ok__law_tests T (fun_mk (st := s__law_tests) l25 c25 k25)⟩
  have C_joined_box : Cal P w K mg base 3 "joined_box" s_joined_box ["box", "other"] (spP ⟨K, fun _ => CSystem⟩ 2 F_joined_box) := ⟨_, _, fun_mk (st := s_joined_box) l13 c13 k13, PySem.W.mg_of X G a13, ok_joined_box T C_is_high_within C_is_low_within (fun_mk (st := s_joined_box) l13 c13 k13)⟩
  have C__law_two_right : Cal P w K mg base 5 "_law_two_right" s__law_two_right ["_law_one", "_law_two", "_law_box", "_law_other", "_law_tests_here", "_law_scale"] (spP ⟨K, fun _ => CSystem⟩ 6 F__law_two_right) := ⟨_, _, fun_mk (st := s__law_two_right) l31 c31 k31, PySem.W.mg_of X G a31, ok__law_two_right T C__law_all_in C__law_box_right C_common_box C_joined_box C_within (fun_mk (st := s__law_two_right) l31 c31 k31)⟩
  have C_free_box : Cal P w K mg base 1 "free_box" s_free_box ["system"] (spP ⟨K, fun _ => CSystem⟩ 1 F_free_box) := ⟨_, _, fun_mk (st := s_free_box) l4 c4 k4, PySem.W.mg_of X G a4, ok_free_box T (fun_mk (st := s_free_box) l4 c4 k4)⟩
  exact ok_law (W := ⟨K, fun _ => CSystem⟩) T C_System C__law_box_right C__law_cut_right C__law_draw C__law_end C__law_ends_right C__law_fractions C__law_pick C__law_points_right C__law_range C__law_shown C__law_tests C__law_two_right C_common_box C_free_box C_halves C_joined_box (fun_mk (st := s__law_heap) l36 c36 k36) (PySem.W.mg_of X G a36) (fun_mk (st := s_law) l37 c37 k37)

end K07
open PySem PySem.W PyProof.Rows
set_option maxHeartbeats 0 in
theorem PySem.Challenge.cw_rowalone_k07_whole_boxes_as_their_points_holds : PySem.Challenge.rw_rowalone_k07_whole_boxes_as_their_points.Holds := by
  w_on; o_law; k_head; (case hw => w_witness2)
  k_fill
  refine DL.walk_G (l := PySem.Challenge.rw_rowalone_k07_whole_boxes_as_their_points) (n := 63) (k := 7) (x := "_law_script") rfl (by decide) rfl ⟨⟨rfl, by decide, by decide⟩, rfl⟩ (fun w h Y => PySem.W.kIn_of Y) ?F
  case F =>
    intro w mg fa h KX G hmg
    refine' K07.all_mk KX G hmg ?a0 ?l0 ?c0 ?k0 ?a1 ?l1 ?c1 ?k1 ?a2 ?l2 ?c2 ?k2 ?a3 ?l3 ?c3 ?k3 ?a4 ?l4 ?c4 ?k4 ?a5 ?l5 ?c5 ?k5 ?a6 ?l6 ?c6 ?k6 ?a7 ?l7 ?c7 ?k7 ?a8 ?l8 ?c8 ?k8 ?a9 ?l9 ?c9 ?k9 ?a10 ?l10 ?c10 ?k10 ?a11 ?l11 ?c11 ?k11 ?a12 ?l12 ?c12 ?k12 ?a13 ?l13 ?c13 ?k13 ?a14 ?l14 ?c14 ?k14 ?a15 ?l15 ?c15 ?k15 ?a16 ?l16 ?c16 ?k16 ?a17 ?l17 ?c17 ?k17 ?a18 ?l18 ?c18 ?k18 ?a19 ?l19 ?c19 ?k19 ?a20 ?l20 ?c20 ?k20 ?a21 ?l21 ?c21 ?k21 ?a22 ?l22 ?c22 ?k22 ?a23 ?l23 ?c23 ?k23 ?a24 ?l24 ?c24 ?k24 ?a25 ?l25 ?c25 ?k25 ?a26 ?l26 ?c26 ?k26 ?a27 ?l27 ?c27 ?k27 ?a28 ?l28 ?c28 ?k28 ?a29 ?l29 ?c29 ?k29 ?a30 ?l30 ?c30 ?k30 ?a31 ?l31 ?c31 ?k31 ?a32 ?l32 ?c32 ?k32 ?a33 ?l33 ?c33 ?k33 ?a34 ?l34 ?c34 ?k34 ?a35 ?l35 ?c35 ?k35 ?a36 ?l36 ?c36 ?k36 ?a37 ?l37 ?c37 ?k37 ?a38 ?l38 ?c38 ?k38 ?aCSystem ?aISystem ?iISystem ?lISystem ?cISystem ?kISystem ?pgSystem ?hdSystem ?poSystem ?saSystem ?mkSystem ?kcSystem ?nSystem_names ?nSystem_rows ?zLETTERS ?zMOST_LETTERS ?zMOST_NAMES ?zabs ?zall ?zany ?zbool ?zenumerate ?zint ?zisinstance ?zlen ?zlist ?zmax ?zmin ?zrange ?zrepr ?zset ?zsorted ?zstr ?ztuple ?zzip
    (case a0 => k_is); (case l0 => k_is); (case c0 => k_is); (case k0 => k_is); (case a1 => k_is); (case l1 => k_is)
    (case c1 => k_is); (case k1 => k_is); (case a2 => k_is); (case l2 => k_is); (case c2 => k_is); (case k2 => k_is)
    (case a3 => k_is); (case l3 => k_is); (case c3 => k_is); (case k3 => k_is); (case a4 => k_is); (case l4 => k_is)
    (case c4 => k_is); (case k4 => k_is); (case a5 => k_is); (case l5 => k_is); (case c5 => k_is); (case k5 => k_is)
    (case a6 => k_is); (case l6 => k_is); (case c6 => k_is); (case k6 => k_is); (case a7 => k_is); (case l7 => k_is)
    (case c7 => k_is); (case k7 => k_is); (case a8 => k_is); (case l8 => k_is); (case c8 => k_is); (case k8 => k_is)
    (case a9 => k_is); (case l9 => k_is); (case c9 => k_is); (case k9 => k_is); (case a10 => k_is); (case l10 => k_is)
    (case c10 => k_is); (case k10 => k_is); (case a11 => k_is); (case l11 => k_is); (case c11 => k_is); (case k11 => k_is)
    (case a12 => k_is); (case l12 => k_is); (case c12 => k_is); (case k12 => k_is); (case a13 => k_is); (case l13 => k_is)
    (case c13 => k_is); (case k13 => k_is); (case a14 => k_is); (case l14 => k_is); (case c14 => k_is); (case k14 => k_is)
    (case a15 => k_is); (case l15 => k_is); (case c15 => k_is); (case k15 => k_is); (case a16 => k_is); (case l16 => k_is)
    (case c16 => k_is); (case k16 => k_is); (case a17 => k_is); (case l17 => k_is); (case c17 => k_is); (case k17 => k_is)
    (case a18 => k_is); (case l18 => k_is); (case c18 => k_is); (case k18 => k_is); (case a19 => k_is); (case l19 => k_is)
    (case c19 => k_is); (case k19 => k_is); (case a20 => k_is); (case l20 => k_is); (case c20 => k_is); (case k20 => k_is)
    (case a21 => k_is); (case l21 => k_is); (case c21 => k_is); (case k21 => k_is); (case a22 => k_is); (case l22 => k_is)
    (case c22 => k_is); (case k22 => k_is); (case a23 => k_is); (case l23 => k_is); (case c23 => k_is); (case k23 => k_is)
    (case a24 => k_is); (case l24 => k_is); (case c24 => k_is); (case k24 => k_is); (case a25 => k_is); (case l25 => k_is)
    (case c25 => k_is); (case k25 => k_is); (case a26 => k_is); (case l26 => k_is); (case c26 => k_is); (case k26 => k_is)
    (case a27 => k_is); (case l27 => k_is); (case c27 => k_is); (case k27 => k_is); (case a28 => k_is); (case l28 => k_is)
    (case c28 => k_is); (case k28 => k_is); (case a29 => k_is); (case l29 => k_is); (case c29 => k_is); (case k29 => k_is)
    (case a30 => k_is); (case l30 => k_is); (case c30 => k_is); (case k30 => k_is); (case a31 => k_is); (case l31 => k_is)
    (case c31 => k_is); (case k31 => k_is); (case a32 => k_is); (case l32 => k_is); (case c32 => k_is); (case k32 => k_is)
    (case a33 => k_is); (case l33 => k_is); (case c33 => k_is); (case k33 => k_is); (case a34 => k_is); (case l34 => k_is)
    (case c34 => k_is); (case k34 => k_is); (case a35 => k_is); (case l35 => k_is); (case c35 => k_is); (case k35 => k_is)
    (case a36 => k_is); (case l36 => k_is); (case c36 => k_is); (case k36 => k_is); (case a37 => k_is); (case l37 => k_is)
    (case c37 => k_is); (case k37 => k_is); (case a38 => k_is); (case l38 => k_is); (case c38 => k_is); (case k38 => k_is)
    (case aCSystem => k_is); (case aISystem => k_is); (case iISystem => k_is); (case lISystem => k_is); (case cISystem => k_is); (case kISystem => k_is)
    (case pgSystem => k_is); (case hdSystem => k_is); (case poSystem => k_is); (case saSystem => k_is); (case mkSystem => k_is); (case kcSystem => k_is)
    (case nSystem_names => k_is); (case nSystem_rows => k_is); (case zLETTERS => k_is); (case zMOST_LETTERS => k_is); (case zMOST_NAMES => k_is); (case zabs => k_is)
    (case zall => k_is); (case zany => k_is); (case zbool => k_is); (case zenumerate => k_is); (case zint => k_is); (case zisinstance => k_is)
    (case zlen => k_is); (case zlist => k_is); (case zmax => k_is); (case zmin => k_is); (case zrange => k_is); (case zrepr => k_is)
    (case zset => k_is); (case zsorted => k_is); (case zstr => k_is); (case ztuple => k_is); (case zzip => k_is)
#print axioms PySem.Challenge.cw_rowalone_k07_whole_boxes_as_their_points_holds
