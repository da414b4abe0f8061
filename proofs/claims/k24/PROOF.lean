import PyProof.Rows.All
import Wide.All
import OpenK.AllK
import Wide.FinOn
import HandS.ForMost
import HandS.ForExc
import HandS.ExcInit
import HandS.ExcField
import HandS.TryMany
import HandS.CallSlots
import HandS.Defaults
import HandS.Wide
import HandS.HeadHook4
import HandS.TupAny
import HandS.IsInst
import HandS.Small
import HandS.WordsDict
import HandS.EndBits
import HandS.Head0
import HandS.Head1
import HandS.Head2
import HandS.HeadEnd
import PyProof.ListStr
import KE.KRevSl
import HandS.SortInts
import HandS.FStr
import HandS.ClsMeth
import HandS.HeadNt
import KE.KCallOwn
import PyProof.AssignAttr
import PyProof.ReprRoads
import PySem.Challenge.RW_evenmarket_k24_pools_by_text
import HandS.Text
import KE.IntTextLaws
set_option Elab.async false
set_option linter.all false
set_option maxRecDepth 100001
set_option maxHeartbeats 0
namespace DL
open PySem L2

/-- data: what a value stands for, without addresses -/
inductive D where
  | non
  | bl (b : Bool)
  | int (i : Int)
  | str (x : Str)
  | ty (n : String)
  | fun_ (a : Addr)
  | tup (ds : List D)
  | lst (ds : List D)
  | rol (ds : List D)
  | dic (kvs : List (Key × D))
  | dit (kvs : List (List Key × D))
  | obj (c : Str) (fs : List (Str × D))
  | exc (a dd : Addr) (c : Str) (fs : List (Str × D))

/-- what may still be changed: a tree of objects that nobody else holds -/
inductive M where
  | sh (d : D)
  | lst (ms : List M)
  | dic (kvs : List (Key × M))
  | dit (kvs : List (List Key × M))
  | obj (c : Str) (fs : List (Str × M))
  | ex (n : Nat)

abbrev clsAt (K : PySem.W.Frag) (x : Str) : Addr := He.ga K x

mutual
inductive Rep (K : PySem.W.Frag) (S : Hp) : V → D → Prop
  | non : Rep K S .non .non
  | bl (b : Bool) : Rep K S (.bl b) (.bl b)
  | int (i : Int) : Rep K S (.int i) (.int i)
  | str (x : Str) : Rep K S (.str x) (.str x)
  | ty (n : String) : Rep K S (.ty n) (.ty n)
  | fun_ (a : Addr) : Rep K S (.ref a) (.fun_ a)
  | tup {a : Addr} {xs : List V} {ds : List D} : SqT K S a xs → RepL K S xs ds → Rep K S (.ref a) (.tup ds)
  | lst {a : Addr} {xs : List V} {ds : List D} : Rd S a (.lst xs) → RepL K S xs ds → Rep K S (.ref a) (.lst ds)
  | rol {a : Addr} {xs : List V} {ds : List D} : SqL K S a xs → RepL K S xs ds → Rep K S (.ref a) (.rol ds)
  | dic {a : Addr} {xs : List (Key × V)} {ds : List (Key × D)} : Rd S a (.dK xs) → RepK K S xs ds → Rep K S (.ref a) (.dic ds)
  | dit {a : Addr} {xs : List (List Key × V)} {ds : List (List Key × D)} : Rd S a (.dT xs) → RepT K S xs ds → Rep K S (.ref a) (.dit ds)
  | obj {a dx : Addr} {c : Str} {xs : List (Str × V)} {ds : List (Str × D)} : S a = some (.ins (clsAt K c) dx xs) → RepF K S xs ds → Rep K S (.ref a) (.obj c ds)
  | exc {a dd : Addr} {c : Str} {xs : List (Str × V)} {ds : List (Str × D)} : S dd = some (.xd xs) → RepF K S xs ds → Rep K S (.ref a) (.exc a dd c ds)
inductive RepL (K : PySem.W.Frag) (S : Hp) : List V → List D → Prop
  | nil : RepL K S [] []
  | cons {v : V} {vs : List V} {d : D} {ds : List D} : Rep K S v d → RepL K S vs ds → RepL K S (v :: vs) (d :: ds)
inductive RepK (K : PySem.W.Frag) (S : Hp) : List (Key × V) → List (Key × D) → Prop
  | nil : RepK K S [] []
  | cons {k : Key} {v : V} {vs : List (Key × V)} {d : D} {ds : List (Key × D)} : Rep K S v d → RepK K S vs ds → RepK K S ((k, v) :: vs) ((k, d) :: ds)
inductive RepT (K : PySem.W.Frag) (S : Hp) : List (List Key × V) → List (List Key × D) → Prop
  | nil : RepT K S [] []
  | cons {k : List Key} {v : V} {vs : List (List Key × V)} {d : D} {ds : List (List Key × D)} : Rep K S v d → RepT K S vs ds → RepT K S ((k, v) :: vs) ((k, d) :: ds)
inductive RepF (K : PySem.W.Frag) (S : Hp) : List (Str × V) → List (Str × D) → Prop
  | nil : RepF K S [] []
  | cons {k : Str} {v : V} {vs : List (Str × V)} {d : D} {ds : List (Str × D)} : Rep K S v d → RepF K S vs ds → RepF K S ((k, v) :: vs) ((k, d) :: ds)
end

/-- more objects -/
def Ex (H G : Hp) : Prop := ∀ (b : Addr) (u : HO), H b = some u → G b = some u
theorem Ex.refl (H : Hp) : Ex H H := fun _ _ same => same
theorem Ex.trans {H I J : Hp} (first : Ex H I) (next : Ex I J) : Ex H J := fun b u h => next b u (first b u h)
theorem Ex.rd {H H' : Hp} {a : Addr} {u : HO} (e : Ex H H') (h : Rd H a u) : Rd H' a u := by
  rcases h with h | ⟨o, h⟩
  · exact .inl (e a _ h)
  · exact .inr ⟨o, e a _ h⟩
theorem Ex.sl {K : PySem.W.Frag} {H H' : Hp} {a : Addr} {xs : List V} (e : Ex H H') (h : SqL K H a xs) : SqL K H' a xs := h.imp e.rd id
theorem Ex.st {K : PySem.W.Frag} {H H' : Hp} {a : Addr} {xs : List V} (e : Ex H H') (h : SqT K H a xs) : SqT K H' a xs := h.imp e.rd id

section
variable {K : PySem.W.Frag} {S S' : Hp}
mutual
theorem Rep.mono (e : Ex S S') : ∀ {v : V} {d : D}, Rep K S v d → Rep K S' v d
  | _, _, .non => .non
  | _, _, .bl b => .bl b
  | _, _, .int i => .int i
  | _, _, .str x => .str x
  | _, _, .ty n => .ty n
  | _, _, .fun_ a => .fun_ a
  | _, _, .tup h r => .tup (e.st h) (RepL.mono e r)
  | _, _, .lst h r => .lst (e.rd h) (RepL.mono e r)
  | _, _, .rol h r => .rol (e.sl h) (RepL.mono e r)
  | _, _, .dic h r => .dic (e.rd h) (RepK.mono e r)
  | _, _, .dit h r => .dit (e.rd h) (RepT.mono e r)
  | _, _, .obj h r => .obj (e _ _ h) (RepF.mono e r)
  | _, _, .exc h r => .exc (e _ _ h) (RepF.mono e r)
theorem RepL.mono (e : Ex S S') : ∀ {v : List V} {d : List D}, RepL K S v d → RepL K S' v d
  | _, _, .nil => .nil
  | _, _, .cons h r => .cons (Rep.mono e h) (RepL.mono e r)
theorem RepK.mono (e : Ex S S') : ∀ {v : List (Key × V)} {d : List (Key × D)}, RepK K S v d → RepK K S' v d
  | _, _, .nil => .nil
  | _, _, .cons h r => .cons (Rep.mono e h) (RepK.mono e r)
theorem RepT.mono (e : Ex S S') : ∀ {v : List (List Key × V)} {d : List (List Key × D)}, RepT K S v d → RepT K S' v d
  | _, _, .nil => .nil
  | _, _, .cons h r => .cons (Rep.mono e h) (RepT.mono e r)
theorem RepF.mono (e : Ex S S') : ∀ {v : List (Str × V)} {d : List (Str × D)}, RepF K S v d → RepF K S' v d
  | _, _, .nil => .nil
  | _, _, .cons h r => .cons (Rep.mono e h) (RepF.mono e r)
end
end
end DL

namespace DL
open PySem L2

/-- a draw state of the law, k draws old at most -/
def exP (k : Nat) (m : M) : Prop := ∃ (bs cs : List Int) (n : Int), m = .lst [.lst (bs.map fun i => .sh (.int i)), .sh (.lst (cs.map .int)), .sh (.int n)] ∧
  0 ≤ n ∧ n ≤ k ∧ cs ≠ [] ∧ cs.length ≤ 64 ∧ bs.length ≤ 63 ∧ (∀ b ∈ bs, 0 ≤ b) ∧ (∀ b ∈ bs, Builtin.Int.intBits b ≤ 1048576) ∧ ∀ c ∈ cs, Builtin.Int.intBits c ≤ 1048576

mutual
inductive OwnR (K : PySem.W.Frag) (S H : Hp) : V → M → List Addr → Prop
  | sh {v : V} {d : D} : Rep K S v d → OwnR K S H v (.sh d) []
  | lst {a : Addr} {vs : List V} {ms : List M} {fp : List Addr} : S a = none → H a = some (.lst vs) → OwnL K S H vs ms fp → OwnR K S H (.ref a) (.lst ms) (a :: fp)
  | dic {a : Addr} {vs : List (Key × V)} {ms : List (Key × M)} {fp : List Addr} : S a = none → H a = some (.dK vs) → OwnK K S H vs ms fp → OwnR K S H (.ref a) (.dic ms) (a :: fp)
  | dit {a : Addr} {vs : List (List Key × V)} {ms : List (List Key × M)} {fp : List Addr} : S a = none → H a = some (.dT vs) → OwnT K S H vs ms fp → OwnR K S H (.ref a) (.dit ms) (a :: fp)
  | obj {a dx : Addr} {c : Str} {vs : List (Str × V)} {ms : List (Str × M)} {fp : List Addr} : S a = none → H a = some (.ins (clsAt K c) dx vs) → OwnF K S H vs ms fp → OwnR K S H (.ref a) (.obj c ms) (a :: fp)
  | ex {v : V} {k : Nat} {m : M} {fp : List Addr} : exP k m → OwnR K S H v m fp → OwnR K S H v (.ex k) fp
inductive OwnL (K : PySem.W.Frag) (S H : Hp) : List V → List M → List Addr → Prop
  | nil : OwnL K S H [] [] []
  | cons {v : V} {vs : List V} {m : M} {ms : List M} {f g : List Addr} : OwnR K S H v m f → OwnL K S H vs ms g → OwnL K S H (v :: vs) (m :: ms) (f ++ g)
inductive OwnK (K : PySem.W.Frag) (S H : Hp) : List (Key × V) → List (Key × M) → List Addr → Prop
  | nil : OwnK K S H [] [] []
  | cons {k : Key} {v : V} {vs : List (Key × V)} {m : M} {ms : List (Key × M)} {f g : List Addr} : OwnR K S H v m f → OwnK K S H vs ms g → OwnK K S H ((k, v) :: vs) ((k, m) :: ms) (f ++ g)
inductive OwnT (K : PySem.W.Frag) (S H : Hp) : List (List Key × V) → List (List Key × M) → List Addr → Prop
  | nil : OwnT K S H [] [] []
  | cons {k : List Key} {v : V} {vs : List (List Key × V)} {m : M} {ms : List (List Key × M)} {f g : List Addr} : OwnR K S H v m f → OwnT K S H vs ms g → OwnT K S H ((k, v) :: vs) ((k, m) :: ms) (f ++ g)
inductive OwnF (K : PySem.W.Frag) (S H : Hp) : List (Str × V) → List (Str × M) → List Addr → Prop
  | nil : OwnF K S H [] [] []
  | cons {k : Str} {v : V} {vs : List (Str × V)} {m : M} {ms : List (Str × M)} {f g : List Addr} : OwnR K S H v m f → OwnF K S H vs ms g → OwnF K S H ((k, v) :: vs) ((k, m) :: ms) (f ++ g)
end

section
variable {K : PySem.W.Frag} {S S' H H' : Hp}
mutual
/-- what is owned stays if its own objects stay -/
theorem OwnR.keep (e : Ex S S') : ∀ {v : V} {m : M} {fp : List Addr}, OwnR K S H v m fp → (∀ x ∈ fp, S' x = none) → (∀ x ∈ fp, ∀ o, H x = some o → H' x = some o) → OwnR K S' H' v m fp
  | _, _, _, .sh r, _, _ => .sh (r.mono e)
  | _, _, _, .lst h1 h2 r, a, b => .lst (a _ List.mem_cons_self) (b _ List.mem_cons_self _ h2) (OwnL.keep e r (fun x h => a x (List.mem_cons_of_mem _ h)) fun x h => b x (List.mem_cons_of_mem _ h))
  | _, _, _, .dic h1 h2 r, a, b => .dic (a _ List.mem_cons_self) (b _ List.mem_cons_self _ h2) (OwnK.keep e r (fun x h => a x (List.mem_cons_of_mem _ h)) fun x h => b x (List.mem_cons_of_mem _ h))
  | _, _, _, .dit h1 h2 r, a, b => .dit (a _ List.mem_cons_self) (b _ List.mem_cons_self _ h2) (OwnT.keep e r (fun x h => a x (List.mem_cons_of_mem _ h)) fun x h => b x (List.mem_cons_of_mem _ h))
  | _, _, _, .obj h1 h2 r, a, b => .obj (a _ List.mem_cons_self) (b _ List.mem_cons_self _ h2) (OwnF.keep e r (fun x h => a x (List.mem_cons_of_mem _ h)) fun x h => b x (List.mem_cons_of_mem _ h))
  | _, _, _, .ex p r, a, b => .ex p (OwnR.keep e r a b)
theorem OwnL.keep (e : Ex S S') : ∀ {v : List V} {m : List M} {fp : List Addr}, OwnL K S H v m fp → (∀ x ∈ fp, S' x = none) → (∀ x ∈ fp, ∀ o, H x = some o → H' x = some o) → OwnL K S' H' v m fp
  | _, _, _, .nil, _, _ => .nil
  | _, _, _, .cons h r, a, b => .cons (OwnR.keep e h (fun x q => a x (List.mem_append_left _ q)) fun x q => b x (List.mem_append_left _ q)) (OwnL.keep e r (fun x q => a x (List.mem_append_right _ q)) fun x q => b x (List.mem_append_right _ q))
theorem OwnK.keep (e : Ex S S') : ∀ {v : List (Key × V)} {m : List (Key × M)} {fp : List Addr}, OwnK K S H v m fp → (∀ x ∈ fp, S' x = none) → (∀ x ∈ fp, ∀ o, H x = some o → H' x = some o) → OwnK K S' H' v m fp
  | _, _, _, .nil, _, _ => .nil
  | _, _, _, .cons h r, a, b => .cons (OwnR.keep e h (fun x q => a x (List.mem_append_left _ q)) fun x q => b x (List.mem_append_left _ q)) (OwnK.keep e r (fun x q => a x (List.mem_append_right _ q)) fun x q => b x (List.mem_append_right _ q))
theorem OwnT.keep (e : Ex S S') : ∀ {v : List (List Key × V)} {m : List (List Key × M)} {fp : List Addr}, OwnT K S H v m fp → (∀ x ∈ fp, S' x = none) → (∀ x ∈ fp, ∀ o, H x = some o → H' x = some o) → OwnT K S' H' v m fp
  | _, _, _, .nil, _, _ => .nil
  | _, _, _, .cons h r, a, b => .cons (OwnR.keep e h (fun x q => a x (List.mem_append_left _ q)) fun x q => b x (List.mem_append_left _ q)) (OwnT.keep e r (fun x q => a x (List.mem_append_right _ q)) fun x q => b x (List.mem_append_right _ q))
theorem OwnF.keep (e : Ex S S') : ∀ {v : List (Str × V)} {m : List (Str × M)} {fp : List Addr}, OwnF K S H v m fp → (∀ x ∈ fp, S' x = none) → (∀ x ∈ fp, ∀ o, H x = some o → H' x = some o) → OwnF K S' H' v m fp
  | _, _, _, .nil, _, _ => .nil
  | _, _, _, .cons h r, a, b => .cons (OwnR.keep e h (fun x q => a x (List.mem_append_left _ q)) fun x q => b x (List.mem_append_left _ q)) (OwnF.keep e r (fun x q => a x (List.mem_append_right _ q)) fun x q => b x (List.mem_append_right _ q))
end
mutual
theorem OwnR.at_ : ∀ {v : V} {m : M} {fp : List Addr}, OwnR K S H v m fp → ∀ x ∈ fp, S x = none ∧ H x ≠ none
  | _, _, _, .sh _, _, q => nomatch q
  | _, _, _, .lst h1 h2 r, x, q => by
    rcases List.mem_cons.mp q with rfl | q
    · exact ⟨h1, by rw [h2]; exact Option.some_ne_none _⟩
    · exact OwnL.at_ r x q
  | _, _, _, .dic h1 h2 r, x, q => by
    rcases List.mem_cons.mp q with rfl | q
    · exact ⟨h1, by rw [h2]; exact Option.some_ne_none _⟩
    · exact OwnK.at_ r x q
  | _, _, _, .dit h1 h2 r, x, q => by
    rcases List.mem_cons.mp q with rfl | q
    · exact ⟨h1, by rw [h2]; exact Option.some_ne_none _⟩
    · exact OwnT.at_ r x q
  | _, _, _, .obj h1 h2 r, x, q => by
    rcases List.mem_cons.mp q with rfl | q
    · exact ⟨h1, by rw [h2]; exact Option.some_ne_none _⟩
    · exact OwnF.at_ r x q
  | _, _, _, .ex _ r, x, q => OwnR.at_ r x q
theorem OwnL.at_ : ∀ {v : List V} {m : List M} {fp : List Addr}, OwnL K S H v m fp → ∀ x ∈ fp, S x = none ∧ H x ≠ none
  | _, _, _, .nil, _, q => nomatch q
  | _, _, _, .cons h r, x, q => (List.mem_append.mp q).elim (OwnR.at_ h x) (OwnL.at_ r x)
theorem OwnK.at_ : ∀ {v : List (Key × V)} {m : List (Key × M)} {fp : List Addr}, OwnK K S H v m fp → ∀ x ∈ fp, S x = none ∧ H x ≠ none
  | _, _, _, .nil, _, q => nomatch q
  | _, _, _, .cons h r, x, q => (List.mem_append.mp q).elim (OwnR.at_ h x) (OwnK.at_ r x)
theorem OwnT.at_ : ∀ {v : List (List Key × V)} {m : List (List Key × M)} {fp : List Addr}, OwnT K S H v m fp → ∀ x ∈ fp, S x = none ∧ H x ≠ none
  | _, _, _, .nil, _, q => nomatch q
  | _, _, _, .cons h r, x, q => (List.mem_append.mp q).elim (OwnR.at_ h x) (OwnT.at_ r x)
theorem OwnF.at_ : ∀ {v : List (Str × V)} {m : List (Str × M)} {fp : List Addr}, OwnF K S H v m fp → ∀ x ∈ fp, S x = none ∧ H x ≠ none
  | _, _, _, .nil, _, q => nomatch q
  | _, _, _, .cons h r, x, q => (List.mem_append.mp q).elim (OwnR.at_ h x) (OwnF.at_ r x)
end
end

/-! ### worlds -/
/-- S: what stays as it is; H: all that is tracked; F: what is owned -/
structure Wd where
  S : Hp
  H : Hp
  F : List Addr
def Dct (o : HO) : Prop := (∃ kvs, o = .dK kvs) ∨ ∃ kvs, o = .dT kvs
/-- S stands in H; a dict perhaps locked -/
def Sub (S H : Hp) : Prop := ∀ a o, S a = some o → H a = some o ∨ (Dct o ∧ ∃ ob, H a = some (.frz ob o))
/-- a later world -/
structure Le (w w' : Wd) : Prop where
  s : Ex w.S w'.S
  h : ∀ x o, w.H x = some o → x ∉ w.F → w'.H x = some o
  n : ∀ x, w.H x ≠ none → x ∉ w.F → w.S x = none → w'.S x = none
  f : ∀ x ∈ w'.F, x ∈ w.F ∨ w.H x = none
theorem Le.refl (w : Wd) : Le w w := ⟨Ex.refl _, fun _ _ h _ => h, fun _ _ _ h => h, fun _ h => .inl h⟩
theorem Le.trans {w w1 w2 : Wd} (a : Le w w1) (b : Le w1 w2) : Le w w2 := by
  have nf : ∀ x, w.H x ≠ none → x ∉ w.F → x ∉ w1.F := fun x h1 h2 h3 => (a.f x h3).elim h2 h1
  refine ⟨a.s.trans b.s, fun x o h1 h2 => b.h x o (a.h x o h1 h2) (nf x (by rw [h1]; exact Option.some_ne_none _) h2), fun x h1 h2 h3 => ?_, fun x hx => ?_⟩
  · have e : w1.H x ≠ none := by
      cases q : w.H x with
      | none => exact absurd q h1
      | some o => rw [a.h x o q h2]; exact Option.some_ne_none _
    exact b.n x e (nf x h1 h2) (a.n x h1 h2 h3)
  · rcases b.f x hx with q | q
    · exact a.f x q
    · by_cases hf : x ∈ w.F
      · exact .inl hf
      · refine .inr ?_
        cases e : w.H x with
        | none => rfl
        | some o => rw [a.h x o e hf] at q; cases q
/-- a later world in which nothing that is owned has changed -/
structure LeP (w w' : Wd) : Prop where
  s : Ex w.S w'.S
  h : Ex w.H w'.H
  n : ∀ x, w.H x ≠ none → w.S x = none → w'.S x = none
  f : w'.F = w.F
theorem LeP.le {w w' : Wd} (a : LeP w w') : Le w w' := ⟨a.s, fun x o h _ => a.h x o h, fun x h _ q => a.n x h q, fun x h => .inl (a.f ▸ h)⟩
theorem LeP.refl (w : Wd) : LeP w w := ⟨Ex.refl _, Ex.refl _, fun _ _ h => h, rfl⟩
theorem LeP.trans {w w1 w2 : Wd} (a : LeP w w1) (b : LeP w1 w2) : LeP w w2 := by
  refine ⟨a.s.trans b.s, a.h.trans b.h, fun x h q => b.n x ?_ (a.n x h q), b.f.trans a.f⟩
  cases e : w.H x with
  | none => exact absurd e h
  | some o => rw [a.h x o e]; exact Option.some_ne_none _

section
variable {K : PySem.W.Frag} {S H : Hp} {a : Addr}
theorem Sub.rd {u : HO} (e : Sub S H) (h : Rd S a u) (hu : ∀ o v, u ≠ .frz o v) : Rd H a u := by
  rcases h with h | ⟨o, h⟩
  · rcases e _ _ h with q | ⟨_, ob, q⟩
    · exact .inl q
    · exact .inr ⟨ob, q⟩
  · rcases e _ _ h with q | ⟨d, _⟩
    · exact .inr ⟨o, q⟩
    · rcases d with ⟨_, z⟩ | ⟨_, z⟩ <;> cases z
theorem Sub.sl {xs : List V} (e : Sub S H) (h : SqL K S a xs) : SqL K H a xs := h.imp (fun q => e.rd q (fun _ _ z => by cases z)) id
theorem Sub.st {xs : List V} (e : Sub S H) (h : SqT K S a xs) : SqT K H a xs := h.imp (fun q => e.rd q (fun _ _ z => by cases z)) id
theorem Sub.dk {xs : List (Key × V)} (e : Sub S H) (h : Rd S a (.dK xs)) : Rd H a (.dK xs) := e.rd h (fun _ _ z => by cases z)
theorem Sub.dt {xs : List (List Key × V)} (e : Sub S H) (h : Rd S a (.dT xs)) : Rd H a (.dT xs) := e.rd h (fun _ _ z => by cases z)
theorem Sub.ins {C dx : Addr} {fs : List (Str × V)} (e : Sub S H) (h : S a = some (.ins C dx fs)) : H a = some (.ins C dx fs) := by
  rcases e _ _ h with q | ⟨d, _⟩
  · exact q
  · rcases d with ⟨_, z⟩ | ⟨_, z⟩ <;> cases z
theorem Sub.xd {fs : List (Str × V)} (e : Sub S H) (h : S a = some (.xd fs)) : H a = some (.xd fs) := by
  rcases e _ _ h with q | ⟨d, _⟩
  · exact q
  · rcases d with ⟨_, z⟩ | ⟨_, z⟩ <;> cases z
theorem Sub.tupE {xs : List V} (e : Sub S H) (h : S a = some (.tup xs)) : H a = some (.tup xs) := by
  rcases e _ _ h with q | ⟨d, _⟩
  · exact q
  · rcases d with ⟨_, z⟩ | ⟨_, z⟩ <;> cases z
theorem Sub.free (e : Sub S H) (h : H a = none) : S a = none := by
  cases q : S a with
  | none => rfl
  | some o =>
    rcases e _ _ q with z | ⟨_, _, z⟩ <;> (rw [h] at z; cases z)
end

/-! ### environments -/
abbrev Env := List (Option M)
inductive EnvR (K : PySem.W.Frag) (S H : Hp) : St → Env → List (List Addr) → Prop
  | nil : EnvR K S H [] [] []
  | no {x : Option V} {σ : St} {ρ : Env} {fps : List (List Addr)} : EnvR K S H σ ρ fps → EnvR K S H (x :: σ) (none :: ρ) ([] :: fps)
  | ow {v : V} {m : M} {fp : List Addr} {σ : St} {ρ : Env} {fps : List (List Addr)} : OwnR K S H v m fp → EnvR K S H σ ρ fps → EnvR K S H (some v :: σ) (some m :: ρ) (fp :: fps)

/-- where a judgement stands: slots that keep their objects, what is wished of an exception, and by the data what may be raised -/
structure Gx where
  K : PySem.W.Frag
  px : List Nat
  pv : Nat → V
  Wx : WX
  er : Str → List (Str × D) → Env → Prop

/-- fx: owned beside the names -/
structure OkE (G : Gx) (w : Wd) (σ : St) (ρ : Env) (fx : List Addr) : Prop where
  sub : Sub w.S w.H
  env : ∃ fps, EnvR G.K w.S w.H σ ρ fps ∧ w.F = fps.flatten ++ fx
  nd : w.F.Nodup
  px : ∀ i ∈ G.px, σ[i]? = some (some (G.pv i))
abbrev Ok (G : Gx) (w : Wd) (σ : St) (ρ : Env) : Prop := OkE G w σ ρ []

theorem EnvR.keep {K : PySem.W.Frag} {S S' H H' : Hp} (e : Ex S S') : ∀ {σ : St} {ρ : Env} {fps : List (List Addr)}, EnvR K S H σ ρ fps → (∀ x ∈ fps.flatten, S' x = none) → (∀ x ∈ fps.flatten, ∀ o, H x = some o → H' x = some o) → EnvR K S' H' σ ρ fps
  | _, _, _, .nil, _, _ => .nil
  | _, _, _, .no r, a, b => .no (EnvR.keep e r (fun x q => a x (by simpa using q)) fun x q => b x (by simpa using q))
  | _, _, _, .ow h r, a, b => .ow (h.keep e (fun x q => a x (by rw [List.flatten_cons]; exact List.mem_append_left _ q)) fun x q => b x (by rw [List.flatten_cons]; exact List.mem_append_left _ q))
      (EnvR.keep e r (fun x q => a x (by rw [List.flatten_cons]; exact List.mem_append_right _ q)) fun x q => b x (by rw [List.flatten_cons]; exact List.mem_append_right _ q))
theorem EnvR.at_ {K : PySem.W.Frag} {S H : Hp} : ∀ {σ : St} {ρ : Env} {fps : List (List Addr)}, EnvR K S H σ ρ fps → ∀ x ∈ fps.flatten, S x = none ∧ H x ≠ none
  | _, _, _, .nil, _, q => by simp at q
  | _, _, _, .no r, x, q => EnvR.at_ r x (by simpa using q)
  | _, _, _, .ow h r, x, q => by
    rw [List.flatten_cons] at q
    exact (List.mem_append.mp q).elim (h.at_ x) (EnvR.at_ r x)
theorem EnvR.len {K : PySem.W.Frag} {S H : Hp} : ∀ {σ : St} {ρ : Env} {fps : List (List Addr)}, EnvR K S H σ ρ fps → σ.length = ρ.length
  | _, _, _, .nil => rfl
  | _, _, _, .no r => by rw [List.length_cons, List.length_cons, EnvR.len r]
  | _, _, _, .ow _ r => by rw [List.length_cons, List.length_cons, EnvR.len r]
/-- the i-th name, and what is owned by it -/
theorem EnvR.get {K : PySem.W.Frag} {S H : Hp} : ∀ {σ : St} {ρ : Env} {fps : List (List Addr)} {i : Nat} {m : M}, EnvR K S H σ ρ fps → ρ[i]? = some (some m) → ∃ v fp, σ[i]? = some (some v) ∧ fps[i]? = some fp ∧ OwnR K S H v m fp
  | _, _, _, i, _, .nil, h => by simp at h
  | _, _, _, 0, _, .no r, h => by simp at h
  | _, _, _, i + 1, _, .no r, h => by
    obtain ⟨v, fp, h1, h2, h3⟩ := EnvR.get (i := i) r (by simpa using h)
    exact ⟨v, fp, by simpa using h1, by simpa using h2, h3⟩
  | _, _, _, 0, _, .ow q r, h => by
    have e := Option.some.inj (Option.some.inj (by simpa using h))
    subst e
    exact ⟨_, _, rfl, rfl, q⟩
  | _, _, _, i + 1, _, .ow q r, h => by
    obtain ⟨v, fp, h1, h2, h3⟩ := EnvR.get (i := i) r (by simpa using h)
    exact ⟨v, fp, by simpa using h1, by simpa using h2, h3⟩
/-- another thing at the i-th name -/
theorem EnvR.set {K : PySem.W.Frag} {S H : Hp} : ∀ {σ : St} {ρ : Env} {fps : List (List Addr)} (i : Nat) {v : V} {m : M} {fp : List Addr}, EnvR K S H σ ρ fps → OwnR K S H v m fp → EnvR K S H (σ.set i (some v)) (ρ.set i (some m)) (fps.set i fp)
  | _, _, _, _, _, _, _, .nil, _ => .nil
  | _, _, _, 0, _, _, _, .no r, q => .ow q r
  | _, _, _, i + 1, _, _, _, .no r, q => .no (EnvR.set i r q)
  | _, _, _, 0, _, _, _, .ow _ r, q => .ow q r
  | _, _, _, i + 1, _, _, _, .ow h r, q => .ow h (EnvR.set i r q)
theorem EnvR.unset {K : PySem.W.Frag} {S H : Hp} : ∀ {σ : St} {ρ : Env} {fps : List (List Addr)} (i : Nat) (x : Option V), EnvR K S H σ ρ fps → EnvR K S H (σ.set i x) (ρ.set i none) (fps.set i [])
  | _, _, _, _, _, .nil => .nil
  | _, _, _, 0, _, .no r => .no r
  | _, _, _, i + 1, _, .no r => .no (EnvR.unset i _ r)
  | _, _, _, 0, _, .ow _ r => .no r
  | _, _, _, i + 1, _, .ow h r => .ow h (EnvR.unset i _ r)
/-- a name is forgotten -/
theorem EnvR.forget {K : PySem.W.Frag} {S H : Hp} : ∀ {σ : St} {ρ : Env} {fps : List (List Addr)} (i : Nat), EnvR K S H σ ρ fps → EnvR K S H σ (ρ.set i none) (fps.set i [])
  | _, _, _, _, .nil => .nil
  | _, _, _, 0, .no r => .no r
  | _, _, _, i + 1, .no r => .no (EnvR.forget i r)
  | _, _, _, 0, .ow _ r => .no r
  | _, _, _, i + 1, .ow h r => .ow h (EnvR.forget i r)

/-- lists of addresses: the i-th exchanged -/
theorem mem_flatten_set {α : Type} : ∀ {l : List (List α)} {i : Nat} {f : List α} {x : α}, x ∈ (l.set i f).flatten → x ∈ l.flatten ∨ x ∈ f
  | [], _, _, _, none_there => by simp at none_there
  | a :: r, 0, f, x, h => by
    rw [List.set_cons_zero, List.flatten_cons] at h
    rcases (List.mem_append.mp h) with q | q
    · exact .inr q
    · exact .inl (by rw [List.flatten_cons]; exact List.mem_append_right _ q)
  | a :: r, i + 1, f, x, h => by
    rw [List.set_cons_succ, List.flatten_cons] at h
    rcases (List.mem_append.mp h) with q | q
    · exact .inl (by rw [List.flatten_cons]; exact List.mem_append_left _ q)
    · rcases mem_flatten_set q with z | z
      · exact .inl (by rw [List.flatten_cons]; exact List.mem_append_right _ z)
      · exact .inr z
theorem nodup_flatten_set {α : Type} : ∀ {l : List (List α)} {i : Nat} {f : List α}, l.flatten.Nodup → f.Nodup → (∀ x ∈ f, x ∉ (l.set i []).flatten) → (l.set i f).flatten.Nodup
  | [], _, _, _, _, _ => by simp
  | a :: r, 0, f, h, hf, d => by
    rw [List.set_cons_zero, List.flatten_cons] at d ⊢
    rw [List.flatten_cons] at h
    rw [List.nil_append] at d
    exact List.nodup_append.mpr ⟨hf, (List.nodup_append.mp h).2.1, fun x hx y hy z => d x hx (z ▸ hy)⟩
  | a :: r, i + 1, f, h, hf, d => by
    rw [List.set_cons_succ, List.flatten_cons] at d ⊢
    rw [List.flatten_cons] at h
    obtain ⟨h1, h2, h3⟩ := List.nodup_append.mp h
    refine List.nodup_append.mpr ⟨h1, nodup_flatten_set h2 hf fun x hx q => d x hx (List.mem_append_right _ q), fun x hx y hy z => ?_⟩
    subst z
    rcases mem_flatten_set hy with q | q
    · exact h3 x hx x q rfl
    · exact d x q (List.mem_append_left _ hx)
theorem mem_flatten_nil {α : Type} : ∀ {l : List (List α)} {i : Nat} {x : α}, x ∈ (l.set i []).flatten → x ∈ l.flatten := fun {l i x} h => (mem_flatten_set h).elim id fun q => by cases q
/-- apart: what the i-th has, and the others -/
theorem flatten_apart {α : Type} : ∀ {l : List (List α)} {i : Nat} {f : List α}, l.flatten.Nodup → l[i]? = some f → ∀ x ∈ f, x ∉ (l.set i []).flatten
  | [], _, _, _, none_there => by simp at none_there
  | a :: r, 0, f, h, e => by
    have e2 : a = f := Option.some.inj (by simpa using e)
    subst e2
    rw [List.flatten_cons] at h
    obtain ⟨_, _, h3⟩ := List.nodup_append.mp h
    intro x hx q
    rw [List.set_cons_zero, List.flatten_cons, List.nil_append] at q
    exact h3 x hx x q rfl
  | a :: r, i + 1, f, h, e => by
    rw [List.flatten_cons] at h
    obtain ⟨_, h2, h3⟩ := List.nodup_append.mp h
    have e2 : r[i]? = some f := by simpa using e
    intro x hx q
    rw [List.set_cons_succ, List.flatten_cons] at q
    rcases List.mem_append.mp q with q | q
    · exact h3 x q x (List.mem_flatten.mpr ⟨f, List.mem_of_getElem? e2, hx⟩) rfl
    · exact flatten_apart h2 e2 x hx q
theorem mem_flatten_get {α : Type} {l : List (List α)} {i : Nat} {f : List α} (e : l[i]? = some f) {x : α} (h : x ∈ f) : x ∈ l.flatten := List.mem_flatten.mpr ⟨f, List.mem_of_getElem? e, h⟩

/-! ### growing -/
section
variable {G : Gx} {w w' : Wd} {σ : St} {ρ : Env} {fx : List Addr}
theorem OkE.at_ (o : Ok G w σ ρ) : ∀ x ∈ w.F, w.S x = none ∧ w.H x ≠ none := by
  obtain ⟨fps, h, e⟩ := o.env
  rw [e, List.append_nil]
  exact h.at_
theorem OkE.grow (o : Ok G w σ ρ) (l : LeP w w') (s : Sub w'.S w'.H) : Ok G w' σ ρ := by
  have at_ := o.at_
  obtain ⟨fps, h, e⟩ := o.env
  rw [e, List.append_nil] at at_
  exact ⟨s, ⟨fps, h.keep l.s (fun x q => l.n x (at_ x q).2 (at_ x q).1) (fun x _ o ho => l.h x o ho), l.f.trans e⟩, by rw [l.f]; exact o.nd, o.px⟩
/-- one more object that stays -/
def Wd.add (w : Wd) (p : Addr) (o : HO) : Wd := ⟨upd w.S p o, upd w.H p o, w.F⟩
theorem Ex.new {H : Hp} {p : Addr} {ob : HO} (h : H p = none) : Ex H (upd H p ob) := fun a u e => by
  rw [upd_ne (ne_of_none e h)]
  exact e
theorem Wd.le_add {p : Addr} {o : HO} (s : Sub w.S w.H) (h : w.H p = none) : LeP w (w.add p o) := ⟨Ex.new (s.free h), Ex.new h, fun x hx q => by
  have ne : x ≠ p := fun z => hx (z ▸ h)
  show upd w.S p o x = none
  rw [upd_ne ne]
  exact q, rfl⟩
theorem Wd.sub_add {p : Addr} {o : HO} (s : Sub w.S w.H) : Sub (w.add p o).S (w.add p o).H := fun a u e => by
  show upd w.H p o a = some u ∨ _
  have e2 : upd w.S p o a = some u := e
  by_cases z : a = p
  · subst z
    rw [upd_same] at e2
    exact .inl (by rw [upd_same]; exact e2)
  · rw [upd_ne z] at e2
    show _ ∨ (Dct u ∧ ∃ ob, upd w.H p o a = some (.frz ob u))
    rw [upd_ne z]
    exact s a u e2
end
end DL

namespace DL
open PySem L2

def ExcAt (K : PySem.W.Frag) (S : Hp) (c : Str) (fs : List (Str × D)) (d : Option Addr) : Prop := (fs = [] ∧ d = none) ∨ ∃ dd xs, d = some dd ∧ S dd = some (.xd xs) ∧ RepF K S xs fs
/-- what is wished of an exception is met from w on -/
def Esc (G : Gx) (w : Wd) : Prop := ∀ w' σ ρ' c fs d, G.er c fs ρ' → Le w w' → Ok G w' σ ρ' → ExcAt G.K w'.S c fs d → G.Wx (.ref (clsAt G.K c)) d σ w'.H
theorem Esc.later {G : Gx} {w w' : Wd} (e : Esc G w) (l : Le w w') : Esc G w' := fun w2 σ ρ' c fs d h l2 => e w2 σ ρ' c fs d h (l.trans l2)

/-- an expression gives data -/
def W (G : Gx) (te : TE) (ρ : Env) (P : D → Env → Prop) : Prop := ∀ w σ (Q : VK), Ok G w σ ρ → Esc G w → (∀ v w' d ρ', P d ρ' → Le w w' → Ok G w' σ ρ' → Rep G.K w'.S v d → Q v w'.H) → te σ w.H Q
/-- an expression gives something new that may be changed -/
def WO (G : Gx) (te : TE) (ρ : Env) (P : M → Env → Prop) : Prop := ∀ w σ (Q : VK), Ok G w σ ρ → Esc G w → (∀ v w' m ρ' fp, P m ρ' → Le w w' → OkE G w' σ ρ' fp → OwnR G.K w'.S w'.H v m fp → Q v w'.H) → te σ w.H Q
def WT (G : Gx) (tt : TT) (ρ : Env) (P : Bool → Env → Prop) : Prop := ∀ w σ (Q : Bool → Hp → Prop), Ok G w σ ρ → Esc G w → (∀ b w' ρ', P b ρ' → Le w w' → Ok G w' σ ρ' → Q b w'.H) → tt σ w.H Q
def WA (G : Gx) (ta : TA) (ρ : Env) (P : List D → Env → Prop) : Prop := ∀ w σ (Q : List V → Hp → Prop), Ok G w σ ρ → Esc G w → (∀ vs w' ds ρ', P ds ρ' → Le w w' → Ok G w' σ ρ' → RepL G.K w'.S vs ds → Q vs w'.H) → ta σ w.H Q
/-- what follows, by the data -/
structure Post where
  nx : Env → Prop
  rt : M → Env → Prop
  bk : Env → Prop := fun _ => False
  ct : Env → Prop := fun _ => False
structure Meets (G : Gx) (w : Wd) (D : Ends) (P : Post) : Prop where
  nx : ∀ w' σ' ρ', P.nx ρ' → Le w w' → Ok G w' σ' ρ' → D.nx σ' w'.H
  rt : ∀ v w' σ' m ρ' fp, P.rt m ρ' → Le w w' → OkE G w' σ' ρ' fp → OwnR G.K w'.S w'.H v m fp → D.rt v w'.H
  bk : ∀ w' σ' ρ', P.bk ρ' → Le w w' → Ok G w' σ' ρ' → D.bk σ' w'.H
  ct : ∀ w' σ' ρ', P.ct ρ' → Le w w' → Ok G w' σ' ρ' → D.ct σ' w'.H
def WS (G : Gx) (t : TS) (ρ : Env) (P : Post) : Prop := ∀ w σ D, Ok G w σ ρ → Esc G w → Meets G w D P → t D σ w.H
theorem Meets.later {G : Gx} {w w' : Wd} {D : Ends} {P : Post} (m : Meets G w D P) (l : Le w w') : Meets G w' D P :=
  ⟨fun w2 σ ρ h l2 => m.nx w2 σ ρ h (l.trans l2), fun v w2 σ a ρ fp h l2 => m.rt v w2 σ a ρ fp h (l.trans l2), fun w2 σ ρ h l2 => m.bk w2 σ ρ h (l.trans l2), fun w2 σ ρ h l2 => m.ct w2 σ ρ h (l.trans l2)⟩

section
variable {G : Gx} {te ta tb tc : TE} {t u c : TT} {ρ : Env} {P : D → Env → Prop} {i : Nat} {d x y z : D}

/-! ### names, constants -/
theorem Ok.get {w : Wd} {σ : St} (o : Ok G w σ ρ) (h : ρ[i]? = some (some (.sh d))) : ∃ v, σ[i]? = some (some v) ∧ Rep G.K w.S v d := by
  obtain ⟨fps, e, _⟩ := o.env
  obtain ⟨v, fp, h1, _, h3⟩ := e.get h
  cases h3 with
  | sh r => exact ⟨v, h1, r⟩
theorem w_var (h : ρ[i]? = some (some (.sh d))) (k : P d ρ) : W G (tVar i) ρ P := fun w σ Q o _ q => by
  obtain ⟨v, h1, r⟩ := o.get h
  exact ⟨v, h1, q v w d ρ k (Le.refl w) o r⟩
theorem w_int {n : Int} (k : P (.int n) ρ) : W G (tC (.int n)) ρ P := fun w _ _ o _ q => q _ w _ ρ k (Le.refl w) o (.int n)
theorem w_bl {b : Bool} (k : P (.bl b) ρ) : W G (tC (.bl b)) ρ P := fun w _ _ o _ q => q _ w _ ρ k (Le.refl w) o (.bl b)
theorem w_non (k : P .non ρ) : W G (tC .non) ρ P := fun w _ _ o _ q => q _ w _ ρ k (Le.refl w) o .non
theorem w_str {a : Str} (k : P (.str a) ρ) : W G (tC (.str a)) ρ P := fun w _ _ o _ q => q _ w _ ρ k (Le.refl w) o (.str a)
theorem w_ty {n : String} (k : P (.ty n) ρ) : W G (tC (.ty n)) ρ P := fun w _ _ o _ q => q _ w _ ρ k (Le.refl w) o (.ty n)
theorem w_fun {a : Addr} (k : P (.fun_ a) ρ) : W G (tC (.ref a)) ρ P := fun w _ _ o _ q => q _ w _ ρ k (Le.refl w) o (.fun_ a)
theorem W.imp {P' : D → Env → Prop} (h : W G te ρ P) (f : ∀ d ρ', P d ρ' → P' d ρ') : W G te ρ P' := fun w σ Q o e q => h w σ Q o e fun v w' d ρ' p => q v w' d ρ' (f d ρ' p)

/-! ### operations on values -/
/-- r on values that stand for x and y gives what stands for a z of k -/
def RD (K : PySem.W.Frag) (r : R2) (x y : D) (k : D → Prop) : Prop := ∀ w v u (Q : VK), Sub w.S w.H → Rep K w.S v x → Rep K w.S u y →
  (∀ z w' vz, k z → LeP w w' → Sub w'.S w'.H → Rep K w'.S vz z → Q vz w'.H) → r v u w.H Q
def RU (K : PySem.W.Frag) (r : V → Hp → VK → Prop) (x : D) (k : D → Prop) : Prop := ∀ w v (Q : VK), Sub w.S w.H → Rep K w.S v x →
  (∀ z w' vz, k z → LeP w w' → Sub w'.S w'.H → Rep K w'.S vz z → Q vz w'.H) → r v w.H Q
def RC (K : PySem.W.Frag) (r : List V → Hp → VK → Prop) (xs : List D) (k : D → Prop) : Prop := ∀ w vs (Q : VK), Sub w.S w.H → RepL K w.S vs xs →
  (∀ z w' vz, k z → LeP w w' → Sub w'.S w'.H → Rep K w'.S vz z → Q vz w'.H) → r vs w.H Q
theorem w_op {r : R2} (h : W G ta ρ fun x ρ1 => W G tb ρ1 fun y ρ2 => RD G.K r x y fun z => P z ρ2) : W G (tOp r ta tb) ρ P := fun w σ Q o e q =>
  h w σ _ o e fun v w1 x ρ1 h1 l1 o1 r1 => h1 w1 σ _ o1 (e.later l1) fun u w2 y ρ2 h2 l2 o2 r2 => h2 w2 v u _ o2.sub (r1.mono l2.s) r2 fun z w3 vz pz l3 s3 r3 =>
    q vz w3 z ρ2 pz ((l1.trans l2).trans l3.le) (o2.grow l3 s3) r3
theorem w_un {r : V → Hp → VK → Prop} (h : W G ta ρ fun x ρ1 => RU G.K r x fun z => P z ρ1) : W G (tUn r ta) ρ P := fun w σ Q o e q =>
  h w σ _ o e fun v w1 x ρ1 h1 l1 o1 r1 => h1 w1 v _ o1.sub r1 fun z w3 vz pz l3 s3 r3 => q vz w3 z ρ1 pz (l1.trans l3.le) (o1.grow l3 s3) r3
/-- the answer is a plain value -/
theorem rd_val {K : PySem.W.Frag} {r : R2} {k : D → Prop} (vz : V) (hz : ∀ S, Rep K S vz z) (p : k z) (h : ∀ (w : Wd) (v u : V) (Q : VK), Sub w.S w.H → Rep K w.S v x → Rep K w.S u y → Q vz w.H → r v u w.H Q) : RD K r x y k :=
  fun w v u Q s rx ry q => h w v u Q s rx ry (q z w vz p (LeP.refl w) s (hz _))

/-! ### tests -/
theorem Rep.bl_inv {K : PySem.W.Frag} {S : Hp} {v : V} {b : Bool} (r : Rep K S v (.bl b)) : v = .bl b := by cases r; rfl
theorem Rep.int_inv {K : PySem.W.Frag} {S : Hp} {v : V} {b : Int} (r : Rep K S v (.int b)) : v = .int b := by cases r; rfl
theorem Rep.str_inv {K : PySem.W.Frag} {S : Hp} {v : V} {b : Str} (r : Rep K S v (.str b)) : v = .str b := by cases r; rfl
theorem Rep.non_inv {K : PySem.W.Frag} {S : Hp} {v : V} (r : Rep K S v .non) : v = .non := by cases r; rfl
variable {PT : Bool → Env → Prop}
theorem wt_test (h : W G te ρ fun x ρ1 => ∃ b, x = .bl b ∧ PT b ρ1) : WT G (tTest te) ρ PT := fun w σ Q o e q =>
  h w σ _ o e fun v w1 x ρ1 ⟨b, ex, p⟩ l1 o1 r1 => by
    subst ex
    exact ⟨b, r1.bl_inv, q b w1 ρ1 p l1 o1⟩
theorem wt_B (h : W G te ρ fun x ρ1 => ∃ b, x = .bl b ∧ PT b ρ1) : WT G (tB te) ρ PT := wt_test h
theorem wt_and (h : WT G t ρ fun b ρ1 => if b = true then WT G u ρ1 PT else PT false ρ1) : WT G (tAnd t u) ρ PT := fun w σ Q o e q =>
  h w σ _ o e fun b w1 ρ1 p l1 o1 => by
    cases b with
    | true => exact p w1 σ Q o1 (e.later l1) fun b w2 ρ2 p2 l2 => q b w2 ρ2 p2 (l1.trans l2)
    | false => exact q false w1 ρ1 p l1 o1
theorem wt_or (h : WT G t ρ fun b ρ1 => if b = true then PT true ρ1 else WT G u ρ1 PT) : WT G (tOr t u) ρ PT := fun w σ Q o e q =>
  h w σ _ o e fun b w1 ρ1 p l1 o1 => by
    cases b with
    | false => exact p w1 σ Q o1 (e.later l1) fun b w2 ρ2 p2 l2 => q b w2 ρ2 p2 (l1.trans l2)
    | true => exact q true w1 ρ1 p l1 o1
theorem wt_not (h : WT G t ρ fun b ρ1 => PT (!b) ρ1) : WT G (tNot t) ρ PT := fun w σ Q o e q => h w σ _ o e fun b w1 ρ1 p l1 o1 => q (!b) w1 ρ1 p l1 o1
theorem WT.imp {PT' : Bool → Env → Prop} (h : WT G t ρ PT) (f : ∀ b ρ', PT b ρ' → PT' b ρ') : WT G t ρ PT' := fun w σ Q o e q => h w σ Q o e fun b w' ρ' p => q b w' ρ' (f b ρ' p)
theorem w_ifE (h : WT G t ρ fun b ρ1 => if b = true then W G ta ρ1 P else W G tb ρ1 P) : W G (tIf t ta tb) ρ P := fun w σ Q o e q =>
  h w σ _ o e fun b w1 ρ1 p l1 o1 => by
    cases b with
    | true => exact p w1 σ Q o1 (e.later l1) fun v w2 d ρ2 p2 l2 => q v w2 d ρ2 p2 (l1.trans l2)
    | false => exact p w1 σ Q o1 (e.later l1) fun v w2 d ρ2 p2 l2 => q v w2 d ρ2 p2 (l1.trans l2)
theorem w_andV (h : W G ta ρ fun x ρ1 => ∃ b, x = .bl b ∧ if b = true then W G tb ρ1 P else P (.bl false) ρ1) : W G (tAndV ta tb) ρ P := fun w σ Q o e q =>
  h w σ _ o e fun v w1 x ρ1 ⟨b, ex, p⟩ l1 o1 r1 => by
    subst ex
    refine ⟨b, r1.bl_inv, ?_⟩
    cases b with
    | true => exact p w1 σ Q o1 (e.later l1) fun v w2 d ρ2 p2 l2 => q v w2 d ρ2 p2 (l1.trans l2)
    | false => exact q _ w1 _ ρ1 p l1 o1 (.bl false)
theorem w_orV (h : W G ta ρ fun x ρ1 => ∃ b, x = .bl b ∧ if b = true then P (.bl true) ρ1 else W G tb ρ1 P) : W G (tOrV ta tb) ρ P := fun w σ Q o e q =>
  h w σ _ o e fun v w1 x ρ1 ⟨b, ex, p⟩ l1 o1 r1 => by
    subst ex
    refine ⟨b, r1.bl_inv, ?_⟩
    cases b with
    | false => exact p w1 σ Q o1 (e.later l1) fun v w2 d ρ2 p2 l2 => q v w2 d ρ2 p2 (l1.trans l2)
    | true => exact q _ w1 _ ρ1 p l1 o1 (.bl true)
theorem w_notV (h : W G ta ρ fun x ρ1 => ∃ b, x = .bl b ∧ P (.bl (!b)) ρ1) : W G (tNotV ta) ρ P := fun w σ Q o e q =>
  h w σ _ o e fun v w1 x ρ1 ⟨b, ex, p⟩ l1 o1 r1 => by
    subst ex
    exact ⟨b, r1.bl_inv, q _ w1 _ ρ1 p l1 o1 (.bl _)⟩
theorem w_chain {r r' : R2} (h : W G ta ρ fun x ρ1 => W G tb ρ1 fun y ρ2 => RD G.K r x y fun z => ∃ b, z = .bl b ∧ if b = true then W G tc ρ2 fun x3 ρ3 => RD G.K r' y x3 fun z' => P z' ρ3 else P (.bl false) ρ2) : W G (tChain r r' ta tb tc) ρ P := fun w σ Q o e q =>
  h w σ _ o e fun v w1 x ρ1 h1 l1 o1 r1 => h1 w1 σ _ o1 (e.later l1) fun u w2 y ρ2 h2 l2 o2 r2 => h2 w2 v u _ o2.sub (r1.mono l2.s) r2 fun z w3 vz pz l3 s3 r3 => by
    obtain ⟨b, ez, p⟩ := pz
    subst ez
    have o3 := o2.grow l3 s3
    have l03 := (l1.trans l2).trans l3.le
    refine ⟨b, r3.bl_inv, ?_⟩
    cases b with
    | true => exact p w3 σ _ o3 (e.later l03) fun v4 w4 x4 ρ4 h4 l4 o4 r4 => h4 w4 u v4 Q o4.sub ((r2.mono l3.s).mono l4.s) r4 fun z w5 vz pz l5 s5 r5 => q vz w5 z ρ4 pz ((l03.trans l4).trans l5.le) (o4.grow l5 s5) r5
    | false => exact q _ w3 _ ρ2 p l03 o3 (.bl false)

/-! ### arguments, displays -/
variable {PA : List D → Env → Prop} {tr t1 : TA}
theorem wa_nil (k : PA [] ρ) : WA G tNil ρ PA := fun w _ _ o _ q => q [] w [] ρ k (Le.refl w) o .nil
theorem wa_cons (h : W G ta ρ fun x ρ1 => WA G tr ρ1 fun xs ρ2 => PA (x :: xs) ρ2) : WA G (tCons ta tr) ρ PA := fun w σ Q o e q =>
  h w σ _ o e fun v w1 x ρ1 h1 l1 o1 r1 => h1 w1 σ _ o1 (e.later l1) fun vs w2 xs ρ2 h2 l2 o2 r2 => q (v :: vs) w2 (x :: xs) ρ2 h2 (l1.trans l2) o2 (.cons (r1.mono l2.s) r2)
theorem RepL.len {K : PySem.W.Frag} {S : Hp} : ∀ {vs : List V} {ds : List D}, RepL K S vs ds → vs.length = ds.length
  | _, _, .nil => rfl
  | _, _, .cons _ r => by rw [List.length_cons, List.length_cons, RepL.len r]
theorem sz_of {n : Nat} (few : n ≤ 100000) : n ≤ sizeLine := Nat.le_trans few (by decide)
theorem w_tup (h : WA G t1 ρ fun xs ρ1 => xs.length ≤ 100000 ∧ P (.tup xs) ρ1) : W G (tTup t1) ρ P := fun w σ Q o e q =>
  h w σ _ o e fun vs w1 xs ρ1 ⟨hl, p⟩ l1 o1 r1 => ⟨sz_of (by rw [r1.len]; exact hl), fun a ha => by
    have l2 := Wd.le_add (o := .tup vs) o1.sub ha
    have s2 := Wd.sub_add (p := a) (o := .tup vs) o1.sub
    exact q (.ref a) (w1.add a (.tup vs)) _ ρ1 p (l1.trans l2.le) (o1.grow l2 s2) (.tup (SqT.of upd_same) (r1.mono l2.s))⟩
theorem w_lst (h : WA G t1 ρ fun xs ρ1 => xs.length ≤ 100000 ∧ P (.lst xs) ρ1) : W G (tLst t1) ρ P := fun w σ Q o e q =>
  h w σ _ o e fun vs w1 xs ρ1 ⟨hl, p⟩ l1 o1 r1 => ⟨sz_of (by rw [r1.len]; exact hl), fun a ha => by
    have l2 := Wd.le_add (o := .lst vs) o1.sub ha
    have s2 := Wd.sub_add (p := a) (o := .lst vs) o1.sub
    exact q (.ref a) (w1.add a (.lst vs)) _ ρ1 p (l1.trans l2.le) (o1.grow l2 s2) (.lst (.inl upd_same) (r1.mono l2.s))⟩
/-- something new that is owned -/
def Wd.own (w : Wd) (p : Addr) (o : HO) : Wd := ⟨w.S, upd w.H p o, w.F ++ [p]⟩
theorem Wd.le_own {w : Wd} {p : Addr} {o : HO} (h : w.H p = none) : Le w (w.own p o) := ⟨Ex.refl _, fun x u hx _ => Ex.new h x u hx, fun _ _ _ q => q, fun x hx => by
  rcases List.mem_append.mp hx with z | z
  · exact .inl z
  · obtain rfl : x = p := by simpa using z
    exact .inr h⟩
theorem Wd.sub_own {w : Wd} {p : Addr} {o : HO} (s : Sub w.S w.H) (h : w.H p = none) : Sub (w.own p o).S (w.own p o).H := fun a u e => by
  have z : a ≠ p := fun z => by
    have q := s.free h
    rw [← z] at q
    rw [show w.S a = some u from e] at q
    cases q
  show upd w.H p o a = some u ∨ (Dct u ∧ ∃ ob, upd w.H p o a = some (.frz ob u))
  rw [upd_ne z]
  exact s a u e
theorem OkE.own {w : Wd} {σ : St} {p : Addr} {o : HO} (k : Ok G w σ ρ) (h : w.H p = none) : OkE G (w.own p o) σ ρ [p] := by
  have at_ := k.at_
  obtain ⟨fps, e, f⟩ := k.env
  have f2 : w.F = fps.flatten := by rw [f, List.append_nil]
  refine ⟨Wd.sub_own k.sub h, ⟨fps, e.keep (Ex.refl _) (fun x q => (at_ x (f2 ▸ q)).1) (fun x _ u hu => Ex.new h x u hu), by show w.F ++ [p] = _; rw [f2]⟩, ?_, k.px⟩
  show (w.F ++ [p]).Nodup
  refine List.nodup_append.mpr ⟨k.nd, by simp, fun x hx y hy z => ?_⟩
  obtain rfl : y = p := by simpa using hy
  subst z
  exact (at_ x hx).2 h
theorem ownL_of {K : PySem.W.Frag} {S H : Hp} : ∀ {vs : List V} {ds : List D}, RepL K S vs ds → OwnL K S H vs (ds.map .sh) []
  | _, _, .nil => .nil
  | _, _, .cons r q => OwnL.cons (f := []) (g := []) (.sh r) (ownL_of q)
variable {PO : M → Env → Prop}
theorem wo_lst (h : WA G t1 ρ fun xs ρ1 => xs.length ≤ 100000 ∧ PO (.lst (xs.map .sh)) ρ1) : WO G (tLst t1) ρ PO := fun w σ Q o e q =>
  h w σ _ o e fun vs w1 xs ρ1 ⟨hl, p⟩ l1 o1 r1 => ⟨sz_of (by rw [r1.len]; exact hl), fun a ha => by
    exact q (.ref a) (w1.own a (.lst vs)) _ ρ1 [a] p (l1.trans (Wd.le_own ha)) (o1.own ha) (.lst (o1.sub.free ha) upd_same (ownL_of r1))⟩
theorem wo_sh (h : W G te ρ fun d ρ1 => PO (.sh d) ρ1) : WO G te ρ PO := fun w σ Q o e q => h w σ Q o e fun v w1 d ρ1 p l1 o1 r1 => q v w1 _ ρ1 [] p l1 o1 (.sh r1)
end
end DL

namespace DL
open PySem L2

/-! ### environments that know less -/
def Drops (ρ' ρ : Env) : Prop := ρ'.length = ρ.length ∧ ∀ (j : Nat) (m : M), ρ'[j]? = some (some m) → ρ[j]? = some (some m)
theorem EnvR.congr {K : PySem.W.Frag} {S H : Hp} : ∀ {σ : St} {ρ : Env} {fps : List (List Addr)} {σ' : St} {ρ' : Env}, EnvR K S H σ ρ fps → σ'.length = σ.length → ρ'.length = ρ.length →
    (∀ (j : Nat) (m : M), ρ'[j]? = some (some m) → ρ[j]? = some (some m) ∧ σ'[j]? = σ[j]?) → ∃ fps', EnvR K S H σ' ρ' fps' ∧ fps'.flatten.Sublist fps.flatten
  | [], _, _, σ', ρ', .nil, h1, h2, _ => by
    obtain rfl : σ' = [] := List.eq_nil_of_length_eq_zero h1
    obtain rfl : ρ' = [] := List.eq_nil_of_length_eq_zero h2
    exact ⟨[], .nil, List.Sublist.refl _⟩
  | _ :: _, _ :: _, _, [], _, _, h1, _, _ => by simp at h1
  | _ :: _, _ :: _, _, _ :: _, [], _, _, h2, _ => by simp at h2
  | x :: σ, none :: ρ, _, y :: σ', b :: ρ', .no (fps := fps) r, h1, h2, h => by
    obtain ⟨fps', e, s⟩ := EnvR.congr r (σ' := σ') (ρ' := ρ') (by simpa using h1) (by simpa using h2) fun j m q => by
      have z := h (j + 1) m (by simpa using q)
      simpa using z
    cases b with
    | none => exact ⟨[] :: fps', .no e, by simpa using s⟩
    | some m => have z := (h 0 m rfl).1; simp at z
  | some v0 :: σ, some m0 :: ρ, _, y :: σ', b :: ρ', .ow (fp := fp) (fps := fps) q r, h1, h2, h => by
    obtain ⟨fps', e, s⟩ := EnvR.congr r (σ' := σ') (ρ' := ρ') (by simpa using h1) (by simpa using h2) fun j m q => by
      have z := h (j + 1) m (by simpa using q)
      simpa using z
    cases b with
    | none => exact ⟨[] :: fps', .no e, by
        rw [List.flatten_cons, List.flatten_cons]
        exact List.Sublist.trans s (List.sublist_append_right _ _)⟩
    | some m =>
      obtain ⟨z1, z2⟩ := h 0 m rfl
      have e1 := Option.some.inj (Option.some.inj (by simpa using z1))
      have e2 := Option.some.inj (by simpa using z2)
      subst e1
      rw [e2]
      exact ⟨fp :: fps', .ow q e, by
        rw [List.flatten_cons, List.flatten_cons]
        exact List.Sublist.append (List.Sublist.refl _) s⟩
section
variable {G : Gx} {ρ ρ' : Env} {w : Wd} {σ σ' : St}
/-- the same world, of which less is owned -/
def Wd.less (w : Wd) (F : List Addr) : Wd := ⟨w.S, w.H, F⟩
theorem Wd.le_less {F : List Addr} (h : ∀ x ∈ F, x ∈ w.F) : Le w (w.less F) := ⟨Ex.refl _, fun _ _ h _ => h, fun _ _ _ h => h, fun x hx => .inl (h x hx)⟩
theorem OkE.congr (o : Ok G w σ ρ) (h1 : σ'.length = σ.length) (h2 : ρ'.length = ρ.length) (h : ∀ (j : Nat) (m : M), ρ'[j]? = some (some m) → ρ[j]? = some (some m) ∧ σ'[j]? = σ[j]?) (hp : ∀ i ∈ G.px, σ'[i]? = σ[i]?) :
    ∃ w', Le w w' ∧ w'.S = w.S ∧ w'.H = w.H ∧ (∀ x ∈ w'.F, x ∈ w.F) ∧ Ok G w' σ' ρ' := by
  obtain ⟨fps, e, f⟩ := o.env
  obtain ⟨fps', e', s⟩ := e.congr h1 h2 h
  have f2 : w.F = fps.flatten := by rw [f, List.append_nil]
  have sub : ∀ x ∈ fps'.flatten, x ∈ w.F := fun x hx => f2 ▸ s.subset hx
  exact ⟨w.less fps'.flatten, Wd.le_less sub, rfl, rfl, sub, o.sub, ⟨fps', e', by show fps'.flatten = _; rw [List.append_nil]⟩, by
    show fps'.flatten.Nodup
    have nd := o.nd
    rw [f2] at nd
    exact nd.sublist s, fun i hi => by rw [hp i hi]; exact o.px i hi⟩
theorem Ok.drop (o : Ok G w σ ρ) (d : Drops ρ' ρ) : ∃ w', Le w w' ∧ w'.S = w.S ∧ w'.H = w.H ∧ (∀ x ∈ w'.F, x ∈ w.F) ∧ Ok G w' σ ρ' := OkE.congr o rfl d.1 (fun j m q => ⟨d.2 j m q, rfl⟩) fun _ _ => rfl
theorem OkE.len (o : Ok G w σ ρ) : σ.length = ρ.length := by
  obtain ⟨fps, e, _⟩ := o.env
  exact e.len
/-- data at a name -/
theorem OkE.setSh {i : Nat} {v : V} {d : D} (o : Ok G w σ ρ) (r : Rep G.K w.S v d) (hi : i ∉ G.px) : ∃ w', Le w w' ∧ w'.S = w.S ∧ w'.H = w.H ∧ (∀ x ∈ w'.F, x ∈ w.F) ∧ Ok G w' (σ.set i (some v)) (ρ.set i (some (.sh d))) := by
  obtain ⟨fps, e, f⟩ := o.env
  have f2 : w.F = fps.flatten := by rw [f, List.append_nil]
  have sub : ∀ x ∈ (fps.set i []).flatten, x ∈ w.F := fun x hx => f2 ▸ mem_flatten_nil hx
  refine ⟨w.less (fps.set i []).flatten, Wd.le_less sub, rfl, rfl, sub, o.sub, ⟨_, e.set i (.sh r), by show (fps.set i []).flatten = _; rw [List.append_nil]⟩, ?_, fun j hj => ?_⟩
  · show (fps.set i []).flatten.Nodup
    have nd := o.nd
    rw [f2] at nd
    exact nodup_flatten_set nd (by simp) (fun x h => by cases h)
  · have ne : i ≠ j := fun z => hi (z ▸ hj)
    rw [List.getElem?_set_ne ne]
    exact o.px j hj
/-- what is owned, at a name -/
theorem OkE.setM {i : Nat} {v : V} {m : M} {fp : List Addr} (o : OkE G w σ ρ fp) (r : OwnR G.K w.S w.H v m fp) (hi : i ∉ G.px) (hl : i < ρ.length) : ∃ w', Le w w' ∧ w'.S = w.S ∧ w'.H = w.H ∧ (∀ x ∈ w'.F, x ∈ w.F) ∧ Ok G w' (σ.set i (some v)) (ρ.set i (some m)) := by
  obtain ⟨fps, e, f⟩ := o.env
  have nd := o.nd
  rw [f] at nd
  obtain ⟨nd1, nd2, nd3⟩ := List.nodup_append.mp nd
  have sub : ∀ x ∈ (fps.set i fp).flatten, x ∈ w.F := fun x hx => by
    rw [f]
    exact (mem_flatten_set hx).elim (List.mem_append_left _) (List.mem_append_right _)
  refine ⟨w.less (fps.set i fp).flatten, Wd.le_less sub, rfl, rfl, sub, o.sub, ⟨_, e.set i r, by show (fps.set i fp).flatten = _; rw [List.append_nil]⟩, ?_, fun j hj => ?_⟩
  · show (fps.set i fp).flatten.Nodup
    exact nodup_flatten_set nd1 nd2 (fun x h q => nd3 x (mem_flatten_nil q) x h rfl)
  · have ne : i ≠ j := fun z => hi (z ▸ hj)
    rw [List.getElem?_set_ne ne]
    exact o.px j hj
/-- what is owned by a name is taken out of it -/
theorem OkE.takeM {i : Nat} {m : M} (o : Ok G w σ ρ) (h : ρ[i]? = some (some m)) : ∃ v fp w', σ[i]? = some (some v) ∧ Le w w' ∧ w'.S = w.S ∧ w'.H = w.H ∧ OkE G w' σ (ρ.set i none) fp ∧ OwnR G.K w.S w.H v m fp := by
  obtain ⟨fps, e, f⟩ := o.env
  have f2 : w.F = fps.flatten := by rw [f, List.append_nil]
  obtain ⟨v, fp, h1, h2, h3⟩ := e.get h
  have nd := o.nd
  rw [f2] at nd
  have ap := flatten_apart nd h2
  have sub : ∀ x ∈ (fps.set i []).flatten ++ fp, x ∈ w.F := fun x hx => by
    rw [f2]
    exact (List.mem_append.mp hx).elim mem_flatten_nil (mem_flatten_get h2)
  refine ⟨v, fp, w.less ((fps.set i []).flatten ++ fp), h1, Wd.le_less sub, rfl, rfl, ⟨o.sub, ⟨_, e.forget i, rfl⟩, ?_, o.px⟩, h3⟩
  show ((fps.set i []).flatten ++ fp).Nodup
  refine List.nodup_append.mpr ⟨nodup_flatten_set nd (by simp) (fun x h => by cases h), ?_, fun x hx y hy z => ap y hy (z ▸ hx)⟩
  have q : fp.Sublist fps.flatten := by
    have hm := List.mem_of_getElem? h2
    exact List.sublist_flatten_of_mem hm
  exact nd.sublist q
end

/-! ### statements -/
section
variable {G : Gx} {te ta tb tc : TE} {t u : TS} {c : TT} {ρ ρ' : Env} {P : Post} {i j : Nat}
theorem ws_seq (h : WS G t ρ { P with nx := fun ρ' => WS G u ρ' P }) : WS G (tSeq t u) ρ P := fun w σ D o e m =>
  h w σ _ o e ⟨fun w' σ' ρ' q l o' => q w' σ' D o' (e.later l) (m.later l), m.rt, m.bk, m.ct⟩
theorem ws_next (h : P.nx ρ) : WS G tNext ρ P := fun w σ D o e m => m.nx w σ ρ h (Le.refl w) o
theorem ws_break (h : P.bk ρ) : WS G tBreak ρ P := fun w σ D o e m => m.bk w σ ρ h (Le.refl w) o
theorem ws_cont (h : P.ct ρ) : WS G tCont ρ P := fun w σ D o e m => m.ct w σ ρ h (Le.refl w) o
theorem ws_asg (hi : i ∉ G.px) (h : W G te ρ fun d ρ1 => P.nx (ρ1.set i (some (.sh d)))) : WS G (tAsg te (gName i)) ρ P := fun w σ D o e m =>
  h w σ _ o e fun v w1 d ρ1 p l1 o1 r1 => by
    obtain ⟨w2, l2, _, hH, _, o2⟩ := o1.setSh r1 hi
    have q := m.nx w2 _ _ p (l1.trans l2) o2
    rw [hH] at q
    exact q
theorem ws_asgO (hi : i ∉ G.px) (hl : i < ρ.length) (h : WO G te ρ fun a ρ1 => ρ1.length = ρ.length ∧ P.nx (ρ1.set i (some a))) : WS G (tAsg te (gName i)) ρ P := fun w σ D o e m =>
  h w σ _ o e fun v w1 d ρ1 fp ⟨hl1, p⟩ l1 o1 r1 => by
    obtain ⟨w2, l2, _, hH, _, o2⟩ := o1.setM r1 hi (by rw [hl1]; exact hl)
    have q := m.nx w2 _ _ p (l1.trans l2) o2
    rw [hH] at q
    exact q
theorem ws_drop (h : W G te ρ fun _ ρ1 => P.nx ρ1) : WS G (tDrop te) ρ P := fun w σ D o e m => h w σ _ o e fun v w1 d ρ1 p l1 o1 _ => m.nx w1 σ ρ1 p l1 o1
theorem ws_ret (h : W G te ρ fun d ρ1 => P.rt (.sh d) ρ1) : WS G (tRet te) ρ P := fun w σ D o e m => h w σ _ o e fun v w1 d ρ1 p l1 o1 r1 => m.rt v w1 σ _ ρ1 [] p l1 o1 (.sh r1)
theorem ws_retO (h : WO G te ρ P.rt) : WS G (tRet te) ρ P := fun w σ D o e m => h w σ _ o e fun v w1 a ρ1 fp p l1 o1 r1 => m.rt v w1 σ a ρ1 fp p l1 o1 r1
theorem ws_retN (h : P.rt (.sh .non) ρ) : WS G tRetN ρ P := fun w σ D o e m => m.rt .non w σ _ ρ [] h (Le.refl w) o (.sh .non)
theorem ws_retV {a : M} (h : ρ[i]? = some (some a)) (p : P.rt a (ρ.set i none)) : WS G (tRet (tVar i)) ρ P := fun w σ D o e m => by
  obtain ⟨v, fp, w', h1, l, hS, hH, o', r⟩ := o.takeM h
  have q := m.rt v w' σ a _ fp p l o' (by rw [hS, hH]; exact r)
  rw [hH] at q
  exact ⟨v, h1, q⟩
theorem ws_if (h : WT G c ρ fun b ρ1 => if b = true then WS G t ρ1 P else WS G u ρ1 P) : WS G (tIfS c t u) ρ P := fun w σ D o e m =>
  h w σ _ o e fun b w1 ρ1 p l1 o1 => by
    cases b with
    | true => exact p w1 σ D o1 (e.later l1) (m.later l1)
    | false => exact p w1 σ D o1 (e.later l1) (m.later l1)
theorem ws_drops (d : Drops ρ' ρ) (h : WS G t ρ' P) : WS G t ρ P := fun w σ D o e m => by
  obtain ⟨w', l, _, hH, _, o'⟩ := o.drop d
  have q := h w' σ D o' (e.later l) (m.later l)
  rw [hH] at q
  exact q
theorem ws_par {t1 : TA} (hi : i ∉ G.px) (hj : j ∉ G.px) (h : WA G t1 ρ fun ds ρ1 => ∃ x y, ds = [x, y] ∧ P.nx ((ρ1.set i (some (.sh x))).set j (some (.sh y)))) : WS G (tPar i j t1) ρ P := fun w σ D o e m =>
  h w σ _ o e fun vs w1 ds ρ1 ⟨x, y, ed, p⟩ l1 o1 r1 => by
    subst ed
    cases r1 with
    | cons ra r =>
      cases r with
      | cons rb r =>
        cases r
        obtain ⟨w2, l2, hS2, hH2, _, o2⟩ := o1.setSh ra hi
        obtain ⟨w3, l3, _, hH3, _, o3⟩ := o2.setSh (by rw [hS2]; exact rb) hj
        have q := m.nx w3 _ _ p ((l1.trans l2).trans l3) o3
        rw [hH3, hH2] at q
        exact ⟨_, _, rfl, q⟩
theorem ws_aug {f : Int → Int → Int} {a : Int} (hi : i ∉ G.px) (hv : ρ[i]? = some (some (.sh (.int a)))) (h : W G te ρ fun y ρ1 => ∃ b, y = .int b ∧ P.nx (ρ1.set i (some (.sh (.int (f a b)))))) : WS G (tAug i te (ipI f)) ρ P := fun w σ D o e m => by
  obtain ⟨v, h1, r⟩ := o.get hv
  obtain rfl := r.int_inv
  refine ⟨_, h1, h w σ _ o e fun u w1 y ρ1 ⟨b, ey, p⟩ l1 o1 r1 => ?_⟩
  subst ey
  obtain rfl := r1.int_inv
  refine ⟨a, b, rfl, rfl, ?_⟩
  obtain ⟨w2, l2, _, hH, _, o2⟩ := o1.setSh (i := i) (v := .int (f a b)) (d := .int (f a b)) (.int _) hi
  have q := m.nx w2 _ _ p (l1.trans l2) o2
  rw [hH] at q
  exact q

/-! ### targets -/
def WG (G : Gx) (g : TG) (d : D) (ρ : Env) (sl : List Nat) (P : Env → Prop) : Prop := ∀ w σ v (Q : St → Hp → Prop), Ok G w σ ρ → Rep G.K w.S v d →
  (∀ w' σ' ρ', P ρ' → Le w w' → w'.S = w.S → w'.H = w.H → Ok G w' σ' ρ' → σ'.length = σ.length → (∀ j, j ∉ sl → σ'[j]? = σ[j]?) → Q σ' w.H) → g v σ w.H Q
def WGs (G : Gx) (g : TGs) (ds : List D) (ρ : Env) (sl : List Nat) (P : Env → Prop) : Prop := ∀ w σ vs (Q : St → Hp → Prop), Ok G w σ ρ → RepL G.K w.S vs ds →
  (∀ w' σ' ρ', P ρ' → Le w w' → w'.S = w.S → w'.H = w.H → Ok G w' σ' ρ' → σ'.length = σ.length → (∀ j, j ∉ sl → σ'[j]? = σ[j]?) → Q σ' w.H) → g vs σ w.H Q
variable {d : D} {sl : List Nat} {PE_ : Env → Prop}
theorem wg_name (hi : i ∉ G.px) (hs : i ∈ sl) (h : PE_ (ρ.set i (some (.sh d)))) : WG G (gName i) d ρ sl PE_ := fun w σ v Q o r q => by
  obtain ⟨w', l, hS, hH, _, o'⟩ := o.setSh r hi
  exact q w' _ _ h l hS hH o' List.length_set fun j hj => List.getElem?_set_ne (fun z => hj (by rw [← z]; exact hs))
theorem wgs_nil (h : PE_ ρ) : WGs G gNil [] ρ sl PE_ := fun w σ vs Q o r q => by
  cases r
  exact ⟨rfl, q w σ ρ h (Le.refl w) rfl rfl o rfl fun _ _ => rfl⟩
theorem wgs_cons {g : TG} {gs : TGs} {ds : List D} (h : WG G g d ρ sl fun ρ1 => WGs G gs ds ρ1 sl PE_) : WGs G (gCons g gs) (d :: ds) ρ sl PE_ := fun w σ vs Q o r q => by
  cases r with
  | cons r1 r2 =>
    refine ⟨_, _, rfl, h w σ _ _ o r1 fun w1 σ1 ρ1 h1 l1 hS1 hH1 o1 n1 k1 => ?_⟩
    rw [← hH1]
    refine h1 w1 σ1 _ _ o1 (by rw [hS1]; exact r2) fun w2 σ2 ρ2 h2 l2 hS2 hH2 o2 n2 k2 => ?_
    rw [hH1]
    exact q w2 σ2 ρ2 h2 (l1.trans l2) (hS2.trans hS1) (hH2.trans hH1) o2 (n2.trans n1) fun j hj => (k2 j hj).trans (k1 j hj)
theorem wg_tup {gs : TGs} {ds : List D} {n : Nat} (hn : ds.length = n) (h : WGs G gs ds ρ sl PE_) : WG G (gTup G.K n gs) (.tup ds) ρ sl PE_ := fun w σ v Q o r q => by
  cases r with
  | tup h1 r1 => exact ⟨_, _, rfl, o.sub.st h1, by rw [r1.len, hn], h w σ _ Q o r1 q⟩
theorem wg_lst {gs : TGs} {ds : List D} {n : Nat} (hn : ds.length = n) (h : WGs G gs ds ρ sl PE_) : WG G (gLst G.K n gs) (.lst ds) ρ sl PE_ := fun w σ v Q o r q => by
  cases r with
  | lst h1 r1 => exact ⟨_, _, rfl, o.sub.sl (.inl h1), by rw [r1.len, hn], h w σ _ Q o r1 q⟩
/-- a, b = e, by a tuple | a list -/
theorem ws_asgG {g : TG} {sl : List Nat} (h : W G te ρ fun d ρ1 => WG G g d ρ1 sl P.nx) : WS G (tAsg te g) ρ P := fun w σ D o e m =>
  h w σ _ o e fun v w1 d ρ1 p l1 o1 r1 => p w1 σ v _ o1 r1 fun w2 σ2 ρ2 p2 l2 _ hH o2 _ _ => by
    have q := m.nx w2 σ2 ρ2 p2 (l1.trans l2) o2
    rw [hH] at q
    exact q

/-! ### what is walked -/
/-- J walks things that stand for ds, from w0 on -/
def Items (K : PySem.W.Frag) (J : It) (w0 : Wd) (ds : List D) : Prop := ∀ w, Le w0 w → Sub w.S w.H →
  (∀ i d, ds[i]? = some d → J.go i w.H ∧ ∀ x H', J.yld i w.H x H' → ∃ w', w'.H = H' ∧ LeP w w' ∧ Sub w'.S w'.H ∧ Rep K w'.S x d) ∧ J.stop ds.length w.H
def WI (G : Gx) (wi : TI) (ρ : Env) (P : List D → Env → Prop) : Prop := ∀ w σ (R : It → Hp → Prop), Ok G w σ ρ → Esc G w → (∀ J w' ds ρ', P ds ρ' → Le w w' → Ok G w' σ ρ' → Items G.K J w' ds → R J w'.H) → wi σ w.H R
theorem Items.later {K : PySem.W.Frag} {J : It} {w0 w1 : Wd} {ds : List D} (h : Items K J w0 ds) (l : Le w0 w1) : Items K J w1 ds := fun w l2 s => h w (l.trans l2) s
theorem RepL.get {K : PySem.W.Frag} {S : Hp} : ∀ {vs : List V} {ds : List D} {i : Nat} {d : D}, RepL K S vs ds → ds[i]? = some d → ∃ v, vs[i]? = some v ∧ Rep K S v d
  | _, _, _, _, .nil, h => by simp at h
  | _, _, 0, _, .cons r _, h => by
    have e := Option.some.inj (by simpa using h)
    subst e
    exact ⟨_, rfl, r⟩
  | _, _, i + 1, _, .cons _ r, h => by
    obtain ⟨v, h1, h2⟩ := RepL.get (i := i) r (by simpa using h)
    exact ⟨v, by simpa using h1, h2⟩
variable {PI_ : List D → Env → Prop}
theorem wi_list {tl : TE} (h : W G tl ρ fun x ρ1 => ∃ ds, x = .lst ds ∧ PI_ ds ρ1) : WI G (iList G.K tl) ρ PI_ := fun w σ R o e q =>
  h w σ _ o e fun v w1 x ρ1 ⟨ds, ex, p⟩ l1 o1 r1 => by
    subst ex
    cases r1 with
    | @lst a xs _ h0 r1 =>
      have h1 : SqL G.K w1.S a xs := .inl h0
      refine ⟨_, rfl, ⟨_, o1.sub.sl h1⟩, q _ w1 ds ρ1 p l1 o1 fun w2 l2 s2 => ⟨fun i d hd => ?_, ⟨xs, s2.sl (l2.s.sl h1), by rw [r1.len]; exact Nat.le_refl _⟩⟩⟩
      obtain ⟨x, hx, rx⟩ := r1.get hd
      refine ⟨⟨xs, x, s2.sl (l2.s.sl h1), hx⟩, fun y H' ⟨eH, k⟩ => ⟨w2, eH.symm, LeP.refl w2, s2, ?_⟩⟩
      have e2 := (k xs (s2.sl (l2.s.sl h1))).symm.trans hx
      rw [Option.some.inj e2]
      exact rx.mono l2.s
theorem wi_rol {tl : TE} (h : W G tl ρ fun x ρ1 => ∃ ds, x = .rol ds ∧ PI_ ds ρ1) : WI G (iList G.K tl) ρ PI_ := fun w σ R o e q =>
  h w σ _ o e fun v w1 x ρ1 ⟨ds, ex, p⟩ l1 o1 r1 => by
    subst ex
    cases r1 with
    | @rol a xs _ h1 r1 =>
      refine ⟨_, rfl, ⟨_, o1.sub.sl h1⟩, q _ w1 ds ρ1 p l1 o1 fun w2 l2 s2 => ⟨fun i d hd => ?_, ⟨xs, s2.sl (l2.s.sl h1), by rw [r1.len]; exact Nat.le_refl _⟩⟩⟩
      obtain ⟨x, hx, rx⟩ := r1.get hd
      refine ⟨⟨xs, x, s2.sl (l2.s.sl h1), hx⟩, fun y H' ⟨eH, k⟩ => ⟨w2, eH.symm, LeP.refl w2, s2, ?_⟩⟩
      have e2 := (k xs (s2.sl (l2.s.sl h1))).symm.trans hx
      rw [Option.some.inj e2]
      exact rx.mono l2.s
theorem wi_tup {tl : TE} (h : W G tl ρ fun x ρ1 => ∃ ds, x = .tup ds ∧ PI_ ds ρ1) : WI G (iTup G.K tl) ρ PI_ := fun w σ R o e q =>
  h w σ _ o e fun v w1 x ρ1 ⟨ds, ex, p⟩ l1 o1 r1 => by
    subst ex
    cases r1 with
    | @tup a xs _ h1 r1 =>
      refine ⟨_, rfl, ⟨_, o1.sub.st h1⟩, q _ w1 ds ρ1 p l1 o1 fun w2 l2 s2 => ⟨fun i d hd => ?_, ⟨xs, s2.st (l2.s.st h1), by rw [r1.len]; exact Nat.le_refl _⟩⟩⟩
      obtain ⟨x, hx, rx⟩ := r1.get hd
      refine ⟨⟨xs, x, s2.st (l2.s.st h1), hx⟩, fun y H' ⟨eH, k⟩ => ⟨w2, eH.symm, LeP.refl w2, s2, ?_⟩⟩
      have e2 := (k xs (s2.st (l2.s.st h1))).symm.trans hx
      rw [Option.some.inj e2]
      exact rx.mono l2.s
/-- lo, lo + 1, .., n of them -/
def intsD (lo : Int) (n : Nat) : List D := (List.range n).map fun (i : Nat) => .int (lo + (i : Int))
theorem intsD_get {lo : Int} {n i : Nat} {d : D} (h : (intsD lo n)[i]? = some d) : i < n ∧ d = .int (lo + (i : Int)) := by
  unfold intsD at h
  rw [List.getElem?_map] at h
  by_cases hi : i < n
  · rw [List.getElem?_range hi] at h
    exact ⟨hi, (Option.some.inj h).symm⟩
  · rw [List.getElem?_eq_none (by rw [List.length_range]; omega)] at h
    cases h
theorem intsD_len {lo : Int} {n : Nat} : (intsD lo n).length = n := by unfold intsD; rw [List.length_map, List.length_range]
theorem items_rng {K : PySem.W.Frag} {lo : Int} {n : Nat} {w : Wd} : Items K (Itr lo n) w (intsD lo n) := fun w2 _ s2 => ⟨fun i d hd => by
  obtain ⟨hi, rfl⟩ := intsD_get hd
  exact ⟨hi, fun x H' ⟨eH, ex⟩ => ⟨w2, eH.symm, LeP.refl w2, s2, by rw [ex]; exact .int _⟩⟩, by rw [intsD_len]; exact Nat.le_refl _⟩
theorem wi_rng1 {t1 : TA} (h : WA G t1 ρ fun xs ρ1 => ∃ n, xs = [.int n] ∧ (-(2 ^ 62) ≤ n ∧ n < 2 ^ 62) ∧ PI_ (intsD 0 n.toNat) ρ1) : WI G (iRng1 t1) ρ PI_ := fun w σ R o e q =>
  h w σ _ o e fun vs w1 xs ρ1 ⟨n, ex, hn, p⟩ l1 o1 r1 => by
    subst ex
    cases r1 with
    | cons ra r =>
      cases r
      obtain rfl := ra.int_inv
      exact ⟨n, rfl, hn.1, hn.2, q _ w1 _ ρ1 p l1 o1 items_rng⟩
theorem wi_rng2 {t1 : TA} (h : WA G t1 ρ fun xs ρ1 => ∃ a n, xs = [.int a, .int n] ∧ (-(2 ^ 62) ≤ a ∧ a < 2 ^ 62 ∧ -(2 ^ 62) ≤ n ∧ n < 2 ^ 62) ∧ PI_ (intsD a (n - a).toNat) ρ1) : WI G (iRng2 t1) ρ PI_ := fun w σ R o e q =>
  h w σ _ o e fun vs w1 xs ρ1 ⟨a, n, ex, hn, p⟩ l1 o1 r1 => by
    subst ex
    cases r1 with
    | cons ra r =>
      cases r with
      | cons rb r =>
        cases r
        obtain rfl := ra.int_inv
        obtain rfl := rb.int_inv
        exact ⟨a, n, rfl, hn, q _ w1 _ ρ1 p l1 o1 items_rng⟩

/-! ### loops -/
theorem ws_for {wi : TI} {g : TG} {sl : List Nat} (h : WI G wi ρ fun ds ρ1 => ∃ I : Nat → Env → Prop, I 0 ρ1 ∧
      (∀ i d ρ2, ds[i]? = some d → I i ρ2 → WG G g d ρ2 sl fun ρ3 => WS G t ρ3 { P with nx := I (i + 1), ct := I (i + 1), bk := P.nx }) ∧ ∀ ρ2, I ds.length ρ2 → P.nx ρ2) : WS G (tFor wi g t) ρ P := fun w σ D o e m =>
  h w σ _ o e fun J w1 ds ρ1 ⟨I, i0, step, fin⟩ l1 o1 it => by
    refine ⟨fun i n σ' H' => ∃ w' ρ', w'.H = H' ∧ Le w1 w' ∧ Ok G w' σ' ρ' ∧ i ≤ ds.length ∧ n = ds.length - i ∧ I i ρ', ⟨_, w1, ρ1, rfl, Le.refl w1, o1, Nat.zero_le _, rfl, i0⟩, ?_⟩
    rintro i n σ' H' ⟨w', ρ', rfl, l', o', hi, rfl, p⟩
    obtain ⟨go, stop⟩ := it w' l' o'.sub
    by_cases hlt : i < ds.length
    · obtain ⟨g1, g2⟩ := go i ds[i] (List.getElem?_eq_getElem hlt)
      refine .inr ⟨g1, fun σ2 H2 => ∃ w2 ρ2, w2.H = H2 ∧ Le w1 w2 ∧ Ok G w2 σ2 ρ2 ∧ I (i + 1) ρ2, fun σ2 H2 ⟨w2, ρ2, e2, l2, o2, p2⟩ => ⟨ds.length - (i + 1), by omega, w2, ρ2, e2, l2, o2, hlt, rfl, p2⟩, fun x H2 y => ?_⟩
      obtain ⟨w2, rfl, l2, s2, r2⟩ := g2 x H2 y
      have o2 := o'.grow l2 s2
      refine step i ds[i] ρ' (List.getElem?_eq_getElem hlt) p w2 σ' x _ o2 r2 fun w3 σ3 ρ3 p3 l3 _ hH3 o3 _ _ => ?_
      have lw : Le w1 w3 := (l'.trans l2.le).trans l3
      have lww : Le w w3 := l1.trans lw
      rw [← hH3]
      exact p3 w3 σ3 _ o3 (e.later lww) ⟨fun w4 σ4 ρ4 q l4 o4 => ⟨w4, ρ4, rfl, lw.trans l4, o4, q⟩, fun v w4 σ4 a ρ4 fp q l4 o4 r4 => m.rt v w4 σ4 a ρ4 fp q (lww.trans l4) o4 r4,
        fun w4 σ4 ρ4 q l4 o4 => m.nx w4 σ4 ρ4 q (lww.trans l4) o4, fun w4 σ4 ρ4 q l4 o4 => ⟨w4, ρ4, rfl, lw.trans l4, o4, q⟩⟩
    · have ei : i = ds.length := by omega
      subst ei
      exact .inl ⟨stop, m.nx w' σ' ρ' (fin ρ' p) (l1.trans l') o'⟩
theorem ws_while {c : TT} (I : Nat → Env → Prop) (n0 : Nat) (h0 : I n0 ρ) (h : ∀ n ρ1, I n ρ1 → WT G c ρ1 fun b ρ2 => if b = true then WS G t ρ2 { P with nx := fun ρ3 => ∃ n', n' < n ∧ I n' ρ3, ct := fun ρ3 => ∃ n', n' < n ∧ I n' ρ3, bk := P.nx } else P.nx ρ2) :
    WS G (tWhile c t) ρ P := fun w σ D o e m => by
  refine ⟨fun n σ' H' => ∃ w' ρ', w'.H = H' ∧ Le w w' ∧ Ok G w' σ' ρ' ∧ I n ρ', ⟨n0, w, ρ, rfl, Le.refl w, o, h0⟩, ?_⟩
  rintro n σ' H' ⟨w', ρ', rfl, l', o', p⟩
  refine h n ρ' p w' σ' _ o' (e.later l') fun b w2 ρ2 q l2 o2 => ?_
  have lw := l'.trans l2
  cases b with
  | false => exact m.nx w2 σ' ρ2 q lw o2
  | true =>
    refine ⟨fun σ3 H3 => ∃ n', n' < n ∧ ∃ w3 ρ3, w3.H = H3 ∧ Le w w3 ∧ Ok G w3 σ3 ρ3 ∧ I n' ρ3, fun σ3 H3 ⟨n', hn, z⟩ => ⟨n', hn, z⟩, ?_⟩
    exact q w2 σ' _ o2 (e.later lw) ⟨fun w4 σ4 ρ4 ⟨n', hn, q4⟩ l4 o4 => ⟨n', hn, w4, ρ4, rfl, lw.trans l4, o4, q4⟩, fun v w4 σ4 a ρ4 fp q4 l4 o4 r4 => m.rt v w4 σ4 a ρ4 fp q4 (lw.trans l4) o4 r4,
      fun w4 σ4 ρ4 q4 l4 o4 => m.nx w4 σ4 ρ4 q4 (lw.trans l4) o4, fun w4 σ4 ρ4 ⟨n', hn, q4⟩ l4 o4 => ⟨n', hn, w4, ρ4, rfl, lw.trans l4, o4, q4⟩⟩
end
end DL

namespace DL
open PySem L2

/-! ### what is owned is let be -/
mutual
inductive Frz : M → D → Prop
  | sh (d : D) : Frz (.sh d) d
  | lst {ms : List M} {ds : List D} : FrzL ms ds → Frz (.lst ms) (.lst ds)
  | dic {ms : List (Key × M)} {ds : List (Key × D)} : FrzK ms ds → Frz (.dic ms) (.dic ds)
  | dit {ms : List (List Key × M)} {ds : List (List Key × D)} : FrzT ms ds → Frz (.dit ms) (.dit ds)
  | obj {c : Str} {ms : List (Str × M)} {ds : List (Str × D)} : FrzF ms ds → Frz (.obj c ms) (.obj c ds)
inductive FrzL : List M → List D → Prop
  | nil : FrzL [] []
  | cons {m : M} {d : D} {ms : List M} {ds : List D} : Frz m d → FrzL ms ds → FrzL (m :: ms) (d :: ds)
inductive FrzK : List (Key × M) → List (Key × D) → Prop
  | nil : FrzK [] []
  | cons {k : Key} {m : M} {d : D} {ms : List (Key × M)} {ds : List (Key × D)} : Frz m d → FrzK ms ds → FrzK ((k, m) :: ms) ((k, d) :: ds)
inductive FrzT : List (List Key × M) → List (List Key × D) → Prop
  | nil : FrzT [] []
  | cons {k : List Key} {m : M} {d : D} {ms : List (List Key × M)} {ds : List (List Key × D)} : Frz m d → FrzT ms ds → FrzT ((k, m) :: ms) ((k, d) :: ds)
inductive FrzF : List (Str × M) → List (Str × D) → Prop
  | nil : FrzF [] []
  | cons {k : Str} {m : M} {d : D} {ms : List (Str × M)} {ds : List (Str × D)} : Frz m d → FrzF ms ds → FrzF ((k, m) :: ms) ((k, d) :: ds)
end
theorem frzL_sh : ∀ ds : List D, FrzL (ds.map .sh) ds
  | [] => .nil
  | _ :: r => .cons (.sh _) (frzL_sh r)
theorem frzK_sh : ∀ ds : List (Key × D), FrzK (ds.map fun p => (p.1, .sh p.2)) ds
  | [] => .nil
  | _ :: r => .cons (.sh _) (frzK_sh r)
theorem frzT_sh : ∀ ds : List (List Key × D), FrzT (ds.map fun p => (p.1, .sh p.2)) ds
  | [] => .nil
  | _ :: r => .cons (.sh _) (frzT_sh r)
theorem frz_lst {ds : List D} : Frz (.lst (ds.map .sh)) (.lst ds) := .lst (frzL_sh ds)
theorem frz_dic {ds : List (Key × D)} : Frz (.dic (ds.map fun p => (p.1, .sh p.2))) (.dic ds) := .dic (frzK_sh ds)
theorem frz_dit {ds : List (List Key × D)} : Frz (.dit (ds.map fun p => (p.1, .sh p.2))) (.dit ds) := .dit (frzT_sh ds)
section
variable {K : PySem.W.Frag} {S S' H : Hp}
mutual
theorem OwnR.frz (e : Ex S S') : ∀ {v : V} {m : M} {fp : List Addr} {d : D}, OwnR K S H v m fp → (∀ x ∈ fp, S' x = H x) → Frz m d → Rep K S' v d
  | _, _, _, _, .sh r, _, .sh _ => r.mono e
  | _, _, _, _, .lst h1 h2 r, a, .lst f => .lst (.inl ((a _ List.mem_cons_self).trans h2)) (OwnL.frz e r (fun x h => a x (List.mem_cons_of_mem _ h)) f)
  | _, _, _, _, .dic h1 h2 r, a, .dic f => .dic (.inl ((a _ List.mem_cons_self).trans h2)) (OwnK.frz e r (fun x h => a x (List.mem_cons_of_mem _ h)) f)
  | _, _, _, _, .dit h1 h2 r, a, .dit f => .dit (.inl ((a _ List.mem_cons_self).trans h2)) (OwnT.frz e r (fun x h => a x (List.mem_cons_of_mem _ h)) f)
  | _, _, _, _, .obj h1 h2 r, a, .obj f => .obj ((a _ List.mem_cons_self).trans h2) (OwnF.frz e r (fun x h => a x (List.mem_cons_of_mem _ h)) f)
theorem OwnL.frz (e : Ex S S') : ∀ {v : List V} {m : List M} {fp : List Addr} {d : List D}, OwnL K S H v m fp → (∀ x ∈ fp, S' x = H x) → FrzL m d → RepL K S' v d
  | _, _, _, _, .nil, _, .nil => .nil
  | _, _, _, _, .cons h r, a, .cons f g => .cons (OwnR.frz e h (fun x q => a x (List.mem_append_left _ q)) f) (OwnL.frz e r (fun x q => a x (List.mem_append_right _ q)) g)
theorem OwnK.frz (e : Ex S S') : ∀ {v : List (Key × V)} {m : List (Key × M)} {fp : List Addr} {d : List (Key × D)}, OwnK K S H v m fp → (∀ x ∈ fp, S' x = H x) → FrzK m d → RepK K S' v d
  | _, _, _, _, .nil, _, .nil => .nil
  | _, _, _, _, .cons h r, a, .cons f g => .cons (OwnR.frz e h (fun x q => a x (List.mem_append_left _ q)) f) (OwnK.frz e r (fun x q => a x (List.mem_append_right _ q)) g)
theorem OwnT.frz (e : Ex S S') : ∀ {v : List (List Key × V)} {m : List (List Key × M)} {fp : List Addr} {d : List (List Key × D)}, OwnT K S H v m fp → (∀ x ∈ fp, S' x = H x) → FrzT m d → RepT K S' v d
  | _, _, _, _, .nil, _, .nil => .nil
  | _, _, _, _, .cons h r, a, .cons f g => .cons (OwnR.frz e h (fun x q => a x (List.mem_append_left _ q)) f) (OwnT.frz e r (fun x q => a x (List.mem_append_right _ q)) g)
theorem OwnF.frz (e : Ex S S') : ∀ {v : List (Str × V)} {m : List (Str × M)} {fp : List Addr} {d : List (Str × D)}, OwnF K S H v m fp → (∀ x ∈ fp, S' x = H x) → FrzF m d → RepF K S' v d
  | _, _, _, _, .nil, _, .nil => .nil
  | _, _, _, _, .cons h r, a, .cons f g => .cons (OwnR.frz e h (fun x q => a x (List.mem_append_left _ q)) f) (OwnF.frz e r (fun x q => a x (List.mem_append_right _ q)) g)
end
end
/-- S with what stands in H at fp -/
def letBe (S H : Hp) (fp : List Addr) : Hp := fun x => if x ∈ fp then H x else S x
section
variable {G : Gx} {te : TE} {ρ : Env} {P : D → Env → Prop} {w : Wd} {σ : St}
theorem OkE.freeze {v : V} {m : M} {d : D} {fp : List Addr} (o : OkE G w σ ρ fp) (r : OwnR G.K w.S w.H v m fp) (f : Frz m d) : ∃ w', Le w w' ∧ w'.H = w.H ∧ Ok G w' σ ρ ∧ Rep G.K w'.S v d := by
  obtain ⟨fps, e, ef⟩ := o.env
  have nd := o.nd
  rw [ef] at nd
  obtain ⟨nd1, nd2, nd3⟩ := List.nodup_append.mp nd
  have at_ := r.at_
  have ex : Ex w.S (letBe w.S w.H fp) := fun x u h => by
    unfold letBe
    rw [if_neg (fun q => by rw [(at_ x q).1] at h; cases h)]
    exact h
  have on : ∀ x ∈ fp, letBe w.S w.H fp x = w.H x := fun x h => if_pos h
  have off : ∀ x, x ∉ fp → letBe w.S w.H fp x = w.S x := fun x h => if_neg h
  refine ⟨⟨letBe w.S w.H fp, w.H, fps.flatten⟩, ⟨ex, fun _ _ h _ => h, fun x h1 h2 h3 => ?_, fun x h => .inl (by rw [ef]; exact List.mem_append_left _ h)⟩, rfl, ⟨fun x u h => ?_, ⟨fps, e.keep ex (fun x h => ?_) (fun _ _ _ h => h), by rw [List.append_nil]⟩, nd1, o.px⟩, r.frz ex on f⟩
  · exact (off x (fun q => h2 (by rw [ef]; exact List.mem_append_right _ q))).trans h3
  · by_cases q : x ∈ fp
    · exact .inl ((on x q).symm.trans h)
    · exact o.sub x u ((off x q).symm.trans h)
  · exact (off x (fun q => nd3 x h x q rfl)).trans (e.at_ x h).1
theorem w_frz (h : WO G te ρ fun m ρ1 => ∃ d, Frz m d ∧ P d ρ1) : W G te ρ P := fun w σ Q o e q =>
  h w σ Q o e fun v w1 m ρ1 fp ⟨d, f, p⟩ l1 o1 r1 => by
    obtain ⟨w2, l2, hH, o2, r2⟩ := o1.freeze r1 f
    have z := q v w2 d ρ1 p (l1.trans l2) o2 r2
    rw [hH] at z
    exact z
/-- a name's own thing is let be -/
theorem ws_letBe {t : TS} {P : Post} {i : Nat} {m : M} {d : D} (hi : ρ[i]? = some (some m)) (f : Frz m d) (hp : i ∉ G.px) (h : WS G t (ρ.set i (some (.sh d))) P) : WS G t ρ P := fun w σ D o e q => by
  obtain ⟨v, fp, w1, h1, l1, hS, hH, o1, r1⟩ := o.takeM hi
  obtain ⟨w2, l2, hH2, o2, r2⟩ := o1.freeze (by rw [hS, hH]; exact r1) f
  obtain ⟨w3, l3, _, hH3, _, o3⟩ := o2.setSh r2 hp
  have es : σ.set i (some v) = σ := by
    apply List.ext_getElem?
    intro j
    by_cases z : i = j
    · subst z
      have hl : i < σ.length := (List.getElem?_eq_some_iff.mp h1).1
      rw [List.getElem?_set_self hl, h1]
    · rw [List.getElem?_set_ne z]
  have er : (ρ.set i none).set i (some (.sh d)) = ρ.set i (some (.sh d)) := by rw [List.set_set]
  rw [es, er] at o3
  have l : Le w w3 := (l1.trans l2).trans l3
  have z := h w3 σ D o3 (e.later l) (q.later l)
  rw [hH3, hH2, hH] at z
  exact z
end

/-! ### a comprehension's own names -/
def keepSh : Option M → Option M
  | some (.sh d) => some (.sh d)
  | _ => none
def wipeE (p : Nat → Bool) : Nat → Env → Env
  | _, [] => []
  | n, a :: ρ => (if p n then none else a) :: wipeE p (n + 1) ρ
def mixE (p : Nat → Bool) : Nat → Env → Env → Env
  | n, a :: ρ, b :: ρ' => (if p n then keepSh a else b) :: mixE p (n + 1) ρ ρ'
  | _, _, _ => []
theorem wipeE_len {p : Nat → Bool} : ∀ {n : Nat} {ρ : Env}, (wipeE p n ρ).length = ρ.length
  | _, [] => rfl
  | n, a :: ρ => by unfold wipeE; rw [List.length_cons, List.length_cons, wipeE_len]
theorem wipeE_get {p : Nat → Bool} : ∀ {n : Nat} {ρ : Env} {j : Nat} {m : M}, (wipeE p n ρ)[j]? = some (some m) → ρ[j]? = some (some m) ∧ p (n + j) = false
  | _, [], _, _, h => by simp [wipeE] at h
  | n, a :: ρ, 0, m, h => by
    unfold wipeE at h
    rw [List.getElem?_cons_zero] at h
    rw [Nat.add_zero]
    cases q : p n with
    | true => rw [q] at h; simp at h
    | false =>
      rw [q] at h
      exact ⟨by simpa using h, rfl⟩
  | n, a :: ρ, j + 1, m, h => by
    unfold wipeE at h
    rw [List.getElem?_cons_succ] at h
    obtain ⟨h1, h2⟩ := wipeE_get h
    exact ⟨by rw [List.getElem?_cons_succ]; exact h1, by rw [← h2]; congr 1; omega⟩
theorem wipe_get {σ : St} {j : Nat} : ∀ {vs : List Nat}, j ∉ vs → (wipe σ vs)[j]? = σ[j]?
  | [], _ => rfl
  | v :: vs, h => by
    unfold wipe
    rw [List.getElem?_set_ne (fun z => h (by rw [z]; exact List.mem_cons_self))]
    exact wipe_get fun q => h (List.mem_cons_of_mem _ q)
theorem wipe_in {σ : St} {j : Nat} (hj : j < σ.length) : ∀ {vs : List Nat}, j ∈ vs → (wipe σ vs)[j]? = some none
  | v :: vs, h => by
    unfold wipe
    by_cases z : v = j
    · subst z
      rw [List.getElem?_set_self (by rw [wipe_length]; exact hj)]
    · rw [List.getElem?_set_ne z]
      exact wipe_in hj ((List.mem_cons.mp h).resolve_left fun q => z q.symm)
theorem wipe_eq {σ σ2 : St} {vs : List Nat} (hl : σ2.length = σ.length) (h : ∀ j, j ∉ vs → σ2[j]? = σ[j]?) : wipe σ2 vs = wipe σ vs := by
  apply List.ext_getElem?
  intro j
  by_cases q : j ∈ vs
  · by_cases z : j < σ.length
    · rw [wipe_in z q, wipe_in (by rw [hl]; exact z) q]
    · rw [List.getElem?_eq_none (by rw [wipe_length]; omega), List.getElem?_eq_none (by rw [wipe_length]; omega)]
  · rw [wipe_get q, wipe_get q, h j q]
theorem EnvR.mix {K : PySem.W.Frag} {S0 S H0 H : Hp} {p : Nat → Bool} (e : Ex S0 S) : ∀ {n : Nat} {σ : St} {ρ0 ρ5 : Env} {fp0 fps : List (List Addr)}, EnvR K S0 H0 σ ρ0 fp0 → EnvR K S H σ (wipeE p n ρ5) fps → EnvR K S H σ (mixE p n ρ0 ρ5) fps
  | n, _, [], [], _, _, .nil, r => by
    have z : wipeE p n [] = [] := rfl
    rw [z] at r
    cases r
    exact .nil
  | n, _, [], b :: ρ5, _, _, .nil, r => by
    unfold wipeE at r
    cases r
  | n, _, a :: ρ0, [], _, _, h, r => by
    have z : wipeE p n [] = [] := rfl
    rw [z] at r
    cases r
    cases h
  | n, x :: σ, a :: ρ0, b :: ρ5, _, _, h, r => by
    unfold wipeE at r
    unfold mixE
    cases q : p n with
    | false =>
      rw [q] at r
      have r2 : EnvR K S H (x :: σ) (b :: wipeE p (n + 1) ρ5) _ := r
      show EnvR K S H (x :: σ) (b :: mixE p (n + 1) ρ0 ρ5) _
      cases r2 with
      | no r2 =>
        cases h with
        | no h => exact .no (EnvR.mix e h r2)
        | ow _ h => exact .no (EnvR.mix e h r2)
      | ow z r2 =>
        cases h with
        | no h => exact .ow z (EnvR.mix e h r2)
        | ow _ h => exact .ow z (EnvR.mix e h r2)
    | true =>
      rw [q] at r
      have r2 : EnvR K S H (x :: σ) (none :: wipeE p (n + 1) ρ5) _ := r
      show EnvR K S H (x :: σ) (keepSh a :: mixE p (n + 1) ρ0 ρ5) _
      cases r2 with
      | no r2 =>
        cases h with
        | no h => exact .no (EnvR.mix e h r2)
        | ow z h =>
          cases z with
          | sh z => exact .ow (.sh (z.mono e)) (EnvR.mix e h r2)
          | lst _ _ _ => exact .no (EnvR.mix e h r2)
          | dic _ _ _ => exact .no (EnvR.mix e h r2)
          | dit _ _ _ => exact .no (EnvR.mix e h r2)
          | obj _ _ _ => exact .no (EnvR.mix e h r2)
          | ex _ _ => exact .no (EnvR.mix e h r2)
  | n, [], a :: ρ0, b :: ρ5, _, _, h, r => by cases h
def inL (vs : List Nat) : Nat → Bool := fun j => vs.contains j
theorem inL_iff {vs : List Nat} {j : Nat} : inL vs j = false ↔ j ∉ vs := by
  unfold inL
  rw [← Bool.not_eq_true, List.contains_iff_mem]
/-- no exception -/
abbrev Gx.nox (G : Gx) : Gx := { G with Wx := fun _ _ _ _ => False, er := fun _ _ _ => False }
section
variable {G : Gx} {ρ ρ0 ρ5 : Env} {w w0 : Wd} {σ σ2 : St} {vs : List Nat} {fx : List Addr}
theorem OkE.nox (o : OkE G w σ ρ fx) : OkE G.nox w σ ρ fx := ⟨o.sub, o.env, o.nd, o.px⟩
theorem OkE.unnox (o : OkE G.nox w σ ρ fx) : OkE G w σ ρ fx := ⟨o.sub, o.env, o.nd, o.px⟩
theorem esc_nox : Esc G.nox w := fun _ _ _ _ _ _ h => False.elim h
theorem OkE.wipe (o : Ok G w σ ρ) (hv : ∀ i ∈ G.px, i ∉ vs) : ∃ w', Le w w' ∧ w'.S = w.S ∧ w'.H = w.H ∧ (∀ x ∈ w'.F, x ∈ w.F) ∧ Ok G w' (wipe σ vs) (wipeE (inL vs) 0 ρ) :=
  OkE.congr o (wipe_length _ _) wipeE_len (fun j m h => by
    obtain ⟨h1, h2⟩ := wipeE_get h
    rw [Nat.zero_add] at h2
    exact ⟨h1, wipe_get (inL_iff.mp h2)⟩) fun i hi => wipe_get (hv i hi)
theorem OkE.mix (o0 : Ok G w0 σ ρ0) (l : Le w0 w) (o : Ok G w σ2 ρ5) (hl : σ2.length = σ.length) (hs : ∀ j, j ∉ vs → σ2[j]? = σ[j]?) : ∃ w', Le w w' ∧ w'.S = w.S ∧ w'.H = w.H ∧ (∀ x ∈ w'.F, x ∈ w.F) ∧ Ok G w' σ (mixE (inL vs) 0 ρ0 ρ5) := by
  obtain ⟨w', l', hS, hH, hF, o'⟩ := OkE.congr (σ' := σ) (ρ' := wipeE (inL vs) 0 ρ5) o hl.symm wipeE_len (fun j m h => by
    obtain ⟨h1, h2⟩ := wipeE_get h
    rw [Nat.zero_add] at h2
    exact ⟨h1, (hs j (inL_iff.mp h2)).symm⟩) fun i hi => (o0.px i hi).trans (o.px i hi).symm
  obtain ⟨fp0, e0, _⟩ := o0.env
  obtain ⟨fps, e, f⟩ := o'.env
  exact ⟨w', l', hS, hH, hF, o'.sub, ⟨fps, EnvR.mix (by rw [hS]; exact l.s) e0 e, f⟩, o'.nd, o'.px⟩
theorem Le.stays {w w' : Wd} (l : Le w w') {a : Addr} {o : HO} (h : w.H a = some o) (n : a ∉ w.F) (s : w.S a = none) : w'.H a = some o ∧ a ∉ w'.F ∧ w'.S a = none :=
  ⟨l.h a o h n, ⟨fun q => (l.f a q).elim n (fun z => by rw [h] at z; cases z), l.n a (by rw [h]; exact Option.some_ne_none _) n s⟩⟩
end
theorem RepL.app {K : PySem.W.Frag} {S : Hp} : ∀ {vs ws : List V} {ds es : List D}, RepL K S vs ds → RepL K S ws es → RepL K S (vs ++ ws) (ds ++ es)
  | _, _, _, _, .nil, r => r
  | _, _, _, _, .cons h r, q => .cons h (RepL.app r q)
section
variable {G : Gx} {te : TE} {tt : TT} {wi : TI} {g : TG} {ρ : Env} {vs sl : List Nat} {PO : M → Env → Prop}
theorem wo_lc (hv : ∀ i ∈ G.px, i ∉ vs) (hsl : ∀ j ∈ sl, j ∈ vs) (h : WI G wi ρ fun ds ρ1 => ds.length ≤ 90000 ∧ ∃ I : Nat → List D → Env → Prop, I 0 [] ρ1 ∧
      (∀ i d acc ρ2, ds[i]? = some d → I i acc ρ2 → WG G.nox g d (wipeE (inL vs) 0 ρ2) sl fun ρ3 => WT G.nox tt ρ3 fun b ρ4 =>
        if b = true then W G.nox te ρ4 fun y ρ5 => I (i + 1) (acc ++ [y]) (mixE (inL vs) 0 ρ2 ρ5) else I (i + 1) acc (mixE (inL vs) 0 ρ2 ρ4)) ∧
      ∀ acc ρ2, I ds.length acc ρ2 → PO (.lst (acc.map .sh)) ρ2) : WO G (tLc wi g tt te vs) ρ PO := fun w σ Q o e q =>
  h w σ _ o e fun J w1 ds ρ1 ⟨hl, I, i0, step, fin⟩ l1 o1 it => fun Dl hD => by
    have sD : w1.S Dl = none := o1.sub.free hD
    have nF : Dl ∉ w1.F := fun z => (o1.at_ Dl z).2 hD
    have lp : LeP w1 ⟨w1.S, upd w1.H Dl (.lst []), w1.F⟩ := ⟨Ex.refl _, Ex.new hD, fun _ _ z => z, rfl⟩
    have offD : ∀ {S H : Hp} {o' : HO}, Sub S H → S Dl = none → Sub S (upd H Dl o') := fun {S H o'} s z a u ha => by
      have ne : a ≠ Dl := fun y => by rw [y, z] at ha; cases ha
      show upd H Dl o' a = some u ∨ (Dct u ∧ ∃ ob, upd H Dl o' a = some (.frz ob u))
      rw [upd_ne ne]
      exact s a u ha
    refine ⟨fun i n H' => ∃ w' ρ' xs acc, w'.H = H' ∧ Le w1 w' ∧ w'.H Dl = some (.lst xs) ∧ w'.S Dl = none ∧ Dl ∉ w'.F ∧ RepL G.K w'.S xs acc ∧ Ok G w' σ ρ' ∧ i ≤ ds.length ∧ n = ds.length - i ∧ acc.length ≤ i ∧ I i acc ρ',
      ⟨_, ⟨w1.S, upd w1.H Dl (.lst []), w1.F⟩, ρ1, [], [], rfl, lp.le, upd_same, sD, nF, .nil, o1.grow lp (offD o1.sub sD), Nat.zero_le _, rfl, Nat.le_refl _, i0⟩, ?_⟩
    rintro i n H' ⟨w', ρ', xs, acc, rfl, l', hL, hS, hF, rl, o', hi, rfl, ha, p⟩
    obtain ⟨go, stop⟩ := it w' l' o'.sub
    by_cases hlt : i < ds.length
    · obtain ⟨g1, g2⟩ := go i ds[i] (List.getElem?_eq_getElem hlt)
      refine .inr ⟨g1, fun H2 => ∃ w' ρ' xs acc, w'.H = H2 ∧ Le w1 w' ∧ w'.H Dl = some (.lst xs) ∧ w'.S Dl = none ∧ Dl ∉ w'.F ∧ RepL G.K w'.S xs acc ∧ Ok G w' σ ρ' ∧ acc.length ≤ i + 1 ∧ I (i + 1) acc ρ', fun H2 ⟨w', ρ', xs, acc, h1, h2, h3, h4, h5, h6, h7, h8, h9⟩ =>
        ⟨ds.length - (i + 1), by omega, w', ρ', xs, acc, h1, h2, h3, h4, h5, h6, h7, hlt, rfl, h8, h9⟩, fun x H2 y => ?_⟩
      obtain ⟨w2, rfl, l2, s2, r2⟩ := g2 x H2 y
      have o2 := o'.grow l2 s2
      obtain ⟨k2, k2f, k2s⟩ := l2.le.stays hL hF hS
      obtain ⟨w3, l3, hS3, hH3, hF3, o3⟩ := o2.wipe hv
      obtain ⟨k3, k3f, k3s⟩ := l3.stays k2 k2f k2s
      rw [← hH3]
      refine step i ds[i] acc ρ' (List.getElem?_eq_getElem hlt) p w3 _ x _ o3.nox (by show Rep G.K w3.S x _; rw [hS3]; exact r2) fun w4 σ4 ρ3 p4 l4 _ hH4 o4 n4 e4 => ?_
      obtain ⟨k4, k4f, k4s⟩ := l4.stays k3 k3f k3s
      have nσ : σ4.length = σ.length := by rw [n4, wipe_length]
      have eσ : ∀ j, j ∉ vs → σ4[j]? = σ[j]? := fun j hj => by rw [e4 j (fun z => hj (hsl j z)), wipe_get hj]
      refine ⟨wipe_eq nσ eσ, ?_⟩
      have lw4 : Le w' w4 := (l2.le.trans l3).trans l4
      rw [← hH4]
      refine p4 w4 σ4 _ o4 esc_nox fun b w5 ρ4 p5 l5 o5 => ?_
      obtain ⟨k5, k5f, k5s⟩ := l5.stays k4 k4f k4s
      cases b with
      | false =>
        have p5' : I (i + 1) acc (mixE (inL vs) 0 ρ' ρ4) := p5
        obtain ⟨w6, l6, hS6, hH6, hF6, o6⟩ := OkE.mix o' (lw4.trans l5) o5.unnox nσ eσ
        obtain ⟨k6, k6f, k6s⟩ := l6.stays k5 k5f k5s
        exact ⟨w6, _, xs, acc, hH6, ((l'.trans lw4).trans l5).trans l6, k6, k6s, k6f, rl.mono ((lw4.trans l5).trans l6).s, o6, by omega, p5'⟩
      | true =>
        refine (show W G.nox te ρ4 fun y ρ5 => I (i + 1) (acc ++ [y]) (mixE (inL vs) 0 ρ' ρ5) from p5) w5 σ4 _ o5 esc_nox fun v w6 y ρ5 p6 l6 o6 r6 => ?_
        obtain ⟨k6, k6f, k6s⟩ := l6.stays k5 k5f k5s
        have lw6 : Le w' w6 := (lw4.trans l5).trans l6
        refine ⟨xs, k6, by rw [rl.len]; exact Nat.lt_of_le_of_lt (show acc.length ≤ 90000 by omega) (by decide), ?_⟩
        obtain ⟨fps, en, f⟩ := o6.env
        have o7 : Ok G ⟨w6.S, upd w6.H Dl (.lst (xs ++ [v])), w6.F⟩ σ4 ρ5 := ⟨offD o6.sub k6s, ⟨fps, en.keep (Ex.refl _) (fun x hx => (en.at_ x hx).1) (fun x hx u hu => by
          show upd w6.H Dl _ x = some u
          rw [upd_ne (fun z => k6f (by rw [← z, f]; exact List.mem_append_left _ hx))]
          exact hu), f⟩, o6.nd, o6.px⟩
        have lb : Le w1 w6 := l'.trans lw6
        have l7 : Le w1 ⟨w6.S, upd w6.H Dl (.lst (xs ++ [v])), w6.F⟩ := ⟨lb.s, fun x u hx hn => by
          show upd w6.H Dl _ x = some u
          rw [upd_ne (ne_of_none hx hD)]
          exact lb.h x u hx hn, lb.n, lb.f⟩
        have s7 : Ex w'.S w6.S := lw6.s
        -- the outer names
        have o0 : Ok G ⟨w'.S, upd w'.H Dl (.lst (xs ++ [v])), w'.F⟩ σ ρ' := by
          obtain ⟨fps, en, f⟩ := o'.env
          exact ⟨offD o'.sub hS, ⟨fps, en.keep (Ex.refl _) (fun x hx => (en.at_ x hx).1) (fun x hx u hu => by
            show upd w'.H Dl _ x = some u
            rw [upd_ne (fun z => hF (by rw [← z, f]; exact List.mem_append_left _ hx))]
            exact hu), f⟩, o'.nd, o'.px⟩
        have l07 : Le ⟨w'.S, upd w'.H Dl (.lst (xs ++ [v])), w'.F⟩ ⟨w6.S, upd w6.H Dl (.lst (xs ++ [v])), w6.F⟩ := ⟨s7, fun x u hx hn => by
          by_cases z : x = Dl
          · subst z
            have hx' : upd w'.H x (.lst (xs ++ [v])) x = some u := hx
            rw [upd_same] at hx'
            show upd w6.H x _ x = some u
            rw [upd_same]
            exact hx'
          · have hx' : upd w'.H Dl (.lst (xs ++ [v])) x = some u := hx
            rw [upd_ne z] at hx'
            show upd w6.H Dl _ x = some u
            rw [upd_ne z]
            exact lw6.h x u hx' hn, fun x hx hn hs => by
          by_cases z : x = Dl
          · subst z
            exact k6s
          · refine lw6.n x (fun y => hx ?_) hn hs
            show upd w'.H Dl _ x = none
            rw [upd_ne z]
            exact y, fun x hx => by
          rcases lw6.f x hx with y | y
          · exact .inl y
          · refine .inr ?_
            have z : x ≠ Dl := fun z => k6f (z ▸ hx)
            show upd w'.H Dl _ x = none
            rw [upd_ne z]
            exact y⟩
        obtain ⟨w8, l8, hS8, hH8, hF8, o8⟩ := OkE.mix o0 l07 o7 nσ eσ
        refine ⟨w8, _, xs ++ [v], acc ++ [y], hH8, l7.trans l8, ?_, ?_, fun z => k6f (hF8 Dl z), ?_, o8, by rw [List.length_append, List.length_singleton]; omega, p6⟩
        · rw [hH8]
          exact upd_same
        · rw [hS8]
          exact k6s
        · rw [hS8]
          exact (rl.mono s7).app (.cons r6 .nil)
    · have ei : i = ds.length := by omega
      subst ei
      refine .inl ⟨stop, ?_⟩
      have z := q (.ref Dl) ⟨w'.S, w'.H, w'.F ++ [Dl]⟩ (.lst (acc.map .sh)) ρ' [Dl] (fin acc ρ' p) ?_ ?_ (.lst hS hL (ownL_of rl))
      · exact z
      · have lw := l1.trans l'
        exact ⟨lw.s, lw.h, lw.n, fun x hx => by
          rcases List.mem_append.mp hx with y | y
          · exact lw.f x y
          · obtain rfl : x = Dl := by simpa using y
            by_cases hf : x ∈ w.F
            · exact .inl hf
            · refine .inr ?_
              cases e3 : w.H x with
              | none => rfl
              | some u => rw [l1.h x u e3 hf] at hD; cases hD⟩
      · obtain ⟨fps, en, f⟩ := o'.env
        refine ⟨o'.sub, ⟨fps, en, by show w'.F ++ [Dl] = _; rw [f, List.append_nil]⟩, ?_, o'.px⟩
        show (w'.F ++ [Dl]).Nodup
        refine List.nodup_append.mpr ⟨o'.nd, by simp, fun x hx y hy z => hF ?_⟩
        obtain rfl : y = Dl := by simpa using hy
        rw [← z]
        exact hx
/-- the list as data -/
theorem w_lc {P : D → Env → Prop} (hv : ∀ i ∈ G.px, i ∉ vs) (hsl : ∀ j ∈ sl, j ∈ vs) (h : WI G wi ρ fun ds ρ1 => ds.length ≤ 90000 ∧ ∃ I : Nat → List D → Env → Prop, I 0 [] ρ1 ∧
      (∀ i d acc ρ2, ds[i]? = some d → I i acc ρ2 → WG G.nox g d (wipeE (inL vs) 0 ρ2) sl fun ρ3 => WT G.nox tt ρ3 fun b ρ4 =>
        if b = true then W G.nox te ρ4 fun y ρ5 => I (i + 1) (acc ++ [y]) (mixE (inL vs) 0 ρ2 ρ5) else I (i + 1) acc (mixE (inL vs) 0 ρ2 ρ4)) ∧
      ∀ acc ρ2, I ds.length acc ρ2 → P (.lst acc) ρ2) : W G (tLc wi g tt te vs) ρ P :=
  w_frz (wo_lc hv hsl fun w σ R o e q => h w σ R o e fun J w' ds ρ' ⟨a, I, b, c, d⟩ => q J w' ds ρ' ⟨a, I, b, c, fun acc ρ2 i => ⟨_, frz_lst, d acc ρ2 i⟩⟩)
end
end DL

namespace DL
open PySem L2

/-! ### what a value is, as data of the library -/
mutual
def D.py : D → Option PyData
  | .non => some .none
  | .bl b => some (.bool b)
  | .int i => some (.int i)
  | .str x => some (.str x)
  | .tup ds => (D.pys ds).map .tuple
  | .lst ds => (D.pys ds).map .list
  | .rol ds => (D.pys ds).map .list
  | _ => none
def D.pys : List D → Option (List PyData)
  | [] => some []
  | d :: ds => match D.py d with
    | some p => (D.pys ds).map (p :: ·)
    | none => none
end
mutual
theorem Rep.dp {K : PySem.W.Frag} {S H : Hp} (s : Sub S H) : ∀ {d : D} {v : V} {p : PyData}, Rep K S v d → d.py = some p → Dp K H v p
  | .non, _, _, r, e => by
    cases r
    cases (Option.some.inj e)
    exact .non
  | .bl b, _, _, r, e => by
    cases r
    cases (Option.some.inj e)
    exact .bl b
  | .int i, _, _, r, e => by
    cases r
    cases (Option.some.inj e)
    exact .int i
  | .str x, _, _, r, e => by
    cases r
    cases (Option.some.inj e)
    exact .str x
  | .tup ds, _, _, r, e => by
    cases r with
    | tup h1 r1 =>
      obtain ⟨ps, e1, e2⟩ := Option.map_eq_some_iff.mp e
      subst e2
      exact .tup (s.st h1) (RepL.dp s r1 e1)
  | .lst ds, _, _, r, e => by
    cases r with
    | lst h1 r1 =>
      obtain ⟨ps, e1, e2⟩ := Option.map_eq_some_iff.mp e
      subst e2
      exact .lst (s.sl (.inl h1)) (RepL.dp s r1 e1)
  | .rol ds, _, _, r, e => by
    cases r with
    | rol h1 r1 =>
      obtain ⟨ps, e1, e2⟩ := Option.map_eq_some_iff.mp e
      subst e2
      exact .lst (s.sl h1) (RepL.dp s r1 e1)
  | .ty _, _, _, _, e => by cases e
  | .fun_ _, _, _, _, e => by cases e
  | .dic _, _, _, _, e => by cases e
  | .dit _, _, _, _, e => by cases e
  | .obj _ _, _, _, _, e => by cases e
  | .exc _ _ _ _, _, _, _, e => by cases e
theorem RepL.dp {K : PySem.W.Frag} {S H : Hp} (s : Sub S H) : ∀ {ds : List D} {vs : List V} {ps : List PyData}, RepL K S vs ds → D.pys ds = some ps → DpAll K H vs ps
  | [], _, _, r, e => by
    cases r
    cases (Option.some.inj e)
    exact .nil
  | d :: ds, _, _, r, e => by
    cases r with
    | cons r1 r2 =>
      unfold D.pys at e
      cases q : D.py d with
      | none =>
        rw [q] at e
        cases e
      | some p =>
        rw [q] at e
        obtain ⟨ps, e1, e2⟩ := Option.map_eq_some_iff.mp e
        subst e2
        exact .cons (Rep.dp s r1 q) (RepL.dp s r2 e1)
end

/-! ### operators: all kinds of values at once -/
section
variable {X : Cx}
def rCatR (K : PySem.W.Frag) : R2 := fun x y H Q => ∃ l b xs zs, x = .ref l ∧ y = .ref b ∧ SqL K H l xs ∧ SqL K H b zs ∧ xs.length + zs.length ≤ sizeLine ∧ ∀ p, H p = none → Q (.ref p) (upd H p (.lst (xs ++ zs)))
theorem o_catR : OpR X (binaryOp .Add) (rCatR X.K) := by
  intro pins s σ H x y v u Q I rx ry ⟨l, b, xs, zs, ex, ey, h1, h2, hz, q⟩
  subst ex
  subst ey
  cases rx
  cases ry
  obtain ⟨its, r, ⟨ob, n, e, c1, c2, c3⟩, z⟩ := I.list h1
  obtain ⟨its2, r2, ⟨ob2, n2, e2, d1, d2, d3⟩, z2⟩ := I.list h2
  have l1 := r.length
  have l2 := r2.length
  obtain ⟨oc, od, dt, sl⟩ := ob
  obtain ⟨oc2, od2, dt2, sl2⟩ := ob2
  simp only at c1 c2 c3 d1 d2 d3
  subst c1 c2 c3 d1 d2 d3
  have both : its.toArray ++ its2.toArray = (its ++ its2).toArray := by simp
  have hs : its.toArray.size + its2.toArray.size ≤ sizeLine := by rw [List.size_toArray, List.size_toArray]; omega
  refine concat_meets ⟨_, e, rfl⟩ ⟨_, e2, rfl⟩ noFill_list_add seq_list_add PySem.F.slot_list_add PySem.F.entry_list_add (PySem.F.args_list_add_2 _ _) (PyProof.Rows.list_addW l b its.toArray its2.toArray n n2 _ _ sl sl2 hs) ⟨e, e2, ?_⟩
  rw [both]
  exact ⟨.ref _, _, I.lnew (t' := s.toks) (r.append r2) (show (xs ++ zs).length ≤ sizeLine by rw [List.length_append]; omega), rfl, q _ I.fresh⟩

def rAddS : R2 := fun x y H Q => ∃ i j, x = .str i ∧ y = .str j ∧ i.length + j.length ≤ sizeLine ∧ Q (.str (i ++ j)) H
def gAdd (K : PySem.W.Frag) : R2 := fun x y H Q => rI0 (fun i j => .int (i + j)) x y H Q ∨ rAddS x y H Q ∨ rCatR K x y H Q ∨ rCatT K x y H Q
theorem o_add : OpR X (binaryOp .Add) (gAdd X.K) := op_add.or (op_add_str.or (o_catR.or op_catT))
def gMul : R2 := fun x y H Q => rI CMulW (fun i j => .int (i * j)) x y H Q ∨ rRep x y H Q
theorem o_mul : OpR X (binaryOp .Mult) gMul := op_mulW.or op_rep
def CPowW (i j : Int) : Prop := 0 ≤ j ∧ (Builtin.Int.intBits i : Int) * j ≤ 2 ^ 27
theorem o_pow : OpR X (binaryOp .Pow) (rI CPowW fun i j => .int (i ^ j.toNat)) := opI fun _ _ _ _ _ _ _ hc q => PyProof.Rows.pow_int hc.1 hc.2 q
def gLt : R2 := fun x y H Q => rI0 (fun i j => .bl (decide (i < j))) x y H Q ∨ ∃ i j, x = .str i ∧ y = .str j ∧ Q (.bl (decide (i.cps.toList < j.cps.toList))) H
theorem o_lt : OpR X (compareOp .Lt) gLt := op_lt.or op_lt_str
def gLe : R2 := fun x y H Q => rI0 (fun i j => .bl (decide (i ≤ j))) x y H Q ∨ ∃ i j, x = .str i ∧ y = .str j ∧ Q (.bl (!decide (j.cps.toList < i.cps.toList))) H
theorem o_le : OpR X (compareOp .LtE) gLe := op_le.or op_le_str
def gGt : R2 := fun x y H Q => rI0 (fun i j => .bl (decide (j < i))) x y H Q ∨ ∃ i j, x = .str i ∧ y = .str j ∧ Q (.bl (decide (j.cps.toList < i.cps.toList))) H
theorem o_gt : OpR X (compareOp .Gt) gGt := op_gt.or op_gt_str
def gGe : R2 := fun x y H Q => rI0 (fun i j => .bl (decide (j ≤ i))) x y H Q ∨ ∃ i j, x = .str i ∧ y = .str j ∧ Q (.bl (!decide (i.cps.toList < j.cps.toList))) H
theorem o_ge : OpR X (compareOp .GtE) gGe := op_ge.or op_ge_str
def rInS (neg : Bool) : R2 := fun x y H Q => ∃ (c : Nat) (z : Str), x = .str ⟨#[c]⟩ ∧ y = .str z ∧ Q (.bl (if neg then !decide (c ∈ z.cps.toList) else decide (c ∈ z.cps.toList))) H
def gIn (K : PySem.W.Frag) : R2 := fun x y H Q => rIn K false x y H Q ∨ rInS false x y H Q
theorem o_in : OpR X (compareOp .In) (gIn X.K) := op_in_seq.or op_in_sign
def gNi (K : PySem.W.Frag) : R2 := fun x y H Q => rIn K true x y H Q ∨ rInS true x y H Q
theorem o_notIn : OpR X (compareOp .NotIn) (gNi X.K) := op_notIn_seq.or op_notIn_sign
end

/-! ### the same at the data -/
section
variable {K : PySem.W.Frag} {k : D → Prop} {i j : Int} {a b : Str} {xs ys : List D} {x y : D}
theorem rd_i2 {g : Int → Int → V} {C : Int → Int → Prop} {z : D} (hz : ∀ S, Rep K S (g i j) z) (c : C i j) (p : k z) : RD K (rI C g) (.int i) (.int j) k := rd_val _ hz p fun w v u Q s rx ry q => by
  obtain rfl := rx.int_inv
  obtain rfl := ry.int_inv
  exact ⟨i, j, rfl, rfl, c, q⟩
theorem rd_i20 {g : Int → Int → V} {z : D} (hz : ∀ S, Rep K S (g i j) z) (p : k z) : RD K (rI0 g) (.int i) (.int j) k := rd_val _ hz p fun w v u Q s rx ry q => by
  obtain rfl := rx.int_inv
  obtain rfl := ry.int_inv
  exact ⟨i, j, rfl, rfl, q⟩
theorem rd_s2 {g : Str → Str → V} {z : D} (hz : ∀ S, Rep K S (g a b) z) (p : k z) : RD K (fun x y H Q => ∃ i j, x = .str i ∧ y = .str j ∧ Q (g i j) H) (.str a) (.str b) k := rd_val _ hz p fun w v u Q s rx ry q => by
  obtain rfl := rx.str_inv
  obtain rfl := ry.str_inv
  exact ⟨a, b, rfl, rfl, q⟩
theorem RD.l {r r' : R2} (h : RD K r x y k) : RD K (fun x y H Q => r x y H Q ∨ r' x y H Q) x y k := fun w v u Q s rx ry q => .inl (h w v u Q s rx ry q)
theorem RD.r {r r' : R2} (h : RD K r' x y k) : RD K (fun x y H Q => r x y H Q ∨ r' x y H Q) x y k := fun w v u Q s rx ry q => .inr (h w v u Q s rx ry q)
theorem rd_add (p : k (.int (i + j))) : RD K (gAdd K) (.int i) (.int j) k := RD.l (rd_i20 (fun _ => .int _) p)
theorem rd_addS (h : a.length + b.length ≤ 100000) (p : k (.str (a ++ b))) : RD K (gAdd K) (.str a) (.str b) k := RD.r (RD.l (rd_val (.str (a ++ b)) (fun _ => .str _) p fun w v u Q s rx ry q => by
  obtain rfl := rx.str_inv
  obtain rfl := ry.str_inv
  exact ⟨a, b, rfl, rfl, sz_of h, q⟩))
theorem Rep.lst_inv {S : Hp} {v : V} (r : Rep K S v (.lst xs)) : ∃ p vs, v = .ref p ∧ SqL K S p vs ∧ RepL K S vs xs := by
  cases r with
  | lst h r => exact ⟨_, _, rfl, .inl h, r⟩
theorem Rep.rol_inv {S : Hp} {v : V} (r : Rep K S v (.rol xs)) : ∃ p vs, v = .ref p ∧ SqL K S p vs ∧ RepL K S vs xs := by
  cases r with
  | rol h r => exact ⟨_, _, rfl, h, r⟩
theorem Rep.tup_inv {S : Hp} {v : V} (r : Rep K S v (.tup xs)) : ∃ p vs, v = .ref p ∧ SqT K S p vs ∧ RepL K S vs xs := by
  cases r with
  | tup h r => exact ⟨_, _, rfl, h, r⟩
/-- a list as data, be it of the script -/
inductive IsL : D → List D → Prop
  | lst (ds : List D) : IsL (.lst ds) ds
  | rol (ds : List D) : IsL (.rol ds) ds
theorem Rep.isL_inv {S : Hp} {v : V} {d : D} (h : IsL d xs) (r : Rep K S v d) : ∃ p vs, v = .ref p ∧ SqL K S p vs ∧ RepL K S vs xs := by
  cases h with
  | lst => exact r.lst_inv
  | rol => exact r.rol_inv
theorem Wd.repNew {w : Wd} {p : Addr} {vs : List V} (s : Sub w.S w.H) (hp : w.H p = none) (r : RepL K w.S vs xs) : LeP w (w.add p (.lst vs)) ∧ Sub (w.add p (.lst vs)).S (w.add p (.lst vs)).H ∧ Rep K (w.add p (.lst vs)).S (.ref p) (.lst xs) := by
  have l := Wd.le_add (o := .lst vs) s hp
  exact ⟨l, Wd.sub_add s, .lst (.inl upd_same) (r.mono l.s)⟩
theorem Wd.repNewT {w : Wd} {p : Addr} {vs : List V} (s : Sub w.S w.H) (hp : w.H p = none) (r : RepL K w.S vs xs) : LeP w (w.add p (.tup vs)) ∧ Sub (w.add p (.tup vs)).S (w.add p (.tup vs)).H ∧ Rep K (w.add p (.tup vs)).S (.ref p) (.tup xs) := by
  have l := Wd.le_add (o := .tup vs) s hp
  exact ⟨l, Wd.sub_add s, .tup (SqT.of upd_same) (r.mono l.s)⟩
theorem rd_addL (hx : IsL x xs) (hy : IsL y ys) (h : xs.length + ys.length ≤ 100000) (p : k (.lst (xs ++ ys))) : RD K (gAdd K) x y k := RD.r (RD.r (RD.l fun w v u Q s rx ry q => by
  obtain ⟨l, vs, rfl, h1, r1⟩ := Rep.isL_inv hx rx
  obtain ⟨m, us, rfl, h2, r2⟩ := Rep.isL_inv hy ry
  refine ⟨l, m, vs, us, rfl, rfl, s.sl h1, s.sl h2, sz_of (by rw [r1.len, r2.len]; exact h), fun q' hq => ?_⟩
  obtain ⟨a1, a2, a3⟩ := Wd.repNew s hq (r1.app r2)
  exact q _ _ _ p a1 a2 a3))
theorem rd_addT (hn : xs ≠ []) (h : xs.length + ys.length ≤ 100000) (p : k (.tup (xs ++ ys))) : RD K (gAdd K) (.tup xs) (.tup ys) k := RD.r (RD.r (RD.r fun w v u Q s rx ry q => by
  obtain ⟨l, vs, rfl, h1, r1⟩ := rx.tup_inv
  obtain ⟨m, us, rfl, h2, r2⟩ := ry.tup_inv
  have l1 := r1.len
  have l2 := r2.len
  refine ⟨l, m, vs, us, rfl, rfl, s.st h1, s.st h2, fun z => hn (List.eq_nil_of_length_eq_zero (by rw [← l1, z]; rfl)), sz_of (by omega), ?_, ?_⟩
  · intro z
    obtain rfl : ys = [] := List.eq_nil_of_length_eq_zero (by rw [← l2, z]; rfl)
    rw [List.append_nil] at p
    exact q _ _ _ p (LeP.refl w) s (.tup h1 r1)
  · intro z q' hq
    obtain ⟨a1, a2, a3⟩ := Wd.repNewT s hq (r1.app r2)
    exact q _ _ _ p a1 a2 a3))
theorem rd_sub (p : k (.int (i - j))) : RD K (rI0 fun i j => .int (i - j)) (.int i) (.int j) k := rd_i20 (fun _ => .int _) p
theorem cmulW {a b : Nat} (h1 : i.natAbs < 2 ^ a) (h2 : j.natAbs < 2 ^ b) (h : a + b ≤ 999000) : CMulW i j := by
  refine wide_mul (a := a + 1) (b := b + 1) (Nat.lt_of_lt_of_le h1 (Nat.pow_le_pow_right (by decide) (by omega))) (Nat.lt_of_lt_of_le h2 (Nat.pow_le_pow_right (by decide) (by omega))) (by omega) (by omega) (by omega)
theorem rd_mul (c : CMulW i j) (p : k (.int (i * j))) : RD K gMul (.int i) (.int j) k := RD.l (rd_i2 (fun _ => .int _) c p)
theorem rd_div (c : CDivW i j) (p : k (.int (i / j))) : RD K (rI CDivW fun i j => .int (i / j)) (.int i) (.int j) k := rd_i2 (fun _ => .int _) c p
theorem rd_mod (c : 0 < j) (p : k (.int (i % j))) : RD K (rI (fun _ j => 0 < j) fun i j => .int (i % j)) (.int i) (.int j) k := rd_i2 (fun _ => .int _) c p
theorem rd_pow (c : CPowW i j) (p : k (.int (i ^ j.toNat))) : RD K (rI CPowW fun i j => .int (i ^ j.toNat)) (.int i) (.int j) k := rd_i2 (fun _ => .int _) c p
theorem rd_lt (p : k (.bl (decide (i < j)))) : RD K gLt (.int i) (.int j) k := RD.l (rd_i20 (fun _ => .bl _) p)
theorem rd_le (p : k (.bl (decide (i ≤ j)))) : RD K gLe (.int i) (.int j) k := RD.l (rd_i20 (fun _ => .bl _) p)
theorem rd_gt (p : k (.bl (decide (j < i)))) : RD K gGt (.int i) (.int j) k := RD.l (rd_i20 (fun _ => .bl _) p)
theorem rd_ge (p : k (.bl (decide (j ≤ i)))) : RD K gGe (.int i) (.int j) k := RD.l (rd_i20 (fun _ => .bl _) p)
theorem rd_ltS (p : k (.bl (decide (a.cps.toList < b.cps.toList)))) : RD K gLt (.str a) (.str b) k := RD.r (rd_s2 (g := fun i j => .bl (decide (i.cps.toList < j.cps.toList))) (fun _ => .bl _) p)
theorem rd_leS (p : k (.bl (!decide (b.cps.toList < a.cps.toList)))) : RD K gLe (.str a) (.str b) k := RD.r (rd_s2 (g := fun i j => .bl (!decide (j.cps.toList < i.cps.toList))) (fun _ => .bl _) p)
theorem rd_gtS (p : k (.bl (decide (b.cps.toList < a.cps.toList)))) : RD K gGt (.str a) (.str b) k := RD.r (rd_s2 (g := fun i j => .bl (decide (j.cps.toList < i.cps.toList))) (fun _ => .bl _) p)
theorem rd_geS (p : k (.bl (!decide (a.cps.toList < b.cps.toList)))) : RD K gGe (.str a) (.str b) k := RD.r (rd_s2 (g := fun i j => .bl (!decide (i.cps.toList < j.cps.toList))) (fun _ => .bl _) p)
theorem rd_isN (p : k (.bl (match x with | .non => true | _ => false))) : RD K (fun x y H Q => y = .non ∧ Q (.bl (decide (x = .non))) H) x .non k := fun w v u Q s rx ry q => by
  refine ⟨ry.non_inv, q _ w _ p (LeP.refl w) s ?_⟩
  cases rx with
  | bl => rw [decide_eq_false (by simp)]; exact .bl _
  | _ => first | exact .bl _ | (rw [decide_eq_false (by simp)]; exact .bl _)
theorem rd_notN (p : k (.bl (match x with | .non => false | _ => true))) : RD K (fun x y H Q => y = .non ∧ Q (.bl (!decide (x = .non))) H) x .non k := fun w v u Q s rx ry q => by
  refine ⟨ry.non_inv, q _ w _ p (LeP.refl w) s ?_⟩
  cases rx with
  | bl => rw [decide_eq_false (by simp)]; exact .bl _
  | _ => first | exact .bl _ | (rw [decide_eq_false (by simp)]; exact .bl _)
theorem rd_eqD {p q : PyData} (hx : x.py = some p) (hy : y.py = some q) (sp : SeqAt.shaped p = true) (sq : SeqAt.shaped q = true) (c : k (.bl (PyData.eqv p q))) : RD K (rEqD K) x y k := rd_val (.bl (PyData.eqv p q)) (fun _ => .bl _) c fun w v u Q s rx ry z => ⟨p, q, rx.dp s hx, ry.dp s hy, sp, sq, z⟩
theorem rd_neD {p q : PyData} (hx : x.py = some p) (hy : y.py = some q) (sp : SeqAt.shaped p = true) (sq : SeqAt.shaped q = true) (c : k (.bl (!PyData.eqv p q))) : RD K (rNeD K) x y k := rd_val (.bl (!PyData.eqv p q)) (fun _ => .bl _) c fun w v u Q s rx ry z => ⟨p, q, rx.dp s hx, ry.dp s hy, sp, sq, z⟩
/-- places -/
theorem RepL.atI {S : Hp} {vs : List V} {d : D} (r : RepL K S vs xs) (h : atI xs i = some d) : ∃ v, atI vs i = some v ∧ Rep K S v d := by
  unfold L2.atI at h ⊢
  rw [r.len]
  cases e : (ixN xs.length i) with
  | none => rw [e] at h ; cases h
  | some n =>
    rw [e] at h
    exact r.get h
theorem rd_ixL {d : D} (hx : IsL x xs) (h : atI xs i = some d) (p : k d) : RD K (rIx K) x (.int i) k := fun w v u Q s rx ry q => by
  obtain ⟨l, vs, rfl, h1, r1⟩ := Rep.isL_inv hx rx
  obtain rfl := ry.int_inv
  obtain ⟨v, e, r⟩ := r1.atI h
  exact .inl ⟨l, vs, i, v, rfl, rfl, s.sl h1, e, q _ w _ p (LeP.refl w) s r⟩
theorem rd_ixT {d : D} (h : atI xs i = some d) (p : k d) : RD K (rIx K) (.tup xs) (.int i) k := fun w v u Q s rx ry q => by
  obtain ⟨l, vs, rfl, h1, r1⟩ := rx.tup_inv
  obtain rfl := ry.int_inv
  obtain ⟨v, e, r⟩ := r1.atI h
  exact .inr (.inl ⟨l, vs, i, v, rfl, rfl, s.st h1, e, q _ w _ p (LeP.refl w) s r⟩)
theorem rd_ixS {c : Nat} (hl : a.length ≤ 100000) (h : atI a.cps.toList i = some c) (p : k (.str ⟨#[c]⟩)) : RD K (rIx K) (.str a) (.int i) k := fun w v u Q s rx ry q => by
  obtain rfl := rx.str_inv
  obtain rfl := ry.int_inv
  exact .inr (.inr ⟨a, i, c, rfl, rfl, sz_of hl, h, q _ w _ p (LeP.refl w) s (.str _)⟩)
end
end DL

namespace DL
open PySem L2

/-! ### calls of builtins, fields, slices -/
section
variable {G : Gx} {ρ : Env} {P : D → Env → Prop} {ta te : TE} {t : TA} {tl th : TO}
theorem w_call {r : List V → Hp → VK → Prop} (h : WA G t ρ fun xs ρ1 => RC G.K r xs fun z => P z ρ1) : W G (tCB r t) ρ P := fun w σ Q o e q =>
  h w σ _ o e fun vs w1 xs ρ1 h1 l1 o1 r1 => h1 w1 vs _ o1.sub r1 fun z w2 vz pz l2 s2 r2 => q vz w2 z ρ1 pz (l1.trans l2.le) (o1.grow l2 s2) r2
theorem RepF.get {K : PySem.W.Frag} {S : Hp} {f : Str} {d : D} : ∀ {vs : List (Str × V)} {ds : List (Str × D)}, RepF K S vs ds → ds.lookup f = some d → ∃ v, vs.lookup f = some v ∧ Rep K S v d
  | _, _, .nil, h => by cases h
  | (g, v) :: vs, (_, e) :: ds, .cons r1 r2, h => by
    rw [List.lookup_cons] at h ⊢
    cases q : f == g with
    | true =>
      rw [q] at h
      have z := Option.some.inj h
      subst z
      exact ⟨v, rfl, r1⟩
    | false =>
      rw [q] at h
      exact RepF.get r2 h
theorem w_fld {f : Str} (h : W G ta ρ fun x ρ1 => ∃ c fs d, x = .obj c fs ∧ Cls G.K (clsAt G.K c) ∧ NoAttr G.K (clsAt G.K c) f ∧ fs.lookup f = some d ∧ P d ρ1) : W G (tFld G.K ta f) ρ P := fun w σ Q o e q =>
  h w σ _ o e fun v w1 x ρ1 ⟨c, fs, d, ex, hc, hn, hl, p⟩ l1 o1 r1 => by
    subst ex
    cases r1 with
    | @obj a dx _ xs _ h1 r1 =>
      obtain ⟨u, hu, ru⟩ := r1.get hl
      exact ⟨a, _, dx, xs, u, rfl, o1.sub.ins h1, hc, hn, hu, q u w1 d ρ1 p l1 o1 ru⟩
/-- the parts of a slice -/
def WP (G : Gx) (t : TO) (ρ : Env) (P : Option Int → Env → Prop) : Prop := ∀ w σ (Q : Option Int → Hp → Prop), Ok G w σ ρ → Esc G w → (∀ i w' ρ', P i ρ' → Le w w' → Ok G w' σ ρ' → Q i w'.H) → t σ w.H Q
variable {PP : Option Int → Env → Prop}
theorem wp_no (k : PP none ρ) : WP G tNoPart ρ PP := fun w _ _ o _ q => q none w ρ k (Le.refl w) o
theorem wp_int (h : W G te ρ fun x ρ1 => ∃ i, x = .int i ∧ PP (some i) ρ1) : WP G (tPart te) ρ PP := fun w σ Q o e q =>
  h w σ _ o e fun v w1 x ρ1 ⟨i, ex, p⟩ l1 o1 r1 => by
    subst ex
    exact ⟨i, r1.int_inv, q (some i) w1 ρ1 p l1 o1⟩
def RS (K : PySem.W.Frag) (r : V → Option Int → Option Int → Hp → VK → Prop) (x : D) (lo hi : Option Int) (k : D → Prop) : Prop := ∀ w v (Q : VK), Sub w.S w.H → Rep K w.S v x →
  (∀ z w' vz, k z → LeP w w' → Sub w'.S w'.H → Rep K w'.S vz z → Q vz w'.H) → r v lo hi w.H Q
theorem w_slice {r : V → Option Int → Option Int → Hp → VK → Prop} (h : W G te ρ fun x ρ1 => WP G tl ρ1 fun lo ρ2 => WP G th ρ2 fun hi ρ3 => RS G.K r x lo hi fun z => P z ρ3) : W G (tSl r te tl th) ρ P := fun w σ Q o e q =>
  h w σ _ o e fun v w1 x ρ1 h1 l1 o1 r1 => h1 w1 σ _ o1 (e.later l1) fun lo w2 ρ2 h2 l2 o2 => h2 w2 σ _ o2 (e.later (l1.trans l2)) fun hi w3 ρ3 h3 l3 o3 =>
    h3 w3 v Q o3.sub ((r1.mono l2.s).mono l3.s) fun z w4 vz pz l4 s4 r4 => q vz w4 z ρ3 pz (((l1.trans l2).trans l3).trans l4.le) (o3.grow l4 s4) r4
end
section
variable {X : Cx}
def gSl (K : PySem.W.Frag) : V → Option Int → Option Int → Hp → VK → Prop := fun x lo hi H Q => rSlL K x lo hi H Q ∨ rSlS x lo hi H Q ∨ rSlA K x lo hi H Q
theorem o_sl : SlR X (gSl X.K) := sl_list.or (sl_str.or sl_tupA)
end
def cutD (ds : List D) (lo hi : Option Int) : List D := (ds.drop (HT.sIx ds.length 0 lo)).take (HT.sIx ds.length ds.length hi - HT.sIx ds.length 0 lo)
section
variable {K : PySem.W.Frag} {k : D → Prop} {xs : List D} {x : D} {lo hi : Option Int} {a : Str}
theorem RepL.drop {S : Hp} : ∀ (n : Nat) {vs : List V} {ds : List D}, RepL K S vs ds → RepL K S (vs.drop n) (ds.drop n)
  | 0, _, _, r => r
  | _ + 1, _, _, .nil => .nil
  | n + 1, _, _, .cons _ r => RepL.drop n r
theorem RepL.take {S : Hp} : ∀ (n : Nat) {vs : List V} {ds : List D}, RepL K S vs ds → RepL K S (vs.take n) (ds.take n)
  | 0, _, _, _ => .nil
  | _ + 1, _, _, .nil => .nil
  | n + 1, _, _, .cons h r => .cons h (RepL.take n r)
theorem RepL.cut {S : Hp} {vs : List V} (r : RepL K S vs xs) : RepL K S (cutV vs lo hi) (cutD xs lo hi) := by
  unfold cutV cutD
  rw [r.len]
  exact RepL.take _ (RepL.drop _ r)
theorem rs_list (hx : IsL x xs) (p : k (.lst (cutD xs lo hi))) : RS K (gSl K) x lo hi k := fun w v Q s rx q => by
  obtain ⟨l, vs, rfl, h1, r1⟩ := Rep.isL_inv hx rx
  refine .inl ⟨l, vs, rfl, s.sl h1, fun q' hq => ?_⟩
  obtain ⟨a1, a2, a3⟩ := Wd.repNew s hq (r1.cut (lo := lo) (hi := hi))
  exact q _ _ _ p a1 a2 a3
theorem rs_str (h : a.length ≤ 100000) (p : k (.str (cutS a lo hi))) : RS K (gSl K) (.str a) lo hi k := fun w v Q s rx q => by
  obtain rfl := rx.str_inv
  exact .inr (.inl ⟨a, rfl, sz_of h, q _ w _ p (LeP.refl w) s (.str _)⟩)
end

/-! ### builtins at the data -/
section
variable {K : PySem.W.Frag} {k : D → Prop} {i j : Int} {a b : Str} {xs ys : List D} {x y : D}
theorem RepL.one {S : Hp} {vs : List V} (r : RepL K S vs [x]) : ∃ v, vs = [v] ∧ Rep K S v x := by
  cases r with
  | cons r1 r2 =>
    cases r2
    exact ⟨_, rfl, r1⟩
theorem RepL.two {S : Hp} {vs : List V} (r : RepL K S vs [x, y]) : ∃ v u, vs = [v, u] ∧ Rep K S v x ∧ Rep K S u y := by
  cases r with
  | cons r1 r2 =>
    obtain ⟨u, rfl, r3⟩ := r2.one
    exact ⟨_, u, rfl, r1, r3⟩
theorem rc_abs (p : k (.int (if i < 0 then -i else i))) : RC K (fun xs H Q => ∃ i, xs = [.int i] ∧ Q (.int (if i < 0 then -i else i)) H) [.int i] k := fun w vs Q s r q => by
  obtain ⟨v, rfl, r1⟩ := r.one
  obtain rfl := r1.int_inv
  exact ⟨i, rfl, q _ w _ p (LeP.refl w) s (.int _)⟩
theorem rc_int1 (p : k (.int i)) : RC K (fun xs H Q => (∃ i, xs = [.int i] ∧ Q (.int i) H) ∨ ∃ k, xs = [.bl k] ∧ Q (.int (if k then 1 else 0)) H) [.int i] k := fun w vs Q s r q => by
  obtain ⟨v, rfl, r1⟩ := r.one
  obtain rfl := r1.int_inv
  exact .inl ⟨i, rfl, q _ w _ p (LeP.refl w) s (.int _)⟩
theorem rc_lenL (hx : IsL x xs) (p : k (.int xs.length)) : RC K (fun xs H Q => ∃ x n, xs = [x] ∧ LenV K x H n ∧ Q (.int n) H) [x] k := fun w vs Q s r q => by
  obtain ⟨v, rfl, r1⟩ := r.one
  obtain ⟨l, vs, rfl, h1, r1⟩ := Rep.isL_inv hx r1
  exact ⟨_, xs.length, rfl, .inl ⟨vs, s.sl h1, r1.len.symm⟩, q _ w _ p (LeP.refl w) s (.int _)⟩
theorem rc_lenT (p : k (.int xs.length)) : RC K (fun xs H Q => ∃ x n, xs = [x] ∧ LenV K x H n ∧ Q (.int n) H) [.tup xs] k := fun w vs Q s r q => by
  obtain ⟨v, rfl, r1⟩ := r.one
  obtain ⟨l, vs, rfl, h1, r1⟩ := r1.tup_inv
  exact ⟨_, xs.length, rfl, .inr ⟨vs, s.st h1, r1.len.symm⟩, q _ w _ p (LeP.refl w) s (.int _)⟩
theorem rc_lenS (h : a.length ≤ 100000) (p : k (.int a.length)) : RC K (fun xs H Q => ∃ x n, xs = [x] ∧ LenV K x H n ∧ Q (.int n) H) [.str a] k := fun w vs Q s r q => by
  obtain ⟨v, rfl, r1⟩ := r.one
  obtain rfl := r1.str_inv
  exact ⟨_, a.length, rfl, ⟨sz_of h, rfl⟩, q _ w _ p (LeP.refl w) s (.int _)⟩
theorem rc_min2 (p : k (.int (if j < i then j else i))) : RC K (fun xs H Q => ∃ i j, xs = [.int i, .int j] ∧ Q (.int (if j < i then j else i)) H) [.int i, .int j] k := fun w vs Q s r q => by
  obtain ⟨v, u, rfl, r1, r2⟩ := r.two
  obtain rfl := r1.int_inv
  obtain rfl := r2.int_inv
  exact ⟨i, j, rfl, q _ w _ p (LeP.refl w) s (.int _)⟩
theorem rc_max2 (p : k (.int (if j > i then j else i))) : RC K (fun xs H Q => ∃ i j, xs = [.int i, .int j] ∧ Q (.int (if j > i then j else i)) H) [.int i, .int j] k := fun w vs Q s r q => by
  obtain ⟨v, u, rfl, r1, r2⟩ := r.two
  obtain rfl := r1.int_inv
  obtain rfl := r2.int_inv
  exact ⟨i, j, rfl, q _ w _ p (LeP.refl w) s (.int _)⟩
theorem RepL.ints {S : Hp} : ∀ {vs : List V} {ns : List Int}, RepL K S vs (ns.map .int) → vs = ns.map .int
  | _, [], .nil => rfl
  | _, _ :: _, .cons r1 r2 => by rw [r1.int_inv, RepL.ints r2]; rfl
theorem RepL.strs {S : Hp} : ∀ {vs : List V} {ns : List Str}, RepL K S vs (ns.map .str) → vs = ns.map .str
  | _, [], .nil => rfl
  | _, _ :: _, .cons r1 r2 => by rw [r1.str_inv, RepL.strs r2]; rfl
theorem RepL.bls {S : Hp} : ∀ {vs : List V} {ns : List Bool}, RepL K S vs (ns.map .bl) → vs = ns.map .bl
  | _, [], .nil => rfl
  | _, _ :: _, .cons r1 r2 => by rw [r1.bl_inv, RepL.bls r2]; rfl
theorem rc_sum {ns : List Int} (hx : IsL x (ns.map .int)) (p : k (.int ns.sum)) : RC K (rSum K) [x] k := fun w vs Q s r q => by
  obtain ⟨v, rfl, r1⟩ := r.one
  obtain ⟨l, vs, rfl, h1, r1⟩ := Rep.isL_inv hx r1
  rw [r1.ints] at h1
  exact ⟨l, ns, rfl, s.sl h1, q _ w _ p (LeP.refl w) s (.int _)⟩
theorem rc_all {ns : List Bool} (hx : IsL x (ns.map .bl)) (p : k (.bl (ns.all id))) : RC K (rAll K) [x] k := fun w vs Q s r q => by
  obtain ⟨v, rfl, r1⟩ := r.one
  obtain ⟨l, vs, rfl, h1, r1⟩ := Rep.isL_inv hx r1
  rw [r1.bls] at h1
  exact ⟨l, ns, rfl, s.sl h1, q _ w _ p (LeP.refl w) s (.bl _)⟩
theorem rc_any {ns : List Bool} (hx : IsL x (ns.map .bl)) (p : k (.bl (ns.any id))) : RC K (rAny K) [x] k := fun w vs Q s r q => by
  obtain ⟨v, rfl, r1⟩ := r.one
  obtain ⟨l, vs, rfl, h1, r1⟩ := Rep.isL_inv hx r1
  rw [r1.bls] at h1
  exact ⟨l, ns, rfl, s.sl h1, q _ w _ p (LeP.refl w) s (.bl _)⟩
theorem rc_str (h : i.natAbs.log2 < 1920) (p : k (.str (Str.ofString (toString i)))) : RC K (fun xs H Q => ∃ i, xs = [.int i] ∧ i.natAbs.log2 < 1920 ∧ Q (.str (Str.ofString (toString i))) H) [.int i] k := fun w vs Q s r q => by
  obtain ⟨v, rfl, r1⟩ := r.one
  obtain rfl := r1.int_inv
  exact ⟨i, rfl, h, q _ w _ p (LeP.refl w) s (.str _)⟩
theorem rc_list (hx : IsL x xs) (p : k (.lst xs)) : RC K (fun xs H Q => ∃ p ys, xs = [.ref p] ∧ (SqL K H p ys ∨ SqT K H p ys) ∧ ∀ l, H l = none → Q (.ref l) (upd H l (.lst ys))) [x] k := fun w vs Q s r q => by
  obtain ⟨v, rfl, r1⟩ := r.one
  obtain ⟨l, vs, rfl, h1, r1⟩ := Rep.isL_inv hx r1
  refine ⟨l, vs, rfl, .inl (s.sl h1), fun q' hq => ?_⟩
  obtain ⟨a1, a2, a3⟩ := Wd.repNew s hq r1
  exact q _ _ _ p a1 a2 a3
/-- built-in types -/
inductive TyB : D → String → Prop
  | non : TyB .non "NoneType"
  | bl (b : Bool) : TyB (.bl b) "bool"
  | int (i : Int) : TyB (.int i) "int"
  | str (x : Str) : TyB (.str x) "str"
  | tup (ds : List D) : TyB (.tup ds) "tuple"
  | lst (ds : List D) : TyB (.lst ds) "list"
  | dic (ds : List (Key × D)) : TyB (.dic ds) "dict"
theorem TyB.ty {S H : Hp} {v : V} {n : String} (s : Sub S H) (t : TyB x n) (r : Rep K S v x) : TyX K H v (.type n) := by
  cases t with
  | non => obtain rfl := r.non_inv; exact .base .non
  | bl b => obtain rfl := r.bl_inv; exact .base (.bl b)
  | int i => obtain rfl := r.int_inv; exact .base (.int i)
  | str x => obtain rfl := r.str_inv; exact .base (.str x)
  | tup ds =>
    obtain ⟨p, vs, rfl, h1, _⟩ := r.tup_inv
    rcases s.st h1 with h | ⟨o, its, n, hk, hc, _⟩
    · rcases h with h | ⟨o, h⟩
      · exact .base (.tup h)
      · exact .fTuple h
    · exact .kTuple hk hc
  | lst ds =>
    cases r with
    | lst h r =>
      rcases s.rd h (fun _ _ z => by cases z) with h | ⟨o, h⟩
      · exact .base (.lst h)
      · exact .base (.frz h)
  | dic ds =>
    cases r with
    | dic h r =>
      rcases s.dk h with h | ⟨o, h⟩
      · exact .base (.dK h)
      · exact .fDict h
theorem rc_isi {n m : String} {b : Bool} (t : TyB x m) (h : kitB m n = some b) (p : k (.bl b)) : RC K (rIsi K) [x, .ty n] k := fun w vs Q s r q => by
  obtain ⟨v, u, rfl, r1, r2⟩ := r.two
  cases r2
  exact ⟨v, .ty n, .type m, .type n, b, rfl, .ty n, t.ty s r1, kit_ty h, q _ w _ p (LeP.refl w) s (.bl _)⟩
end
end DL

namespace DC
open PySem L2 PySem.Spec PyProof.Rows
abbrev St := L2.St

/-! ### defs while nothing is being shown -/
/-- as the kit's promise of a def, where no repr is under way -/
structure FnG (prg : Program) (wd : World) (K : PySem.W.Frag) (mg : Str → Option Value) (bs : Heap) (CX : CXT) (lv : Nat) (f : Addr) (fd : FuncData) (names : List Str) (sp : Sp) : Prop where
  ln : ∀ xs H Q E, sp xs H Q E → xs.length = names.length
  go : ∀ (A : Around) (fr : List Env) (s : Shared) (H : Hp) (given : Args) (us : List Value) (xs : List V) (Q : VK) (E : XK), A.guards = some [] → Room lv A → Env0 prg wd K mg bs A fr s H → BindsTo s fd given (names.zip us) → Vals xs us → sp xs H Q E →
    codeAny (model prg wd) A (.call (.ref f) given) (CR CX fr prg wd H s Q E) s
theorem FnG.up {prg : Program} {wd : World} {K : PySem.W.Frag} {mg : Str → Option Value} {bs : Heap} {CX : CXT} {lv lw : Nat} {f : Addr} {fd : FuncData} {names : List Str} {sp : Sp} (F : FnG prg wd K mg bs CX lv f fd names sp) (h : lv ≤ lw) : FnG prg wd K mg bs CX lw f fd names sp :=
  ⟨F.ln, fun A fr s H given us xs Q E hg hr => F.go A fr s H given us xs Q E hg (hr.mono h)⟩
section
variable {X : Cx} {CX : CXT} {lv : Nat} {f : Addr} {fd : FuncData} {names : List Str} {sp : Sp} {dvs : List V} {dus : List Value} {E : St → XK}
/-- the callee's run, from bound arguments -/
theorem goesTo {E1 : XK} {pins : List (Addr × Obj)} {σ : St} {H : Hp} {s : Shared} {Q : VK} {given : Args} {us : List Value} {xs : List V} (F : FnG X.prog X.w X.K X.mg X.base CX lv f fd names sp) (gd : X.A.guards = some []) (room : Room lv X.A) (bnd : BindsTo s fd given (names.zip us))
    (esc : ∀ e s', CX X.stack H s E1 e s' → X.xe e s') (J : Inv X pins σ H s) (rel : Vals xs us) (wish : sp xs H Q E1) : codeAny (model X.prog X.w) X.A (.call (.ref f) given) (fun r s' => match r with
      | .ok (.ret u) => EP X pins σ Q u s'
      | .ok _ => False
      | .error e => X.xe e s') s :=
  codeAny_mono (F.go X.A X.stack s H given us xs Q E1 gd room J.env0 bnd rel wish) fun out s' got => by
    match out, got with
    | .error e, got => exact esc e s' got
    | .ok (.ret u), got => exact J.after got
    | .ok .next, got => exact got.elim
    | .ok .brk, got => exact got.elim
    | .ok .cont, got => exact got.elim
theorem goes {pins : List (Addr × Obj)} {σ : St} {H : Hp} {s : Shared} {Q : VK} {us : List Value} {xs : List V} (F : FnG X.prog X.w X.K X.mg X.base CX lv f fd names sp) (gd : X.A.guards = some []) (room : Room lv X.A) (bnd : Binds X.K fd names dus) (dv : Vals dvs dus)
    (esc : PassesAt CX X σ (E σ)) (J : Inv X pins σ H s) (rel : Vals xs us) (wish : sp (xs ++ dvs) H Q (E σ)) : wpAny (model X.prog X.w) X.A (call (.ref f) us) (EP X pins σ Q) X.xe s := by
  have rel2 := rel.append dv
  have cnt : (us ++ dus).length = names.length := rel2.length.symm.trans (F.ln _ _ _ _ wish)
  refine wpAny_call (codeAny_mono (goesTo F gd room (bnd s us J.kIn cnt) (fun e s' c => esc pins H s e s' J c) J rel2 wish) fun out s' got => ?_)
  match out, got with
  | .error e, got => exact got
  | .ok (.ret u), got => exact got
  | .ok .next, got => exact got
  | .ok .brk, got => exact got
  | .ok .cont, got => exact got
variable {x m : Str} {p pos apos : Pos} {e o : Expr} {es : List Expr} {ta : TE} {t : TA}
theorem pe_callG (F : FnG X.prog X.w X.K X.mg X.base CX lv f fd names sp) (gd : X.A.guards = some []) (room : Room lv X.A) (gl : Gl X x) (at_ : X.mg x = some (.ref f)) (kept : PySem.W.keepIn X.K (.ref f) = true) (bnd : Binds X.K fd names dus) (dv : Vals dvs dus) (esc : ∀ σ, PassesAt CX X σ (E σ))
    (args : PA X (e :: es) t) (nodbg : (x == ("__debug__" : Str)) = false := by decide) (st : starEach (e :: es) X.env = (false, eval e X.env) :: starEach es X.env := by rfl) (pln : (backTo pos (starEach es X.env)).any (·.1) = false := by rfl) :
    PE X (.Call (.Name x p) (e :: es) [] pos) (tCallSD sp dvs E t) :=
  ⟨fun pins s σ H Q J wish => wpAny_Call_Name_kw (ld_glob J gl at_ (PySem.W.callWith_K (h₀ := X.base) J.ok.mod.kin kept (thn (args.run pos pins s σ H _ J wish) fun us s1 ⟨xs, H1, J1, rel, q⟩ => ⟨J1.kIn, goes F gd room bnd dv (esc σ) J1 rel q⟩) st pln) nodbg)⟩
theorem pe_callG0 (F : FnG X.prog X.w X.K X.mg X.base CX lv f fd names sp) (gd : X.A.guards = some []) (room : Room lv X.A) (gl : Gl X x) (at_ : X.mg x = some (.ref f)) (kept : PySem.W.keepIn X.K (.ref f) = true) (bnd : Binds X.K fd names dus) (dv : Vals dvs dus) (esc : ∀ σ, PassesAt CX X σ (E σ))
    (nodbg : (x == ("__debug__" : Str)) = false := by decide) : PE X (.Call (.Name x p) [] [] pos) (tCallSD sp dvs E tNil) :=
  ⟨fun pins s σ H Q J wish => wpAny_Call_Name_kw (ld_glob J gl at_ (PySem.W.callWith_K0 J.kIn kept (goes (us := []) (xs := []) F gd room bnd dv (esc σ) J .nil wish)) nodbg)⟩
/-- o.m(..), what is raised by the caller's slots -/
def tMethS (C : Addr) (m : Str) (sp : Sp) (dvs : List V) (E : St → XK) (ta : TE) (t : TA) : TE := fun σ H Q => ta σ H fun x H1 => ∃ a dx fs, x = .ref a ∧ H1 a = some (.ins C dx fs) ∧ fs.lookup m = none ∧
  t σ H1 fun vs H2 => sp (x :: (vs ++ dvs)) H2 Q (E σ)
variable {C : Addr}
theorem pe_methG {pl : Sem Bool} (ob : PE X o ta) (cl : Cls X.K C) (me : Meth X.K C m f) (F : FnG X.prog X.w X.K X.mg X.base CX lv f fd names sp) (gd : X.A.guards = some []) (room : Room lv X.A) (bnd : Binds X.K fd names dus) (dv : Vals dvs dus) (esc : ∀ σ, PassesAt CX X σ (E σ)) (args : PA X (e :: es) t)
    (st : starEach (e :: es) X.env = (false, eval e X.env) :: starEach es X.env := by rfl) (pln : (backTo pos (starEach es X.env)).any (·.1) = false := by rfl)
    (ev : eval (.Call (.Attribute o m apos) (e :: es) [] pos) X.env = (do
      let self ← eval o X.env
      standAt apos.atName
      let (g, fst) ← holding [self] (getMethod self m pl)
      callWith pos g fst (backTo pos (starEach (e :: es) X.env)) (backToKw pos (keywordEach [] X.env))) := by rfl) :
    PE X (.Call (.Attribute o m apos) (e :: es) [] pos) (tMethS C m sp dvs E ta t) :=
  ⟨fun pins s σ H Q J wish => PySem.W.methodCall_KW (pl := pl) (thn (ob.run pins s σ H _ J wish) fun u s1 ⟨x, H1, J1, rx, a, dx, fs, ex, ea, l, q⟩ => by
    subst ex
    cases (show u = .ref a from rx)
    exact getmeth_ok J1 ea cl me l (PySem.W.callWith_K (first := [.ref a]) (h₀ := X.base) J.ok.mod.kin me.kp (thn (args.run pos pins s1 σ H1 _ J1 q) fun us s2 ⟨xs, H2, J2, rel, q2⟩ => ⟨J2.kIn, goes (us := .ref a :: us) (xs := .ref a :: xs) F gd room bnd dv (esc σ) J2 (.cons rfl rel) q2⟩) st pln)) ev⟩
theorem pe_methG0 {pl : Sem Bool} (ob : PE X o ta) (cl : Cls X.K C) (me : Meth X.K C m f) (F : FnG X.prog X.w X.K X.mg X.base CX lv f fd names sp) (gd : X.A.guards = some []) (room : Room lv X.A) (bnd : Binds X.K fd names dus) (dv : Vals dvs dus) (esc : ∀ σ, PassesAt CX X σ (E σ))
    (ev : eval (.Call (.Attribute o m apos) [] [] pos) X.env = (do
      let self ← eval o X.env
      standAt apos.atName
      let (g, fst) ← holding [self] (getMethod self m pl)
      callWith pos g fst (backTo pos (starEach [] X.env)) (backToKw pos (keywordEach [] X.env))) := by rfl) :
    PE X (.Call (.Attribute o m apos) [] [] pos) (tMethS C m sp dvs E ta tNil) :=
  ⟨fun pins s σ H Q J wish => PySem.W.methodCall_KW (pl := pl) (thn (ob.run pins s σ H _ J wish) fun u s1 ⟨x, H1, J1, rx, a, dx, fs, ex, ea, l, q⟩ => by
    subst ex
    cases (show u = .ref a from rx)
    exact getmeth_ok J1 ea cl me l (PySem.W.callWith_K0 (first := [.ref a]) J1.kIn me.kp (goes (us := [.ref a]) (xs := [.ref a]) F gd room bnd dv (esc σ) J1 (.cons rfl .nil) q))) ev⟩
/-- C(..) -/
def tMakeS (C : Addr) (sp : Sp) (dvs : List V) (E : St → XK) (t : TA) : TE := fun σ H Q => t σ H fun vs H1 => ∀ x dx, H1 x = none → H1 dx = none → dx ≠ x →
  sp (.ref x :: (vs ++ dvs)) (upd (upd H1 dx (.own x)) x (.ins C dx [])) (fun v H2 => v = .non ∧ Q (.ref x) H2) (E σ)
theorem guards_make {A : Around} {us : List Value} {kw : List (Str × Value)} (h : A.guards = some []) : (A.under (.builtin "type.__call__" ⟨.ref C :: us, kw⟩)).guards = some [] := by
  simp [Around.under, Code.guards, Code.isGuard, guardIds, pushGuards, h]
theorem pe_makeG (mk : Mk X.K C f) (F : FnG X.prog X.w X.K X.mg X.base CX lv f fd names sp) (gd : X.A.guards = some []) (room : Room (lv + 1) X.A) (gl : Gl X x) (at_ : X.mg x = some (.ref C)) (bnd : Binds X.K fd names dus) (dv : Vals dvs dus) (esc : ∀ σ, PassesAt CX X σ (E σ)) (args : PA X (e :: es) t)
    (nodbg : (x == ("__debug__" : Str)) = false := by decide) (st : starEach (e :: es) X.env = (false, eval e X.env) :: starEach es X.env := by rfl) (pln : (backTo pos (starEach es X.env)).any (·.1) = false := by rfl) :
    PE X (.Call (.Name x p) (e :: es) [] pos) (tMakeS C sp dvs E t) :=
  ⟨fun pins s σ H Q J wish => wpAny_Call_Name_kw (ld_glob J gl at_ (PySem.W.callWith_K (h₀ := X.base) J.ok.mod.kin mk.kp (thn (args.run pos pins s σ H _ J wish) fun us s1 ⟨xs, H1, J1, rel, q⟩ => ⟨J1.kIn, by
    have q2 := q (s1.heap.objs.size + 1) s1.heap.objs.size (J1.hok.fresh (Nat.le_succ _)) (J1.hok.fresh (Nat.le_refl _)) (Nat.ne_of_lt (Nat.lt_succ_self _))
    have J2 := Inv.made (C := C) J1
    have rel2 : Vals (V.ref (s1.heap.objs.size + 1) :: (xs ++ dvs)) (Value.ref (s1.heap.objs.size + 1) :: (us ++ dus)) := .cons rfl (rel.append dv)
    have cnt : (Value.ref (s1.heap.objs.size + 1) :: us ++ dus).length = names.length := rel2.length.symm.trans (F.ln _ _ _ _ q2)
    refine wpAny_call (make_map (f := f) J1.kIn mk.makes mk.init (beq_iff_eq.mp mk.fn) (codeAny_mono (F.go _ X.stack _ _ ⟨Value.ref (s1.heap.objs.size + 1) :: us, []⟩ (Value.ref (s1.heap.objs.size + 1) :: (us ++ dus)) _ _ (E σ) (guards_make gd) (room.make C us [])
      (J2.env0.make C us []) (bnd _ (Value.ref (s1.heap.objs.size + 1) :: us) J2.kIn cnt) rel2 q2) fun out s' got => ?_))
    match out, got with
    | .error er, got => exact esc σ pins _ _ er s' J2 got
    | .ok (.ret u), got =>
      obtain ⟨v, H', J3, rv, ev, q3⟩ := J2.after got
      subst ev
      exact ⟨rv, ⟨V.ref (s1.heap.objs.size + 1), H', J3, rfl, q3⟩⟩
    | .ok .next, got => exact got.elim
    | .ok .brk, got => exact got.elim
    | .ok .cont, got => exact got.elim⟩) st pln) nodbg)⟩
end
section
variable {prg : Program} {wd : World} {K : PySem.W.Frag} {mg : Str → Option Value} {bs : Heap}
theorem guards_deeper {A : Around} {env : Env} (h : A.guards = some []) : (A.deeper env).guards = some [] := h
/-- a def of the text, by its body -/
theorem fnG_of {x qual : Str} {params : Arguments} {body : List Stmt} {scp : Scope} {dfl : List V} {kwd : List (Str × V)} {f : Addr} {fd : FuncData} {N names : List Str} {lv : Nat} {sp : Sp} (F : FunD K x qual params body scp dfl kwd f fd) (sc : FnScope N names scp) (ln : ∀ xs H Q E, sp xs H Q E → xs.length = names.length)
    (bd : ∀ (cdv : Value) (A : Around) (fr : List Env) (s : Shared) (H : Hp) (xs : List V) (Q : VK) (E : XK), (A.deeper (envOfC qual scp s.heap.objs.size f cdv)).guards = some [] → Room lv (A.deeper (envOfC qual scp s.heap.objs.size f cdv)) → sp xs H Q E →
      ∃ t, PSs (cxOf (L2.CX prg wd) prg wd K mg bs N qual scp f cdv A fr s H E) body t ∧ t { nx := fun _ H' => Q .non H', rt := Q } (start N xs) H) : FnG prg wd K mg bs (L2.CX prg wd) (lv + 1) f fd names sp := by
  obtain ⟨oc, od, dV, kV, dc, pm, an, cdv, ct, os_, rfl, lk, hcd, _, _⟩ := F.ex
  refine ⟨ln, fun A fr s H given us xs Q E gd room e0 bnd rel wish => ?_⟩
  have cnt := ln _ _ _ _ wish
  have kin : K.In s.heap := e0.mod.kin.keeps fun b o z => (e0.bs b o z).1
  have nol : s.heap.NoLimit := e0.mod.nolimit.keeps fun b o z => (e0.bs b o z).1
  have kinds : ∀ y ∈ names.zip us, scp.names.lookup y.1 = some .local ∨ (scp.names.lookup y.1 = some .cell ∧ ((cellsFrom (s.heap.objs.size + 1) scp.names []).lookup y.1).isSome = true) := by
    rintro ⟨n, v⟩ mem
    cases sc.par n (List.of_mem_zip mem).1 with
    | inl q => exact .inl q
    | inr q => exact .inr ⟨q, PySem.W.cellsFrom_some _ _ _ (.inl q)⟩
  refine codeAny_call_function room.depth (kin _ _ lk) rfl sc.co sc.gen rfl (PySem.W.codeRec_of kin hcd) (bnd _ _ _ _ (wpAny_newFunctionEnv_cells sc.kind kinds fun env he s1 y => ?_))
  subst he
  refine ⟨nol.keeps y.toInCall.keep, codeAny_func ?_⟩
  obtain ⟨t, ht, hq⟩ := bd cdv A fr s H xs Q E (guards_deeper gd) (room.deeper _) wish
  have J : Inv (cxOf (L2.CX prg wd) prg wd K mg bs N qual scp f cdv A fr s H E) [] (start N xs) H s1 := inv_start sc room.hd e0 cnt rel y
  refine wpAny_mono (ht.run [] s1 (start N xs) H _ J hq) (fun out s' got => ?_) fun e s' got => got
  match out, got with
  | .ret u, ⟨v, σ', H', J', rv, q⟩ => exact ⟨v, H', J'.os, J'.bare, J'.base, J'.hok, rv, q⟩
  | .next, ⟨σ', H', J', q⟩ => exact ⟨V.non, H', J'.os, J'.bare, J'.base, J'.hok, rfl, q⟩
  | .brk, ⟨_, _, _, q⟩ => exact False.elim q
  | .cont, ⟨_, _, _, q⟩ => exact False.elim q
end
end DC

namespace DL
open PySem L2

/-! ### contracts -/
inductive Out where
  | ret (m : M)
  | err (c : Str) (fs : List (Str × D))
/-- what a def wishes of its arguments, so that k holds of its end and the arguments then -/
structure Con where
  c : List M → (Out → List M → Prop) → Prop
  mono : ∀ ms k k', (∀ o m, k o m → k' o m) → c ms k → c ms k'
def EndC (K : PySem.W.Frag) (w : Wd) (vs : List V) (Q : VK) (E : XK) (o : Out) (ms' : List M) : Prop := ∀ w' fp', Le w w' → Sub w'.S w'.H → OwnL K w'.S w'.H vs ms' fp' → match o with
  | .ret m => ∀ v fr, OwnR K w'.S w'.H v m fr → w'.F = fp' ++ fr → w'.F.Nodup → Q v w'.H
  | .err c fs => ∀ d, ExcAt K w'.S c fs d → w'.F = fp' → w'.F.Nodup → E (.ref (clsAt K c)) d w'.H
def toSp (K : PySem.W.Frag) (n : Nat) (C : Con) : Sp := fun vs H Q E => ∃ (w : Wd) (ms : List M), w.H = H ∧ Sub w.S w.H ∧ OwnL K w.S w.H vs ms w.F ∧ w.F.Nodup ∧ ms.length = n ∧ C.c ms (EndC K w vs Q E)
theorem OwnL.len {K : PySem.W.Frag} {S H : Hp} : ∀ {vs : List V} {ms : List M} {fp : List Addr}, OwnL K S H vs ms fp → vs.length = ms.length
  | _, _, _, .nil => rfl
  | _, _, _, .cons _ r => by rw [List.length_cons, List.length_cons, OwnL.len r]
theorem RepF.none {K : PySem.W.Frag} {S : Hp} {f : Str} : ∀ {vs : List (Str × V)} {ds : List (Str × D)}, RepF K S vs ds → ds.lookup f = none → vs.lookup f = none
  | _, _, .nil, _ => rfl
  | (g, v) :: vs, (_, e) :: ds, .cons r1 r2, h => by
    rw [List.lookup_cons] at h ⊢
    cases q : f == g with
    | true =>
      rw [q] at h
      cases h
    | false =>
      rw [q] at h
      exact RepF.none r2 h
theorem toSp_len {K : PySem.W.Frag} {n : Nat} {C : Con} {ps : List Str} (h : ps.length = n) : ∀ vs H Q E, toSp K n C vs H Q E → vs.length = ps.length := fun vs H Q E ⟨w, ms, _, _, o, _, hl, _⟩ => by rw [o.len, hl, h]

section
variable {G : Gx} {ρ : Env} {t : TA} {PO : M → Env → Prop} {C : Con} {n : Nat} {dvs : List V} {dds : List D}
theorem ownL_inv {K : PySem.W.Frag} {S H : Hp} : ∀ {vs : List V} {ds : List D} {fp : List Addr}, OwnL K S H vs (ds.map .sh) fp → RepL K S vs ds ∧ fp = []
  | _, [], _, .nil => ⟨.nil, rfl⟩
  | _, _ :: _, _, .cons (.sh r) q => by
    obtain ⟨h1, h2⟩ := ownL_inv q
    subst h2
    exact ⟨.cons r h1, rfl⟩
/-- the caller's world again behind a callee that owned fp of it -/
theorem OkE.back {w : Wd} {σ : St} {fp fr : List Addr} {w' : Wd} (o : OkE G w σ ρ fp) (l : Le ⟨w.S, w.H, fp⟩ w') (s : Sub w'.S w'.H) (hf : w'.F = fr) (nd : w'.F.Nodup) : ∃ w2, Le w w2 ∧ w2.S = w'.S ∧ w2.H = w'.H ∧ OkE G w2 σ ρ fr := by
  obtain ⟨fps, e, ef⟩ := o.env
  have ndw := o.nd
  rw [ef] at ndw
  obtain ⟨n1, n2, n3⟩ := List.nodup_append.mp ndw
  have at_ := e.at_
  have nfp : ∀ x ∈ fps.flatten, x ∉ fp := fun x h1 h2 => n3 x h1 x h2 rfl
  have hr : ∀ x ∈ fr, x ∈ fp ∨ w.H x = none := fun x hx => l.f x (by rw [hf]; exact hx)
  refine ⟨⟨w'.S, w'.H, fps.flatten ++ fr⟩, ⟨l.s, fun x u h hn => l.h x u h (fun z => hn (by rw [ef]; exact List.mem_append_right _ z)), fun x h hn => l.n x h (fun z => hn (by rw [ef]; exact List.mem_append_right _ z)), fun x hx => ?_⟩, rfl, rfl, s, ⟨fps, e.keep l.s (fun x hx => l.n x (at_ x hx).2 (nfp x hx) (at_ x hx).1) (fun x hx u hu => l.h x u hu (nfp x hx)), rfl⟩, ?_, o.px⟩
  · rcases List.mem_append.mp hx with h | h
    · exact .inl (by rw [ef]; exact List.mem_append_left _ h)
    · rcases hr x h with h | h
      · exact .inl (by rw [ef]; exact List.mem_append_right _ h)
      · exact .inr h
  · refine List.nodup_append.mpr ⟨n1, by rw [← hf]; exact nd, fun x hx y hy z => ?_⟩
    subst z
    rcases hr x hy with h | h
    · exact nfp x hx h
    · exact (at_ x hx).2 h
/-- a call, all arguments data -/
theorem wo_callD (hd : ∀ S, RepL G.K S dvs dds) (h : WA G t ρ fun ds ρ1 => (ds ++ dds).length = n ∧ C.c ((ds ++ dds).map .sh) (fun o _ => match o with | .ret m => PO m ρ1 | .err c fs => G.er c fs ρ1)) :
    WO G (tCallSD (toSp G.K n C) dvs (fun σ cls d H => G.Wx cls d σ H) t) ρ PO := fun w σ Q o e q =>
  h w σ _ o e fun vs w1 ds ρ1 ⟨hl, hc⟩ l1 o1 r1 => by
    have r2 := r1.app (hd w1.S)
    refine ⟨⟨w1.S, w1.H, []⟩, (ds ++ dds).map .sh, rfl, o1.sub, ownL_of r2, List.nodup_nil, by rw [List.length_map]; exact hl, C.mono _ _ _ (fun oc ms' hk => ?_) hc⟩
    intro w' fp' l s ow
    cases oc with
    | ret m =>
      intro v fr om hF nd
      have nd2 : (w'.less fr).F.Nodup := by
        show fr.Nodup
        rw [hF] at nd
        exact (List.nodup_append.mp nd).2.1
      have l2 : Le ⟨w1.S, w1.H, []⟩ (w'.less fr) := l.trans (Wd.le_less fun x hx => by rw [hF]; exact List.mem_append_right _ hx)
      obtain ⟨w2, l3, eS, eH, o2⟩ := OkE.back (fp := []) o1 l2 s rfl nd2
      have z := q v w2 m ρ1 fr hk (l1.trans l3) o2 (by rw [eS, eH]; exact om)
      rw [eH] at z
      exact z
    | err c fs =>
      intro d ex hF nd
      have l2 : Le ⟨w1.S, w1.H, []⟩ (w'.less []) := l.trans (Wd.le_less fun x hx => by cases hx)
      obtain ⟨w2, l3, eS, eH, o2⟩ := OkE.back (fp := []) o1 l2 s rfl List.nodup_nil
      have z := e w2 σ ρ1 c fs d hk (l1.trans l3) o2 (by rw [eS]; exact ex)
      rw [eH] at z
      exact z
/-- o.m(..), all of them data -/
theorem wo_methD {ta : TE} {CA : Addr} {m : Str} (hd : ∀ S, RepL G.K S dvs dds) (h : W G ta ρ fun x ρ1 => ∃ c fs, x = .obj c fs ∧ CA = clsAt G.K c ∧ fs.lookup m = none ∧ WA G t ρ1 fun ds ρ2 => (x :: (ds ++ dds)).length = n ∧
      C.c ((x :: (ds ++ dds)).map .sh) (fun o _ => match o with | .ret m => PO m ρ2 | .err c fs => G.er c fs ρ2)) :
    WO G (DC.tMethS CA m (toSp G.K n C) dvs (fun σ cls d H => G.Wx cls d σ H) ta t) ρ PO := fun w σ Q o e q =>
  h w σ _ o e fun v0 w0 x ρ0 ⟨c, fs, ex, eC, hlk, h1⟩ l0 o0 r0 => by
    subst ex
    subst eC
    have r00 := r0
    cases r0 with
    | @obj a dx _ xs _ ha rf =>
      have hno : xs.lookup m = none := rf.none hlk
      refine ⟨a, dx, xs, rfl, o0.sub.ins ha, hno, h1 w0 σ _ o0 (e.later l0) fun vs w1 ds ρ1 ⟨hl, hc⟩ l1 o1 r1 => ?_⟩
      have r2 : RepL G.K w1.S (.ref a :: (vs ++ dvs)) (.obj c fs :: (ds ++ dds)) := .cons (r00.mono l1.s) (r1.app (hd w1.S))
      refine ⟨⟨w1.S, w1.H, []⟩, (.obj c fs :: (ds ++ dds)).map .sh, rfl, o1.sub, ownL_of r2, List.nodup_nil, by rw [List.length_map]; exact hl, C.mono _ _ _ (fun oc ms' hk => ?_) hc⟩
      intro w' fp' l s ow
      have l01 := l0.trans l1
      cases oc with
      | ret m =>
        intro v fr om hF nd
        have nd2 : (w'.less fr).F.Nodup := by
          show fr.Nodup
          rw [hF] at nd
          exact (List.nodup_append.mp nd).2.1
        have l2 : Le ⟨w1.S, w1.H, []⟩ (w'.less fr) := l.trans (Wd.le_less fun x hx => by rw [hF]; exact List.mem_append_right _ hx)
        obtain ⟨w2, l3, eS, eH, o2⟩ := OkE.back (fp := []) o1 l2 s rfl nd2
        have z := q v w2 m ρ1 fr hk (l01.trans l3) o2 (by rw [eS, eH]; exact om)
        rw [eH] at z
        exact z
      | err c' fs' =>
        intro d ex hF nd
        have l2 : Le ⟨w1.S, w1.H, []⟩ (w'.less []) := l.trans (Wd.le_less fun x hx => by cases hx)
        obtain ⟨w2, l3, eS, eH, o2⟩ := OkE.back (fp := []) o1 l2 s rfl List.nodup_nil
        have z := e w2 σ ρ1 c' fs' d hk (l01.trans l3) o2 (by rw [eS]; exact ex)
        rw [eH] at z
        exact z
/-- a call, the first argument a name's own thing -/
theorem OkE.putBack {w : Wd} {σ : St} {i : Nat} {v : V} {m : M} {fp fr : List Addr} (o : OkE G w σ (ρ.set i none) (fp ++ fr)) (hv : σ[i]? = some (some v)) (r : OwnR G.K w.S w.H v m fp) (hl : i < ρ.length) : ∃ w', Le w w' ∧ w'.S = w.S ∧ w'.H = w.H ∧ OkE G w' σ (ρ.set i (some m)) fr := by
  obtain ⟨fps, e, f⟩ := o.env
  have nd := o.nd
  rw [f] at nd
  obtain ⟨nd1, nd2, nd3⟩ := List.nodup_append.mp nd
  obtain ⟨nd4, nd5, nd6⟩ := List.nodup_append.mp nd2
  have es : σ.set i (some v) = σ := by
    apply List.ext_getElem?
    intro j
    by_cases z : i = j
    · subst z
      have hl : i < σ.length := (List.getElem?_eq_some_iff.mp hv).1
      rw [List.getElem?_set_self hl, hv]
    · rw [List.getElem?_set_ne z]
  have e2 := e.set i r
  rw [es, List.set_set] at e2
  have sub : ∀ x ∈ (fps.set i fp).flatten ++ fr, x ∈ w.F := fun x hx => by
    rw [f]
    rcases List.mem_append.mp hx with h | h
    · rcases mem_flatten_set h with h | h
      · exact List.mem_append_left _ h
      · exact List.mem_append_right _ (List.mem_append_left _ h)
    · exact List.mem_append_right _ (List.mem_append_right _ h)
  refine ⟨w.less ((fps.set i fp).flatten ++ fr), Wd.le_less sub, rfl, rfl, o.sub, ⟨_, e2, rfl⟩, ?_, o.px⟩
  show ((fps.set i fp).flatten ++ fr).Nodup
  refine List.nodup_append.mpr ⟨nodup_flatten_set nd1 nd4 (fun x h q => nd3 x (mem_flatten_nil q) x (List.mem_append_left _ h) rfl), nd5, fun x hx y hy z => ?_⟩
  subst z
  rcases mem_flatten_set hx with h | h
  · exact nd3 x h x (List.mem_append_right _ hy) rfl
  · exact nd6 x h x hy rfl
theorem wo_callO {i : Nat} (hd : ∀ S, RepL G.K S dvs dds) (hp : ∃ m, ρ[i]? = some (some m)) (h : WA G t ρ fun ds ρ1 => ∃ m, ρ1[i]? = some (some m) ∧ (m :: (ds ++ dds).map .sh).length = n ∧
      C.c (m :: (ds ++ dds).map .sh) (fun o ms' => ∃ m' r, ms' = m' :: r ∧ match o with | .ret a => PO a (ρ1.set i (some m')) | .err c fs => G.er c fs (ρ1.set i (some m')))) :
    WO G (tCallSD (toSp G.K n C) dvs (fun σ cls d H => G.Wx cls d σ H) (tCons (tVar i) t)) ρ PO := fun w σ Q o e q => by
  obtain ⟨m0, hm0⟩ := hp
  obtain ⟨v, _, _, hv, _⟩ := o.takeM hm0
  refine ⟨v, hv, h w σ _ o e fun vs w1 ds ρ1 ⟨m, hm, hl, hc⟩ l1 o1 r1 => ?_⟩
  obtain ⟨v', fp, w2, hv', l2, eS, eH, o2, om⟩ := o1.takeM hm
  obtain rfl : v' = v := by
    rw [hv] at hv'
    exact (Option.some.inj (Option.some.inj hv')).symm
  have hil : i < ρ1.length := (List.getElem?_eq_some_iff.mp hm).1
  have r2 := r1.app (hd w1.S)
  have ndf : fp.Nodup := by
    have nd := o2.nd
    obtain ⟨fps, _, ef⟩ := o2.env
    rw [ef] at nd
    exact (List.nodup_append.mp nd).2.1
  refine ⟨⟨w1.S, w1.H, fp⟩, m :: (ds ++ dds).map .sh, rfl, o1.sub, by
    have z : OwnL G.K w1.S w1.H (v' :: (vs ++ dvs)) (m :: (ds ++ dds).map .sh) (fp ++ []) := .cons om (ownL_of r2)
    rw [List.append_nil] at z
    exact z, ndf, hl, C.mono _ _ _ (fun oc ms' hk => ?_) hc⟩
  obtain ⟨m', rr, ems, hk⟩ := hk
  subst ems
  intro w' fp' l s ow
  have lb : Le ⟨w2.S, w2.H, fp⟩ w' := by rw [eS, eH]; exact l
  have l12 := l1.trans l2
  cases ow with
  | @cons _ _ _ _ f1 f2 ow1 ow2 =>
    cases oc with
    | ret a =>
      intro u fr oa hF nd
      have hF2 : (w'.less (f1 ++ fr)).F = f1 ++ fr := rfl
      have sb : ∀ x ∈ f1 ++ fr, x ∈ w'.F := fun x hx => by
        rw [hF]
        rcases List.mem_append.mp hx with h | h
        · exact List.mem_append_left _ (List.mem_append_left _ h)
        · exact List.mem_append_right _ h
      have nd2 : (w'.less (f1 ++ fr)).F.Nodup := by
        show (f1 ++ fr).Nodup
        rw [hF] at nd
        obtain ⟨a1, a2, a3⟩ := List.nodup_append.mp nd
        exact List.nodup_append.mpr ⟨(List.nodup_append.mp a1).1, a2, fun x hx y hy z => a3 x (List.mem_append_left _ hx) y hy z⟩
      obtain ⟨w3, l3, eS3, eH3, o3⟩ := OkE.back (fp := fp) o2 (lb.trans (Wd.le_less sb)) s hF2 nd2
      obtain ⟨w4, l4, eS4, eH4, o4⟩ := OkE.putBack (m := m') o3 hv (by rw [eS3, eH3]; exact ow1) hil
      have z := q u w4 a _ fr hk ((l12.trans l3).trans l4) o4 (by rw [eS4, eH4, eS3, eH3]; exact oa)
      rw [eH4, eH3] at z
      exact z
    | err c fs =>
      intro d ex hF nd
      have sb : ∀ x ∈ f1 ++ [], x ∈ w'.F := fun x hx => by
        rw [hF]
        rw [List.append_nil] at hx
        exact List.mem_append_left _ hx
      have nd2 : (w'.less (f1 ++ [])).F.Nodup := by
        show (f1 ++ []).Nodup
        rw [hF] at nd
        rw [List.append_nil]
        exact (List.nodup_append.mp nd).1
      obtain ⟨w3, l3, eS3, eH3, o3⟩ := OkE.back (fp := fp) o2 (lb.trans (Wd.le_less sb)) s rfl nd2
      obtain ⟨w4, l4, eS4, eH4, o4⟩ := OkE.putBack (fr := []) (m := m') o3 hv (by rw [eS3, eH3]; exact ow1) hil
      have z := e w4 σ _ c fs d hk ((l12.trans l3).trans l4) o4 (by rw [eS4, eS3]; exact ex)
      rw [eH4, eH3] at z
      exact z
end
end DL

namespace DL
open PySem L2

/-! ### contracts of two kinds -/
/-- all arguments data -/
structure CD where
  c : List D → (Out → Prop) → Prop
  mono : ∀ ds k k', (∀ o, k o → k' o) → c ds k → c ds k'
def CD.con (C : CD) : Con := ⟨fun ms k => ∃ ds : List D, ms = ds.map M.sh ∧ C.c ds fun o => k o ms, by
  intro ms k k' h hk
  obtain ⟨ds, e, q⟩ := hk
  exact ⟨ds, e, C.mono _ _ _ (fun o => h o ms) q⟩⟩
/-- the first argument may be changed -/
structure CO where
  c : M → List D → (Out → M → Prop) → Prop
  mono : ∀ m ds k k', (∀ o a, k o a → k' o a) → c m ds k → c m ds k'
def CO.con (C : CO) : Con := ⟨fun ms k => ∃ (m : M) (ds : List D), ms = m :: ds.map M.sh ∧ C.c m ds fun o m' => k o (m' :: ds.map M.sh), by
  intro ms k k' h hk
  obtain ⟨m, ds, e, q⟩ := hk
  exact ⟨m, ds, e, C.mono _ _ _ _ (fun o a => h o _) q⟩⟩
section
variable {G : Gx} {ρ : Env} {t : TA} {PO : M → Env → Prop} {P : D → Env → Prop} {n i : Nat} {dvs : List V} {dds : List D} {ta : TE} {CA : Addr} {m : Str}
theorem wo_cd {C : CD} (hd : ∀ S, RepL G.K S dvs dds) (h : WA G t ρ fun ds ρ1 => (ds ++ dds).length = n ∧ C.c (ds ++ dds) fun o => match o with | .ret m => PO m ρ1 | .err c fs => G.er c fs ρ1) :
    WO G (tCallSD (toSp G.K n C.con) dvs (fun σ cls d H => G.Wx cls d σ H) t) ρ PO := wo_callD hd fun w σ Q o e q => h w σ Q o e fun vs w1 ds ρ1 ⟨a, b⟩ => q vs w1 ds ρ1 ⟨a, ds ++ dds, rfl, C.mono _ _ _ (fun o h => h) b⟩
theorem wo_md {C : CD} (hd : ∀ S, RepL G.K S dvs dds) (h : W G ta ρ fun x ρ1 => ∃ c fs, x = .obj c fs ∧ CA = clsAt G.K c ∧ fs.lookup m = none ∧ WA G t ρ1 fun ds ρ2 => (x :: (ds ++ dds)).length = n ∧
      C.c (x :: (ds ++ dds)) fun o => match o with | .ret m => PO m ρ2 | .err c fs => G.er c fs ρ2) : WO G (DC.tMethS CA m (toSp G.K n C.con) dvs (fun σ cls d H => G.Wx cls d σ H) ta t) ρ PO :=
  wo_methD hd fun w σ Q o e q => h w σ Q o e fun v w1 x ρ1 ⟨c, fs, e1, e2, e3, z⟩ => q v w1 x ρ1 ⟨c, fs, e1, e2, e3, fun w σ Q o e q => z w σ Q o e fun vs w1 ds ρ1 ⟨a, b⟩ => q vs w1 ds ρ1 ⟨a, x :: (ds ++ dds), rfl, C.mono _ _ _ (fun o h => h) b⟩⟩
theorem wo_co {C : CO} (hd : ∀ S, RepL G.K S dvs dds) (hp : ∃ m, ρ[i]? = some (some m)) (h : WA G t ρ fun ds ρ1 => ∃ m, ρ1[i]? = some (some m) ∧ (ds ++ dds).length + 1 = n ∧
      C.c m (ds ++ dds) fun o m' => match o with | .ret a => PO a (ρ1.set i (some m')) | .err c fs => G.er c fs (ρ1.set i (some m'))) :
    WO G (tCallSD (toSp G.K n C.con) dvs (fun σ cls d H => G.Wx cls d σ H) (tCons (tVar i) t)) ρ PO := wo_callO hd hp fun w σ Q o e q => h w σ Q o e fun vs w1 ds ρ1 ⟨m, a, b, c⟩ => q vs w1 ds ρ1 ⟨m, a, by rw [List.length_cons, List.length_map]; exact b, m, ds ++ dds, rfl, C.mono _ _ _ _ (fun o m' h => ⟨m', _, rfl, h⟩) c⟩
/-- C(..) -/
theorem OkE.ins {w : Wd} {σ : St} {x dx : Addr} {o1 o2 : HO} (k : Ok G w σ ρ) (hx : w.H x = none) (hdx : w.H dx = none) : Le w ⟨w.S, upd (upd w.H dx o1) x o2, w.F ++ [x]⟩ ∧ OkE G ⟨w.S, upd (upd w.H dx o1) x o2, w.F ++ [x]⟩ σ ρ [x] := by
  have keep : ∀ y u, w.H y = some u → upd (upd w.H dx o1) x o2 y = some u := fun y u h => by
    rw [upd_ne (ne_of_none h hx), upd_ne (ne_of_none h hdx)]
    exact h
  have at_ := k.at_
  obtain ⟨fps, e, f⟩ := k.env
  have f2 : w.F = fps.flatten := by rw [f, List.append_nil]
  refine ⟨⟨Ex.refl _, fun y u h _ => keep y u h, fun _ _ _ h => h, fun y hy => ?_⟩, ⟨fun y u h => ?_, ⟨fps, e.keep (Ex.refl _) (fun y hy => (at_ y (f2 ▸ hy)).1) (fun y _ u hu => keep y u hu), by show w.F ++ [x] = _; rw [f2]⟩, ?_, k.px⟩⟩
  · rcases List.mem_append.mp hy with z | z
    · exact .inl z
    · obtain rfl : y = x := by simpa using z
      exact .inr hx
  · rcases k.sub y u h with z | ⟨d, ob, z⟩
    · exact .inl (keep y _ z)
    · exact .inr ⟨d, ob, keep y _ z⟩
  · show (w.F ++ [x]).Nodup
    refine List.nodup_append.mpr ⟨k.nd, by simp, fun y hy z hz q => ?_⟩
    obtain rfl : z = x := by simpa using hz
    subst q
    exact (at_ y hy).2 hx
theorem wo_mk {C : CO} {c : Str} (hd : ∀ S, RepL G.K S dvs dds) (h : WA G t ρ fun ds ρ1 => CA = clsAt G.K c ∧ (ds ++ dds).length + 1 = n ∧ C.c (.obj c []) (ds ++ dds) fun o m' => match o with | .ret a => a = .sh .non ∧ PO m' ρ1 | .err c fs => G.er c fs ρ1) :
    WO G (DC.tMakeS CA (toSp G.K n C.con) dvs (fun σ cls d H => G.Wx cls d σ H) t) ρ PO := fun w σ Q o e q =>
  h w σ _ o e fun vs w1 ds ρ1 ⟨eC, hl, hc⟩ l1 o1 r1 => by
    subst eC
    intro x dx hx hdx ne
    have r2 := r1.app (hd w1.S)
    obtain ⟨l2, o2⟩ := OkE.ins (o1 := .own x) (o2 := .ins (clsAt G.K c) dx []) o1 hx hdx
    refine ⟨⟨w1.S, upd (upd w1.H dx (.own x)) x (.ins (clsAt G.K c) dx []), [x]⟩, .obj c [] :: (ds ++ dds).map .sh, rfl, o2.sub, ?_, by simp, by rw [List.length_cons, List.length_map]; exact hl, .obj c [], ds ++ dds, rfl, C.mono _ _ _ _ (fun oc m' hk => ?_) hc⟩
    · have z : OwnL G.K w1.S (upd (upd w1.H dx (.own x)) x (.ins (clsAt G.K c) dx [])) (.ref x :: (vs ++ dvs)) (.obj c [] :: (ds ++ dds).map .sh) ([x] ++ []) := .cons (.obj (o1.sub.free hx) upd_same .nil) (ownL_of r2)
      exact z
    · intro w' fp' l s ow
      cases ow with
      | @cons _ _ _ _ f1 f2 ow1 ow2 =>
        obtain ⟨_, rfl⟩ := ownL_inv ow2
        cases oc with
        | ret a =>
          intro u fr oa hF nd
          obtain ⟨ea, hk⟩ := hk
          subst ea
          have eu : u = .non := by
            cases oa with
            | sh r => exact r.non_inv
          have sb : ∀ y ∈ f1, y ∈ w'.F := fun y hy => by
            rw [hF]
            exact List.mem_append_left _ (List.mem_append_left _ hy)
          have nd2 : (w'.less f1).F.Nodup := by
            show f1.Nodup
            rw [hF] at nd
            exact (List.nodup_append.mp (List.nodup_append.mp nd).1).1
          obtain ⟨w3, l3, eS3, eH3, o3⟩ := OkE.back (fp := [x]) o2 (l.trans (Wd.le_less sb)) s rfl nd2
          have z := q (.ref x) w3 m' ρ1 f1 hk ((l1.trans l2).trans l3) o3 (by rw [eS3, eH3]; exact ow1)
          rw [eH3] at z
          exact ⟨eu, z⟩
        | err c' fs =>
          intro d ex hF nd
          have l4 : Le ⟨w1.S, upd (upd w1.H dx (.own x)) x (.ins (clsAt G.K c) dx []), [x]⟩ (w'.less []) := l.trans (Wd.le_less fun y hy => by cases hy)
          obtain ⟨w3, l3, eS3, eH3, o3⟩ := OkE.back (fp := [x]) (fr := []) o2 l4 s rfl List.nodup_nil
          have z := e w3 σ ρ1 c' fs d hk ((l1.trans l2).trans l3) o3 (by rw [eS3]; exact ex)
          rw [eH3] at z
          exact z

/-! ### fields of a name's own instance -/
def putM (f : Str) (m : M) : List (Str × M) → List (Str × M)
  | [] => [(f, m)]
  | (g, a) :: r => if g = f then (g, m) :: r else (g, a) :: putM f m r
theorem OwnF.putS {K : PySem.W.Frag} {S H : Hp} {f : Str} {u : V} {d : D} (r : Rep K S u d) : ∀ {vs : List (Str × V)} {ms : List (Str × M)} {fp : List Addr}, OwnF K S H vs ms fp → ∃ fp', OwnF K S H (putF f u vs) (putM f (.sh d) ms) fp' ∧ fp'.Sublist fp
  | _, _, _, .nil => ⟨[], .cons (f := []) (g := []) (.sh r) .nil, List.Sublist.refl _⟩
  | (g, v) :: vs, (_, a) :: ms, _, .cons (f := f1) (g := f2) h q => by
    by_cases e : g = f
    · refine ⟨[] ++ f2, ?_, List.Sublist.append (List.nil_sublist _) (List.Sublist.refl _)⟩
      unfold putF putM
      rw [if_pos e, if_pos e]
      exact .cons (.sh r) q
    · obtain ⟨f3, h3, s3⟩ := OwnF.putS r q
      refine ⟨f1 ++ f3, ?_, List.Sublist.append (List.Sublist.refl _) s3⟩
      unfold putF putM
      rw [if_neg e, if_neg e]
      exact .cons h h3
theorem OwnF.len {K : PySem.W.Frag} {S H : Hp} : ∀ {vs : List (Str × V)} {ms : List (Str × M)} {fp : List Addr}, OwnF K S H vs ms fp → vs.length = ms.length
  | _, _, _, .nil => rfl
  | _, _, _, .cons _ r => by rw [List.length_cons, List.length_cons, OwnF.len r]
/-- one object of what was taken is written -/
theorem OkE.write {w : Wd} {σ : St} {fp fp' : List Addr} {a : Addr} {ob : HO} (k : OkE G w σ ρ fp) (ha : a ∈ fp) (at_ : w.S a = none) (sub : ∀ x ∈ fp', x ∈ fp) (nd : fp'.Nodup) : ∃ w', Le w w' ∧ w'.S = w.S ∧ w'.H = upd w.H a ob ∧ OkE G w' σ ρ fp' := by
  obtain ⟨fps, e, ef⟩ := k.env
  have ndw := k.nd
  rw [ef] at ndw
  obtain ⟨n1, n2, n3⟩ := List.nodup_append.mp ndw
  have haF : a ∈ w.F := by rw [ef]; exact List.mem_append_right _ ha
  refine ⟨⟨w.S, upd w.H a ob, fps.flatten ++ fp'⟩, ⟨Ex.refl _, fun x u h hn => ?_, fun _ _ _ h => h, fun x hx => .inl ?_⟩, rfl, rfl, ⟨fun x u h => ?_, ⟨fps, e.keep (Ex.refl _) (fun x hx => (e.at_ x hx).1) (fun x hx u hu => ?_), rfl⟩, ?_, k.px⟩⟩
  · show upd w.H a ob x = some u
    rw [upd_ne (fun z : x = a => hn (by rw [z]; exact haF))]
    exact h
  · rw [ef]
    rcases List.mem_append.mp hx with h | h
    · exact List.mem_append_left _ h
    · exact List.mem_append_right _ (sub x h)
  · have ne : x ≠ a := fun z => by
      rw [z] at h
      have h2 : w.S a = some u := h
      rw [at_] at h2
      cases h2
    show upd w.H a ob x = some u ∨ (Dct u ∧ ∃ ob', upd w.H a ob x = some (.frz ob' u))
    rw [upd_ne ne]
    exact k.sub x u h
  · show upd w.H a ob x = some u
    rw [upd_ne (fun z => n3 x hx a ha z)]
    exact hu
  · exact List.nodup_append.mpr ⟨n1, nd, fun x hx y hy z => n3 x hx y (sub y hy) z⟩
theorem OkE.nodupFx {w : Wd} {σ : St} {fp : List Addr} (k : OkE G w σ ρ fp) : fp.Nodup := by
  obtain ⟨fps, e, ef⟩ := k.env
  have ndw := k.nd
  rw [ef] at ndw
  exact (List.nodup_append.mp ndw).2.1
theorem ws_fld {f : Str} {P : Post} {te : TE} (hpx : ∃ m, ρ[i]? = some (some m)) (h : W G te ρ fun d ρ1 => ∃ c ms, ρ1[i]? = some (some (.obj c ms)) ∧ Cls G.K (clsAt G.K c) ∧ NoAttr G.K (clsAt G.K c) f ∧ ms.length ≤ 900 ∧ P.nx (ρ1.set i (some (.obj c (putM f (.sh d) ms))))) :
    WS G (sFld G.K (tVar i) te f) ρ P := fun w σ D o e q =>
  h w σ _ o e fun u w1 d ρ1 ⟨c, ms, hi, hc, hn, hl, p⟩ l1 o1 r1 => by
    obtain ⟨v, fp, w2, hv, l2, eS, eH, o2, om⟩ := o1.takeM hi
    have hil : i < ρ1.length := (List.getElem?_eq_some_iff.mp hi).1
    have ndf := o2.nodupFx
    cases om with
    | @obj a dx _ xs _ fp1 hS hH of =>
      obtain ⟨fp2, of2, sl⟩ := of.putS (f := f) r1
      have nd1 := (List.nodup_cons.mp ndf)
      refine ⟨_, hv, a, _, dx, xs, rfl, hH, hc, hn, by rw [of.len]; omega, ?_⟩
      obtain ⟨w3, l3, eS3, eH3, o3⟩ := OkE.write (a := a) (ob := .ins (clsAt G.K c) dx (putF f u xs)) (fp' := (a :: fp2) ++ []) o2 List.mem_cons_self (by rw [eS]; exact hS) (fun x hx => by
        rw [List.append_nil] at hx
        exact (List.mem_cons.mp hx).elim (fun z => z ▸ List.mem_cons_self) fun z => List.mem_cons_of_mem _ (sl.subset z)) (by
        rw [List.append_nil]
        exact List.nodup_cons.mpr ⟨fun z => nd1.1 (sl.subset z), nd1.2.sublist sl⟩)
      have own : OwnR G.K w3.S w3.H (.ref a) (.obj c (putM f (.sh d) ms)) (a :: fp2) := by
        rw [eS3, eH3, eS, eH]
        refine .obj hS upd_same (of2.keep (Ex.refl _) (fun x hx => (of2.at_ x hx).1) fun x hx o ho => ?_)
        rw [upd_ne (fun z : x = a => nd1.1 (by rw [← z]; exact sl.subset hx))]
        exact ho
      obtain ⟨w4, l4, eS4, eH4, o4⟩ := OkE.putBack (fr := []) o3 hv own hil
      have z := q.nx w4 σ _ p (((l1.trans l2).trans l3).trans l4) o4
      rw [eH4, eH3, eH] at z
      exact z

/-! ### a def, by its body at the data -/
theorem envOf {K : PySem.W.Frag} {S H : Hp} : ∀ {vs : List V} {ms : List M} {fp : List Addr} (j : Nat), OwnL K S H vs ms fp → ∃ fps, EnvR K S H (vs.map some ++ List.replicate j none) (ms.map some ++ List.replicate j none) fps ∧ fps.flatten = fp
  | _, _, _, 0, .nil => ⟨[], .nil, rfl⟩
  | _, _, _, j + 1, .nil => by
    obtain ⟨fps, e, f⟩ := envOf (K := K) (S := S) (H := H) (vs := []) (ms := []) (fp := []) j .nil
    exact ⟨[] :: fps, .no e, by rw [List.flatten_cons, f]; rfl⟩
  | _, _, _, j, .cons h r => by
    obtain ⟨fps, e, f⟩ := envOf j r
    exact ⟨_ :: fps, .ow h e, by rw [List.flatten_cons, f]⟩
end
/-- the names at the entry -/
def env0 (ms : List M) (j : Nat) : Env := ms.map some ++ List.replicate j none
def envD (ds : List D) (j : Nat) : Env := ds.map (fun d => some (.sh d)) ++ List.replicate j none
theorem envD_eq (ds : List D) (j : Nat) : envD ds j = env0 (ds.map .sh) j := by
  unfold envD env0
  rw [List.map_map]
  rfl
/-- where the body of a def stands whose arguments are data -/
abbrev gxD (K : PySem.W.Frag) (E : XK) (kk : Out → Prop) : Gx := ⟨K, [], fun _ => .non, fun cls d _ H => E cls d H, fun c fs _ => kk (.err c fs)⟩
abbrev postD (kk : Out → Prop) : Post := { nx := fun _ => kk (.ret (.sh .non)), rt := fun m _ => kk (.ret m) }
abbrev gxO (K : PySem.W.Frag) (E : XK) (v : V) (kk : Out → M → Prop) : Gx := ⟨K, [0], fun _ => v, fun cls d _ H => E cls d H, fun c fs ρ => ∃ m, ρ[0]? = some (some m) ∧ kk (.err c fs) m⟩
abbrev postO (kk : Out → M → Prop) : Post := { nx := fun ρ => ∃ m, ρ[0]? = some (some m) ∧ kk (.ret (.sh .non)) m, rt := fun a ρ => ∃ m, ρ[0]? = some (some m) ∧ kk (.ret a) m }
section
variable {prg : Program} {wd : World} {K : PySem.W.Frag} {mg : Str → Option Value} {bs : Heap} {x qual : Str} {params : Arguments} {body : List Stmt} {scp : Scope} {dfl : List V} {kwd : List (Str × V)} {f : Addr} {fd : FuncData} {N names : List Str} {lv n : Nat}
theorem def_D {C : CD} (F : FunD K x qual params body scp dfl kwd f fd) (sc : FnScope N names scp) (hn : names.length = n)
    (bd : ∀ (cdv : Value) (A : Around) (fr : List PySem.Env) (s : Shared) (H : Hp) (E : XK) (ds : List D) (kk : Out → Prop), (A.deeper (PyProof.Rows.envOfC qual scp s.heap.objs.size f cdv)).guards = some [] → Room lv (A.deeper (PyProof.Rows.envOfC qual scp s.heap.objs.size f cdv)) → C.c ds kk → ds.length = n →
      ∃ t, PSs (cxOf (L2.CX prg wd) prg wd K mg bs N qual scp f cdv A fr s H E) body t ∧ WS (gxD K E kk) t (envD ds (N.length - n)) (postD kk)) :
    DC.FnG prg wd K mg bs (L2.CX prg wd) (lv + 1) f fd names (toSp K n C.con) :=
  DC.fnG_of F sc (toSp_len hn) fun cdv A fr s H xs Q E gd room ⟨w, ms, eH, hs, ow, ndF, hl, ds, ems, hc⟩ => by
    subst ems
    subst eH
    obtain ⟨r, eF⟩ := ownL_inv ow
    have hl2 : ds.length = n := by rw [List.length_map] at hl; exact hl
    obtain ⟨t, ht, hw⟩ := bd cdv A fr s w.H E ds (fun o => EndC K w xs Q E o (ds.map .sh)) gd room hc hl2
    refine ⟨t, ht, ?_⟩
    obtain ⟨fps, e, ef⟩ := envOf (N.length - n) ow
    have o0 : Ok (gxD K E fun o => EndC K w xs Q E o (ds.map .sh)) w (L2.start N xs) (envD ds (N.length - n)) := by
      refine ⟨hs, ⟨fps, ?_, by rw [ef, List.append_nil]⟩, ndF, fun i hi => by cases hi⟩
      have el : xs.length = n := by rw [r.len, hl2]
      unfold L2.start
      rw [envD_eq, el]
      exact e
    refine hw w _ _ o0 (fun w' σ ρ' c fs d he l o' ex => ?_) ⟨fun w' σ' ρ' h l o' => ?_, fun v w' σ' m ρ' fp h l o' om => ?_, fun _ _ _ h => h.elim, fun _ _ _ h => h.elim⟩
    · exact he (w'.less []) [] (l.trans (Wd.le_less fun x hx => by cases hx)) o'.sub (ownL_of (r.mono l.s)) d ex rfl List.nodup_nil
    · exact h (w'.less []) [] (l.trans (Wd.le_less fun x hx => by cases hx)) o'.sub (ownL_of (r.mono l.s)) .non [] (.sh .non) rfl List.nodup_nil
    · have nd := o'.nodupFx
      obtain ⟨fps', _, ef'⟩ := o'.env
      exact h (w'.less fp) [] (l.trans (Wd.le_less fun x hx => by rw [ef']; exact List.mem_append_right _ hx)) o'.sub (ownL_of (r.mono l.s)) v fp om rfl nd
theorem def_O {C : CO} (F : FunD K x qual params body scp dfl kwd f fd) (sc : FnScope N names scp) (hn : names.length = n)
    (bd : ∀ (cdv : Value) (A : Around) (fr : List PySem.Env) (s : Shared) (H : Hp) (E : XK) (v0 : V) (m : M) (ds : List D) (kk : Out → M → Prop), (A.deeper (PyProof.Rows.envOfC qual scp s.heap.objs.size f cdv)).guards = some [] → Room lv (A.deeper (PyProof.Rows.envOfC qual scp s.heap.objs.size f cdv)) → C.c m ds kk → ds.length + 1 = n →
      ∃ t, PSs (cxOf (L2.CX prg wd) prg wd K mg bs N qual scp f cdv A fr s H E) body t ∧ WS (gxO K E v0 kk) t (some m :: envD ds (N.length - n)) (postO kk)) :
    DC.FnG prg wd K mg bs (L2.CX prg wd) (lv + 1) f fd names (toSp K n C.con) :=
  DC.fnG_of F sc (toSp_len hn) fun cdv A fr s H xs Q E gd room ⟨w, ms, eH, hs, ow, ndF, hl, m0, ds, ems, hc⟩ => by
    subst ems
    subst eH
    have hl2 : ds.length + 1 = n := by rw [List.length_cons, List.length_map] at hl; exact hl
    generalize hF : w.F = F0 at ow
    have ow' := ow
    cases ow with
    | @cons v0 vs _ _ f1 f2 ow1 ow2 =>
      obtain ⟨r, eF⟩ := ownL_inv ow2
      subst eF
      obtain ⟨t, ht, hw⟩ := bd cdv A fr s w.H E v0 m0 ds (fun o m' => EndC K w (v0 :: vs) Q E o (m' :: ds.map .sh)) gd room hc hl2
      refine ⟨t, ht, ?_⟩
      obtain ⟨fps, e, ef⟩ := envOf (N.length - n) ow'
      have el : vs.length + 1 = n := by rw [r.len, hl2]
      have o0 : Ok (gxO K E v0 fun o m' => EndC K w (v0 :: vs) Q E o (m' :: ds.map .sh)) w (L2.start N (v0 :: vs)) (some m0 :: envD ds (N.length - n)) := by
        refine ⟨hs, ⟨fps, ?_, by rw [ef, List.append_nil]; exact hF⟩, ndF, fun i hi => ?_⟩
        · unfold L2.start
          rw [envD_eq, List.length_cons, el]
          exact e
        · obtain rfl : i = 0 := by simpa [gxO] using hi
          rfl
      have px : ∀ {w' σ' ρ' fp}, OkE (gxO K E v0 fun o m' => EndC K w (v0 :: vs) Q E o (m' :: ds.map .sh)) w' σ' ρ' fp → σ'[0]? = some (some v0) := fun {w' σ' ρ' fp} o' => o'.px 0 (by simp [gxO])
      -- what the first argument owns, apart from what is handed back
      have fin : ∀ {w' σ' ρ' fp m}, Le w w' → OkE (gxO K E v0 fun o m' => EndC K w (v0 :: vs) Q E o (m' :: ds.map .sh)) w' σ' ρ' fp → ρ'[0]? = some (some m) → ∃ g, Le w (w'.less (g ++ fp)) ∧ (g ++ fp).Nodup ∧ OwnL K w'.S w'.H (v0 :: vs) (m :: ds.map .sh) g := fun {w' σ' ρ' fp m} l o' hm => by
        have p0 := px o'
        obtain ⟨fps', e', ef'⟩ := o'.env
        obtain ⟨v', g, h1, h2, h3⟩ := e'.get hm
        rw [p0] at h1
        have z := Option.some.inj (Option.some.inj h1)
        subst z
        have nd := o'.nd
        rw [ef'] at nd
        obtain ⟨n1, n2, n3⟩ := List.nodup_append.mp nd
        have gs : ∀ x ∈ g, x ∈ fps'.flatten := fun x hx => mem_flatten_get h2 hx
        refine ⟨g, l.trans (Wd.le_less fun x hx => ?_), List.nodup_append.mpr ⟨n1.sublist (List.sublist_flatten_of_mem (List.mem_of_getElem? h2)), n2, fun x hx y hy z => n3 x (gs x hx) y hy z⟩, ?_⟩
        · rw [ef']
          exact (List.mem_append.mp hx).elim (fun h => List.mem_append_left _ (gs x h)) fun h => List.mem_append_right _ h
        · have z : OwnL K w'.S w'.H (v0 :: vs) (m :: ds.map .sh) (g ++ []) := .cons h3 (ownL_of (r.mono l.s))
          rw [List.append_nil] at z
          exact z
      refine hw w _ _ o0 (fun w' σ ρ' c fs d he l o' ex => ?_) ⟨fun w' σ' ρ' h l o' => ?_, fun v w' σ' a ρ' fp h l o' om => ?_, fun _ _ _ h => h.elim, fun _ _ _ h => h.elim⟩
      · obtain ⟨m, hm, hk⟩ := he
        obtain ⟨g, l2, nd, own⟩ := fin (fp := []) l o' hm
        rw [List.append_nil] at l2 nd
        exact hk (w'.less g) g l2 o'.sub own d ex rfl nd
      · obtain ⟨m, hm, hk⟩ := h
        obtain ⟨g, l2, nd, own⟩ := fin (fp := []) l o' hm
        exact hk (w'.less (g ++ [])) g l2 o'.sub own .non [] (.sh .non) rfl nd
      · obtain ⟨m, hm, hk⟩ := h
        obtain ⟨g, l2, nd, own⟩ := fin l o' hm
        exact hk (w'.less (g ++ fp)) g l2 o'.sub own v fp om rfl nd
end
end DL

namespace DC
open PySem L2 PySem.Spec PyProof.Rows
/-! several except clauses, some of them with a name -/
abbrev Suite := Addr → Obj → Value → Option Addr → List (Addr × Obj) → TS
abbrev Clause := Value × Option Nat × Suite
def endAs (i : Nat) (D : Ends) : Ends := { nx := fun σ H => D.nx (σ.set i none) H, rt := D.rt, bk := fun σ H => D.bk (σ.set i none) H, ct := fun σ H => D.ct (σ.set i none) H }
def inSuite (n : Option Nat) (ts : Suite) (a : Addr) (cls : Value) (d : Option Addr) (D : Ends) (σ : St) (H : Hp) : Prop := match n with
  | none => ∀ ob pn, ts a ob cls d pn D σ H
  | some i => ∀ ob pn, ts a ob cls d pn (endAs i D) (σ.set i (some (.ref a))) H
def wClauses (K : PySem.W.Frag) (out : WX) (D : Ends) : List Clause → WX
  | [] => out
  | (c, n, ts) :: more => fun cls d σ H => ∃ yes, PySem.W.exmOne K cls c = some yes ∧ if yes = true then ∀ a, H a = none → inSuite n ts a cls d D σ H else wClauses K out D more cls d σ H
inductive ClausesOk (X : Cx) : List ExceptHandler → List Clause → Prop
  | nil : ClausesOk X [] []
  | plain {x : Str} {c : Value} {ts : Suite} {st : Stmt} {sts : List Stmt} {p1 p2 : Pos} {hs : List ExceptHandler} {l : List Clause} (nm : Names X x c)
      (su : ∀ (a : Addr) (ob : Obj) (cls : Value) (d : Option Addr) (pn : List (Addr × Obj)), Zc cls d ob → (∃ vs, ob.data = .fields vs) → PSs (X.suite a ((a, ob) :: pn)) (st :: sts) (ts a ob cls d pn)) (more : ClausesOk X hs l) :
      ClausesOk X (.ExceptHandler (some (.Name x p1)) none (st :: sts) p2 :: hs) ((c, none, ts) :: l)
  | named {x n : Str} {i : Nat} {c : Value} {ts : Suite} {st : Stmt} {sts : List Stmt} {p1 p2 : Pos} {hs : List ExceptHandler} {l : List Clause} (nm : Names X x c) (nd : X.N.Nodup) (pl : X.N[i]? = some n) (lo : X.env.kindOf n = some .local)
      (su : ∀ (a : Addr) (ob : Obj) (cls : Value) (d : Option Addr) (pn : List (Addr × Obj)), Zc cls d ob → (∃ vs, ob.data = .fields vs) → PSs (X.suite a ((a, ob) :: pn)) (st :: sts) (ts a ob cls d pn)) (more : ClausesOk X hs l) :
      ClausesOk X (.ExceptHandler (some (.Name x p1)) (some n) (st :: sts) p2 :: hs) ((c, some i, ts) :: l)
/-- the reading of a try -/
def tTry (K : PySem.W.Frag) (out : WX) (tb : WX → List (Addr × Obj) → (Value → Shared → Prop) → TS) (l : List Clause) : TS := fun D σ H => ∀ pn xe, tb (wClauses K out D l) pn xe D σ H
section
variable {X : Cx} {body : List Stmt} {h₀ : ExceptHandler} {hs : List ExceptHandler} {l : List Clause} {pos : Pos} {tb : WX → List (Addr × Obj) → (Value → Shared → Prop) → TS} {out : WX}
theorem ps_tryC (stk : X.stack = X.env :: X.outer) (frm : X.env.frame = some X.env.locals) (tk : Takes X out)
    (bd : ∀ (W : WX) (pn : List (Addr × Obj)) (xe : Value → Shared → Prop), Takes (X.tr pn xe) W → PassesOwn (model X.prog X.w) X.A X.env xe → PSs (X.tr pn xe) body (tb W pn xe)) (cl : ClausesOk X (h₀ :: hs) l) : PS X (.Try body (h₀ :: hs) [] [] pos) (tTry X.K out tb l) := by
  refine ⟨fun pins s σ H D J wish => wpAny_Try_except ?_⟩
  have okX := J.ok
  have frames : X.A.frames = some (X.env :: X.outer) := okX.frames.trans (congrArg some stk)
  refine wpAny_mono ((bd (wClauses X.K out D l) (X.pn ++ pins) (fun e s1 => wpAny (model X.prog X.w) X.A (noteFrame e X.env) (fun _ s2 => wpAny (model X.prog X.w) X.A (setFlight e none) (fun _ s3 => wpAny (model X.prog X.w) X.A (handleBy e X.env (h₀ :: hs)) (SP X pins D) X.xe s3) X.xe s2) X.xe s1)
    (fun u s' air => ?_) PassesOwn.looking).run [] s σ H D (J.toTry _) (wish _ _)) (fun fl s1 got => ?_) (fun _ _ z => z)
  · obtain ⟨a, B, sI, _, σ', H', cls, d, rfl, Jt, nb, up, sky, na, os, ag, w⟩ := air
    have JI : Inv X pins σ' H' sI := Jt.ofTry okX
    rw [stk] at sky
    show wpAny (model X.prog X.w) X.A (noteFrame (Value.ref a) X.env) _ _ _
    refine Sky.land Zc.steady frames frm sky fun h3 fly up3 => ?_
    have ups := up.trans up3
    have J3 : Inv X pins σ' H' { s' with heap := h3 } := JI.landed nb fly.1 ups os ag
    obtain ⟨ob3, vs3, at3, z3, d3⟩ := fly.there
    have off : a ∉ frs (X.env :: X.outer) := fun mem => by
      obtain ⟨_, ob', at', nf⟩ := fly.2.2.1.mem mem
      rw [at3] at at'
      cases at'
      exact nf _ d3
    have offL : a ≠ X.env.locals := fun z => off (List.mem_filterMap.mpr ⟨X.env, List.mem_cons_self, by rw [frm, z]⟩)
    have offF : a ∉ X.fs := fun mem => by
      obtain ⟨e, he, q⟩ := List.mem_filterMap.mp mem
      exact off (List.mem_filterMap.mpr ⟨e, List.mem_cons_of_mem _ he, q⟩)
    have S3 := J3.suite at3 d3 na offL offF
    have looks : PySem.W.Looks (model X.prog X.w) h3 (typeOf (.ref a)) cls := fun A Q E s k q => wpAny_typeOf_ref (k _ _ at3) (by rw [z3.1]; exact q)
    have tells : ∀ {x : Str} {c : Value} {p1 : Pos} {Q E : Value → Shared → Prop}, Names X x c → Q c { s' with heap := h3 } → wpAny (model X.prog X.w) (X.A.mark (some (.ref a))) (eval (.Name x p1) X.env) Q E { s' with heap := h3 } := fun {x c p1 Q E} nm q => by
      obtain ⟨g, dbg, own | ⟨own, blt, nn⟩⟩ := nm
      · exact ld_glob (X := X.suite a ((a, ob3) :: (X.pn ++ pins))) S3 g own q dbg
      · exact ld_blt (X := X.suite a ((a, ob3) :: (X.pn ++ pins))) S3 g own blt q nn dbg
    have go : ∀ {hs' : List ExceptHandler} {l' : List Clause}, ClausesOk X hs' l' → wClauses X.K out D l' cls d σ' H' → wpAny (model X.prog X.w) X.A (handleBy (.ref a) X.env hs') (SP X pins D) X.xe { s' with heap := h3 } := fun {hs' l'} ok => by
      induction ok with
      | nil =>
        intro w
        refine wpAny_handleBy_nil ?_
        obtain ⟨_, _, _, ob, vs, tb, oT, ts', hat, _, hd, h1, _⟩ := id fly
        have up1 : wpAny (model X.prog X.w) X.A (setFlight (.ref a) X.env.frame) (fun _ s4 => wpAny (model X.prog X.w) X.A (throw (.ref a) : Sem Flow) (SP X pins D) X.xe s4) X.xe { s' with heap := h3 } := by
          rw [frm]
          exact HandSPX.setFlight_upZ fly fun h4 held up4 => wpAny_throw (tk _ _ ⟨a, B, sI, pins, σ', H', cls, d, rfl, JI, nb, ups.trans up4, .inr (.inr (stk ▸ held)), na, os, ag, w⟩)
        unfold PySem.passOn
        refine wpAny_bind (wpAny_field hat hd h1 ?_)
        rw [if_neg (show ¬ ((Value.ref tb == Value.none) = true) by simp)]
        first
          | exact wpAny_bind (wpAny_pure (wpAny_bind up1))
          | exact wpAny_bind up1
      | plain nm su _ ih =>
        intro ⟨yes, he, w⟩
        refine wpAny_handleBy_cons (codeAny_handlers_test (tells nm ((PySem.W.exm_one (M := model X.prog X.w) J3.kIn looks he).here ?_))) (by intro q; cases q)
        cases yes with
        | false => exact ih w
        | true =>
          refine codeAny_handlers_suite (HandSPX.lands_againZ fly fun h4 fly4 up4 => ?_)
          have J4 : Inv X pins σ' H' { s' with heap := h4 } := JI.landed nb fly4.1 (ups.trans up4) os ag
          obtain ⟨ob4, vs4, at4, z4, d4⟩ := fly4.there
          have w2 := (show ∀ ob pn, _ from w a na) ob4 (X.pn ++ pins)
          refine wpAny_mono ((su a ob4 cls d (X.pn ++ pins) z4 ⟨_, d4⟩).run [] _ _ H' _ (J4.suite at4 d4 na offL offF) w2) (fun f6 s6 got => ?_) (fun _ _ z => z.elim)
          match f6, got with
          | .next, ⟨σ6, H6, S6, q6⟩ => exact ⟨_, _, S6.unsuite okX, q6⟩
          | .brk, ⟨σ6, H6, S6, q6⟩ => exact ⟨_, _, S6.unsuite okX, q6⟩
          | .cont, ⟨σ6, H6, S6, q6⟩ => exact ⟨_, _, S6.unsuite okX, q6⟩
          | .ret u, ⟨v6, σ6, H6, S6, r6, q6⟩ => exact ⟨_, _, _, S6.unsuite okX, r6, q6⟩
      | @named x n i c ts st sts p1 p2 hs2 l2 nm nd pl lo su _ ih =>
        intro ⟨yes, he, w⟩
        refine wpAny_handleBy_cons (codeAny_handlers_test (tells nm ((PySem.W.exm_one (M := model X.prog X.w) J3.kIn looks he).here ?_))) (by intro q; cases q)
        cases yes with
        | false => exact ih w
        | true =>
          refine codeAny_handlers_suite_as (HandSPX.lands_againZ fly fun h4 fly4 up4 => ?_)
          have J4 : Inv X pins σ' H' { s' with heap := h4 } := JI.landed nb fly4.1 (ups.trans up4) os ag
          obtain ⟨ob4, vs4, at4, z4, d4⟩ := fly4.there
          have w2 : ts a ob4 cls d (X.pn ++ pins) (endAs i D) (σ'.set i (some (.ref a))) H' := w a na ob4 (X.pn ++ pins)
          refine store_ok (X := X.suite a ((a, ob4) :: (X.pn ++ pins))) (v := .ref a) (J4.suite at4 d4 na offL offF) nd pl (.inl lo) rfl (fun s5 S5 => ?_) (.inr lo)
          refine wpAny_mono ((su a ob4 cls d (X.pn ++ pins) z4 ⟨_, d4⟩).run [] s5 _ H' _ S5 w2) (fun f6 s6 got => ?_) (fun _ _ z => z.elim)
          have ends : ∀ {σ6 : St} {H6 : Hp} {Q : Shared → Prop}, Inv (X.suite a ((a, ob4) :: (X.pn ++ pins))) [] σ6 H6 s6 → (∀ s7, Inv X pins (σ6.set i none) H6 s7 → Q s7) → wpAny (model X.prog X.w) X.A (do bindName X.env n .none; unbindBehindTheSuite X.env n p2) (fun _ s7 => Q s7) X.xe s6 :=
            fun S6 k => gone_ok (S6.unsuite okX) nd pl lo k
          match f6, got with
          | .next, ⟨σ6, H6, S6, q6⟩ => exact ends S6 fun s7 J7 => ⟨_, _, J7, q6⟩
          | .brk, ⟨σ6, H6, S6, q6⟩ => exact ends S6 fun s7 J7 => ⟨_, _, J7, q6⟩
          | .cont, ⟨σ6, H6, S6, q6⟩ => exact ends S6 fun s7 J7 => ⟨_, _, J7, q6⟩
          | .ret u, ⟨v6, σ6, H6, S6, r6, q6⟩ => exact ends S6 fun s7 J7 => ⟨_, _, _, J7, r6, q6⟩
    exact go cl w
  · match fl, got with
    | .next, ⟨σ', H', J', q⟩ => exact wpAny_execs_nil ⟨σ', H', J'.ofTry okX, q⟩
    | .brk, ⟨σ', H', J', q⟩ => exact ⟨σ', H', J'.ofTry okX, q⟩
    | .cont, ⟨σ', H', J', q⟩ => exact ⟨σ', H', J'.ofTry okX, q⟩
    | .ret u, ⟨v, σ', H', J', r, q⟩ => exact ⟨v, σ', H', J'.ofTry okX, r, q⟩
end
end DC
namespace DC
open PySem L2 PySem.Spec PyProof.Rows
section
variable {X : Cx}
/-- X(), X an own exception class without own __init__ -/
theorem pmk_bare {C : Addr} {bmB : List Value} {B newId initId : String} {x : Str} {p pos : Pos} (F : ExcBaseFacts B newId initId bmB) (q : PySem.W.excIn X.K C bmB newId = true) (gC : X.mg x = some (.ref C)) (kC : PySem.W.keepIn X.K (.ref C) = true) (r : Raises X (.ref C)) (hg : Gl X x)
    (nodbg : (x == ("__debug__" : Str)) = false := by decide) : PMk X (.Call (.Name x p) [] [] pos) (fun _ H Q => Q (.ref C) none H) := fun pins s σ H Q J wish =>
  wpAny_Call_Name_kw (ld_glob J hg gC (PySem.W.callWith_K0 J.kIn kC (by
    obtain ⟨bm, N, nm, qn, bs, hdct, sn, sub, ab, col, dd, k0, k1, k2, k3, k5, mN, hC, hN, hni, T⟩ := exc_obj J.kIn q
    exact wpAny_call_exc_subT F T hC hN hni (fun h' e hm => mk_of J hm r wish (J.hok.gone hm.new)) (Nat.zero_le _))) nodbg)
/-- repr(x) of data, while nothing else is being shown -/
def rRepr (K : PySem.W.Frag) : List V → Hp → VK → Prop := fun xs H Q => ∃ x d, xs = [x] ∧ Dp K H x d ∧ d.showable = true ∧ d.canLay0 = true ∧ d.depth ≤ 64 ∧ d.shown.length ≤ sizeLine ∧ Q (.str d.shown) H
theorem call_reprG (gd : X.A.guards = some []) (hu : X.A.units + 70 < cLine) : CallR X (.builtin "repr") (rRepr X.K) := by
  intro pins s σ H xs us Q J rel ⟨x, d, ex, hd, sh, cl, dp, sz, q⟩
  subst ex
  obtain ⟨u, rfl, ru⟩ := vals1 rel
  cases hd with
  | non =>
    cases ru
    exact PySem.P.repr_of_none ⟨.str _, H, J.tok _, ⟨_, rfl⟩, q⟩
  | bl b =>
    cases ru
    exact PySem.P.repr_of_bool ⟨.str _, H, J.tok _, ⟨_, rfl⟩, q⟩
  | int i =>
    obtain ⟨t, rfl⟩ := ru
    exact PySem.P.repr_of_int (of_decide_eq_true sh) ⟨.str _, H, J.tok _, ⟨_, rfl⟩, q⟩
  | str y =>
    obtain ⟨t, rfl⟩ := ru
    exact PySem.P.repr_of_str ⟨.str _, H, J.tok _, ⟨_, rfl⟩, q⟩ sz
  | @lst a ys ds h1 h2 =>
    obtain ⟨as, rd⟩ := Dp.reads J _ _ u (.lst h1 h2) ru
    cases ru
    exact repr_of_reads' rd sh (PyData.noDict_hsm (PyData.hasDict_of_canLay _ cl)) gd (by omega) (fun _ _ e => e) (fun h' v tk keep => ⟨.str _, H, J.kept (t' := tk) keep, ⟨_, rfl⟩, q⟩) sz
  | @tup a ys ds h1 h2 =>
    obtain ⟨as, rd⟩ := Dp.reads J _ _ u (.tup h1 h2) ru
    cases ru
    exact repr_of_reads' rd sh (PyData.noDict_hsm (PyData.hasDict_of_canLay _ cl)) gd (by omega) (fun _ _ e => e) (fun h' v tk keep => ⟨.str _, H, J.kept (t' := tk) keep, ⟨_, rfl⟩, q⟩) sz
end
end DC
namespace DC
open PySem L2 PySem.Spec PyProof.Rows
section
variable {X : Cx}
/-- repr of an empty dict -/
def rReprE : List V → Hp → VK → Prop := fun xs H Q => ∃ a, xs = [.ref a] ∧ Rd H a (.dK []) ∧ Q (.str (PyData.shown (.dict []))) H
theorem call_reprE (gd : X.A.guards = some []) (hu : X.A.units + 70 < cLine) : CallR X (.builtin "repr") rReprE := by
  intro pins s σ H xs us Q J rel ⟨a, ex, hd, q⟩
  subst ex
  obtain ⟨u, rfl, ru⟩ := vals1 rel
  cases ru
  obtain ⟨_, ns, vs, kv, o, es, ep, g, xd, od, _, pr, _⟩ := hd.ok J.hok
  cases kv
  have e0 : es.toList = [] := by
    have pr2 := pr
    generalize es.toList = l at pr2
    cases pr2
    rfl
  have rd : Reads s.heap (.ref a) (.dict []) [a] := by
    have z : Reads s.heap (.ref a) (.dict []) (a :: [] ++ []) := .dict g xd.1 od (by rw [e0]; exact .nil) (by rw [e0]; exact .nil)
    exact z
  refine repr_of_reads' rd rfl (fun _ m => ?_) gd (by show X.A.units + (1 + 1) < cLine; omega) (fun _ _ e => e) (fun h' v tk keep => ⟨.str _, H, J.kept (t' := tk) keep, ⟨_, rfl⟩, q⟩) (by decide +kernel)
  obtain rfl : sysModules = a := by simpa using m
  simp at ns
end
end DC

namespace DL
open PySem L2

/-! ### raise -/
/-- the promise of an exception class's own __init__ that keeps its arguments in fields -/
def spIni (K : PySem.W.Frag) : List Str → Sp
  | [f] => fun vs H Q _ => ∃ a C y, vs = [.ref a, y] ∧ OexC K C ∧ NoAttr K C f ∧ H a = some (exo a C none) ∧ ∀ dx, H dx = none → dx ≠ a → Q .non (upd (upd H dx (exd dx [(f, y)])) a (exo a C (some dx)))
  | [f, g] => fun vs H Q _ => ∃ a C y z, vs = [.ref a, y, z] ∧ OexC K C ∧ NoAttr K C f ∧ NoAttr K C g ∧ H a = some (exo a C none) ∧ ∀ dx, H dx = none → dx ≠ a → Q .non (upd (upd (upd H dx (exd dx [(f, y)])) a (exo a C (some dx))) dx (exd dx [(g, z), (f, y)]))
  | _ => fun _ _ _ _ => False
section
variable {G : Gx} {ρ : Env} {P : Post} {ta : TA} {CA : Addr} {c : Str} {f g : Str} {k : D → Prop}
theorem upd_del {H1 : Hp} {a dx : Addr} {o1 o2 o3 u : HO} (hn : H1 a = none) (ne : dx ≠ a) : upd (del (upd (upd (upd H1 a o1) dx o2) a o3) a) dx u = upd H1 dx u := by
  funext b
  by_cases h1 : b = dx
  · subst h1
    rw [upd_same, upd_same]
  · rw [upd_ne h1, upd_ne h1]
    by_cases h2 : b = a
    · subst h2
      rw [del_same, hn]
    · rw [del_ne h2, upd_ne h2, upd_ne h1, upd_ne h2]
theorem upd_del2 {H1 : Hp} {a dx : Addr} {o1 o2 o3 o4 u : HO} (hn : H1 a = none) (ne : dx ≠ a) : upd (del (upd (upd (upd (upd H1 a o1) dx o2) a o3) dx o4) a) dx u = upd H1 dx u := by
  funext b
  by_cases h1 : b = dx
  · subst h1
    rw [upd_same, upd_same]
  · rw [upd_ne h1, upd_ne h1]
    by_cases h2 : b = a
    · subst h2
      rw [del_same, hn]
    · rw [del_ne h2, upd_ne h1, upd_ne h2, upd_ne h1, upd_ne h2]
theorem ws_raise1 (h : WA G ta ρ fun ds ρ1 => ∃ y, ds = [y] ∧ CA = clsAt G.K c ∧ OexC G.K (clsAt G.K c) ∧ NoAttr G.K (clsAt G.K c) f ∧ G.er c [(f, y)] ρ1) :
    WS G (fun _ σ H => tMkO CA (spIni G.K [f]) [] ta σ H fun cls d H' => G.Wx cls d σ H') ρ P := fun w σ D o e m =>
  h w σ _ o e fun vs w1 ds ρ1 ⟨y, ed, eC, oe, na, he⟩ l1 o1 r1 => by
    subst ed
    subst eC
    obtain ⟨v, rfl, rv⟩ := r1.one
    refine ⟨by show 1 ≤ 1000; decide, fun a ha => ⟨a, _, v, rfl, oe, na, upd_same, fun dx hdx ne => ⟨rfl, dx, [(f, v)], upd_same, by rw [upd_ne ne]; exact upd_same, ?_, ?_⟩⟩⟩
    · rw [upd_ne ne] at hdx
      exact hdx
    · rw [upd_del ha ne]
      have hd1 : w1.H dx = none := by rw [upd_ne ne] at hdx; exact hdx
      have l2 := Wd.le_add (o := .xd [(f, v)]) o1.sub hd1
      exact e (w1.add dx (.xd [(f, v)])) σ ρ1 c [(f, y)] (some dx) he (l1.trans l2.le) (o1.grow l2 (Wd.sub_add o1.sub)) (.inr ⟨dx, _, rfl, upd_same, .cons (rv.mono l2.s) .nil⟩)
theorem ws_raise2 (h : WA G ta ρ fun ds ρ1 => ∃ y z, ds = [y, z] ∧ CA = clsAt G.K c ∧ OexC G.K (clsAt G.K c) ∧ NoAttr G.K (clsAt G.K c) f ∧ NoAttr G.K (clsAt G.K c) g ∧ G.er c [(g, z), (f, y)] ρ1) :
    WS G (fun _ σ H => tMkO CA (spIni G.K [f, g]) [] ta σ H fun cls d H' => G.Wx cls d σ H') ρ P := fun w σ D o e m =>
  h w σ _ o e fun vs w1 ds ρ1 ⟨y, z, ed, eC, oe, na, na2, he⟩ l1 o1 r1 => by
    subst ed
    subst eC
    obtain ⟨v, u, rfl, rv, ru⟩ := r1.two
    refine ⟨by show 2 ≤ 1000; decide, fun a ha => ⟨a, _, v, u, rfl, oe, na, na2, upd_same, fun dx hdx ne => ⟨rfl, dx, [(g, u), (f, v)], by rw [upd_ne (Ne.symm ne)]; exact upd_same, upd_same, ?_, ?_⟩⟩⟩
    · rw [upd_ne ne] at hdx
      exact hdx
    · rw [upd_del2 ha ne]
      have hd1 : w1.H dx = none := by rw [upd_ne ne] at hdx; exact hdx
      have l2 := Wd.le_add (o := .xd [(g, u), (f, v)]) o1.sub hd1
      exact e (w1.add dx (.xd [(g, u), (f, v)])) σ ρ1 c [(g, z), (f, y)] (some dx) he (l1.trans l2.le) (o1.grow l2 (Wd.sub_add o1.sub)) (.inr ⟨dx, _, rfl, upd_same, .cons (ru.mono l2.s) (.cons (rv.mono l2.s) .nil)⟩)
theorem ws_raise0 (eC : CA = clsAt G.K c) (he : G.er c [] ρ) : WS G (fun _ σ H => (fun (_ : St) (H : Hp) (Q : XK) => Q (.ref CA) none H) σ H fun cls d H' => G.Wx cls d σ H') ρ P := fun w σ D o e m => by
  subst eC
  exact e w σ ρ c [] none he (Le.refl w) o (.inl ⟨rfl, rfl⟩)

/-! ### try -/
/-- the clauses at the data -/
def clD (G : Gx) (P : Post) : List DC.Clause → Str → List (Str × D) → Env → Prop
  | [], c, fs, ρ => G.er c fs ρ
  | (cv, none, ts) :: more, c, fs, ρ => ∃ yes, PySem.W.exmOne G.K (.ref (clsAt G.K c)) cv = some yes ∧ if yes = true then ∀ a ob d pn, WS G.nox (ts a ob (.ref (clsAt G.K c)) d pn) ρ P else clD G P more c fs ρ
  | (cv, some i, ts) :: more, c, fs, ρ => ∃ yes, PySem.W.exmOne G.K (.ref (clsAt G.K c)) cv = some yes ∧ if yes = true then fs ≠ [] ∧ i ∉ G.px ∧ ∀ a ob dd pn, WS G.nox (ts a ob (.ref (clsAt G.K c)) (some dd) pn) (ρ.set i (some (.sh (.exc a dd c fs))))
      { nx := fun ρ => P.nx (ρ.set i none), rt := P.rt, bk := fun ρ => P.bk (ρ.set i none), ct := fun ρ => P.ct (ρ.set i none) } else clD G P more c fs ρ
theorem OkE.unset {w : Wd} {σ : St} {i : Nat} (o : Ok G w σ ρ) (hi : i ∉ G.px) : ∃ w', Le w w' ∧ w'.S = w.S ∧ w'.H = w.H ∧ Ok G w' (σ.set i none) (ρ.set i none) := by
  obtain ⟨fps, e, f⟩ := o.env
  have f2 : w.F = fps.flatten := by rw [f, List.append_nil]
  refine ⟨w.less (fps.set i []).flatten, Wd.le_less fun x hx => f2 ▸ mem_flatten_nil hx, rfl, rfl, o.sub, ⟨_, e.unset i none, by show (fps.set i []).flatten = _; rw [List.append_nil]⟩, ?_, fun j hj => ?_⟩
  · show (fps.set i []).flatten.Nodup
    have nd := o.nd
    rw [f2] at nd
    exact nodup_flatten_set nd (by simp) (fun x h => by cases h)
  · have ne : i ≠ j := fun z => hi (z ▸ hj)
    rw [List.getElem?_set_ne ne]
    exact o.px j hj
theorem Meets.nox {w : Wd} {D : Ends} (m : Meets G w D P) : Meets G.nox w D P := ⟨fun w' σ' ρ' h l o => m.nx w' σ' ρ' h l o.unnox, fun v w' σ' a ρ' fp h l o r => m.rt v w' σ' a ρ' fp h l o.unnox r, fun w' σ' ρ' h l o => m.bk w' σ' ρ' h l o.unnox, fun w' σ' ρ' h l o => m.ct w' σ' ρ' h l o.unnox⟩
theorem ws_try {tb : WX → List (Addr × Obj) → (Value → Shared → Prop) → TS} {l : List DC.Clause} (h : ∀ W pn xe, WS { G with Wx := W, er := clD G P l } (tb W pn xe) ρ P) : WS G (DC.tTry G.K G.Wx tb l) ρ P := fun w σ D o e m => by
  intro pn xe
  refine h _ pn xe w σ D ⟨o.sub, o.env, o.nd, o.px⟩ (fun w' σ' ρ' c fs d he l' o' ex => ?_) ⟨fun w' σ' ρ' h l o => m.nx w' σ' ρ' h l ⟨o.sub, o.env, o.nd, o.px⟩, fun v w' σ' a ρ' fp h l o r => m.rt v w' σ' a ρ' fp h l ⟨o.sub, o.env, o.nd, o.px⟩ r, fun w' σ' ρ' h l o => m.bk w' σ' ρ' h l ⟨o.sub, o.env, o.nd, o.px⟩, fun w' σ' ρ' h l o => m.ct w' σ' ρ' h l ⟨o.sub, o.env, o.nd, o.px⟩⟩
  have o2 : Ok G w' σ' ρ' := ⟨o'.sub, o'.env, o'.nd, o'.px⟩
  have ml := m.later l'
  have ex2 : ExcAt G.K w'.S c fs d := ex
  clear h o' ex
  show DC.wClauses G.K G.Wx D l (.ref (clsAt G.K c)) d σ' w'.H
  induction l with
  | nil => exact e w' σ' ρ' c fs d he l' o2 ex2
  | cons cl more ih =>
    obtain ⟨cv, n, ts⟩ := cl
    cases n with
    | none =>
      obtain ⟨yes, hy, hk⟩ := (show ∃ yes, _ ∧ _ from he)
      refine ⟨yes, hy, ?_⟩
      cases yes with
      | true =>
        rw [if_pos rfl] at hk ⊢
        exact fun a _ ob pn => hk a ob d pn w' σ' D o2.nox esc_nox ml.nox
      | false =>
        rw [if_neg Bool.false_ne_true] at hk ⊢
        exact ih hk
    | some i =>
      obtain ⟨yes, hy, hk⟩ := (show ∃ yes, _ ∧ _ from he)
      refine ⟨yes, hy, ?_⟩
      cases yes with
      | true =>
        rw [if_pos rfl] at hk ⊢
        obtain ⟨nf, hi, hk⟩ := hk
        intro a _ ob pn
        rcases ex2 with ⟨ef, _⟩ | ⟨dd, xs, ed, hS, rf⟩
        · exact absurd ef nf
        · subst ed
          obtain ⟨w2, l2, eS, eH, _, o3⟩ := o2.setSh (i := i) (v := .ref a) (d := .exc a dd c fs) (.exc hS rf) hi
          have ml2 := ml.later l2
          have z := hk a ob dd pn w2 _ (DC.endAs i D) o3.nox esc_nox ⟨fun w3 σ3 ρ3 h l o => ?_, fun v w3 σ3 a ρ3 fp h l o r => ml2.rt v w3 σ3 a ρ3 fp h l o.unnox r, fun w3 σ3 ρ3 h l o => ?_, fun w3 σ3 ρ3 h l o => ?_⟩
          · rw [eH] at z
            exact z
          · obtain ⟨w4, l4, _, eH4, o4⟩ := OkE.unset o.unnox hi
            have y := ml2.nx w4 _ _ h (l.trans l4) o4
            rw [eH4] at y
            exact y
          · obtain ⟨w4, l4, _, eH4, o4⟩ := OkE.unset o.unnox hi
            have y := ml2.bk w4 _ _ h (l.trans l4) o4
            rw [eH4] at y
            exact y
          · obtain ⟨w4, l4, _, eH4, o4⟩ := OkE.unset o.unnox hi
            have y := ml2.ct w4 _ _ h (l.trans l4) o4
            rw [eH4] at y
            exact y
      | false =>
        rw [if_neg Bool.false_ne_true] at hk ⊢
        exact ih hk
/-- e.f -/
theorem w_xf {te : TE} {a dd : Addr} {PD : D → Env → Prop} (h : W G te ρ fun x ρ1 => ∃ fs d, x = .exc a dd c fs ∧ CA = clsAt G.K c ∧ fs.lookup f = some d ∧ PD d ρ1) : W G (tXf a (.ref (clsAt G.K c)) (some dd) CA f te) ρ PD := fun w σ Q o e q =>
  h w σ _ o e fun v w1 x ρ1 ⟨fs, d, ex, eC, hl, p⟩ l1 o1 r1 => by
    subst ex
    subst eC
    cases r1 with
    | @exc _ _ _ xs _ hS rf =>
      obtain ⟨u, hu, ru⟩ := rf.get hl
      exact ⟨rfl, rfl, dd, xs, u, rfl, o1.sub.xd hS, hu, q u w1 d ρ1 p l1 o1 ru⟩
/-! ### repr -/
def gRepr (K : PySem.W.Frag) : List V → Hp → VK → Prop := fun xs H Q => DC.rRepr K xs H Q ∨ DC.rReprE xs H Q
theorem o_repr {X : Cx} (gd : X.A.guards = some []) (hu : X.A.units + 70 < cLine) : CallR X (.builtin "repr") (gRepr X.K) := (DC.call_reprG gd hu).or (DC.call_reprE gd hu)
theorem rc_repr {K : PySem.W.Frag} {x : D} {p : PyData} (hx : x.py = some p) (sh : p.showable = true) (cl : p.canLay0 = true) (dp : p.depth ≤ 64) (sz : p.shown.length ≤ 100000) (h : k (.str p.shown)) : RC K (gRepr K) [x] k := fun w vs Q s r q => by
  obtain ⟨v, rfl, r1⟩ := r.one
  exact .inl ⟨v, p, rfl, r1.dp s hx, sh, cl, dp, sz_of sz, q _ w _ h (LeP.refl w) s (.str _)⟩
theorem rc_reprE {K : PySem.W.Frag} (h : k (.str (PyData.shown (.dict [])))) : RC K (gRepr K) [.dic []] k := fun w vs Q s r q => by
  obtain ⟨v, rfl, r1⟩ := r.one
  cases r1 with
  | dic h1 h2 =>
    cases h2
    exact .inr ⟨_, rfl, s.dk h1, q _ w _ h (LeP.refl w) s (.str _)⟩
end
end DL

namespace DC
open PySem L2 PySem.Spec PyProof.Rows
/-! the law's own call -/
theorem lawG {prg : Program} {wd : World} {K : PySem.W.Frag} {mg mb : Str → Option Value} {lv : Nat} {fa a : Addr} {fd : FuncData} {x : Str} {sp : Sp} {st : Shared} {vs : List Value} {ns : List Int}
    (kin : K.In st.heap) (globs : st.heap.Ns mainGlobals mg) (blts : st.heap.Ns builtinsNs mb) (boot : ∀ x : Str, x ≠ "__name__" → mb x = bootBuiltins x) (nol : st.heap.NoLimit) (nog : st.gens = #[])
    (script : st.heap.get? a = some { cls := .type "list", data := .seq vs.toArray }) (areInts : IntsAre vs ns) (short : ns.length ≤ sizeLine) (room : Room lv callerA)
    (F : ∀ bs : Heap, K.In bs → bs.Ns mainGlobals mg → FnG prg wd K mg bs (L2.CX prg wd) lv fa fd [x] sp) (bnd : ∀ (s : Shared) (u : Value), BindsTo s fd ⟨[u], []⟩ [(x, u)])
    (wish : ∀ H : Hp, SqL K H a (ns.map V.int) → sp [.ref a] H (fun v _ => v = .bl true) fun _ _ _ => False) :
    codeAny (model prg wd) callerA (.call (.ref fa) ⟨[.ref a], []⟩) (fun r s' => r = .ok (.ret (.bool true)) ∧ OldK st.heap s'.heap ∧ s'.os = st.os ∧ AllBare s'.gens) st := by
  have rel := vals_ints areInts
  have key : ∀ H : Hp, (∀ b u, H b = some u → b = a ∧ ∃ o xs, u = .frz o (.lst xs)) → SqL K H a (ns.map V.int) → HOk prg wd H st.heap → (H a ≠ none → K.lookup a = none) →
      codeAny (model prg wd) callerA (.call (.ref fa) ⟨[.ref a], []⟩) (fun r s' => r = .ok (.ret (.bool true)) ∧ OldK st.heap s'.heap ∧ s'.os = st.os ∧ AllBare s'.gens) st := fun H only sq hok out => by
    have free : ∀ {b : Addr}, b ≠ a → H b = none := fun {b} ne => by
      cases q : H b with
      | none => rfl
      | some u => exact absurd (only b u q).1 ne
    have below : ∀ {b : Addr} {o : Obj}, st.heap.get? b = some o → H b = none → (hidT st.heap H).get? b = some o := fun e n => hidT_get e n
    have nsB : ∀ {b : Addr} {m : Str → Option Value}, st.heap.Ns b m → (hidT st.heap H).Ns b m := fun {b m} ⟨o, es, ep, e, d, r⟩ => ⟨o, es, ep, below e (free fun z => by
      rw [z, script] at e
      cases (Option.some.inj e)
      cases (show Data.seq vs.toArray _ = Data.dict es ep from d)), d, r⟩
    have kinB : K.In (hidT st.heap H) := fun b o e => below (kin b o e) (by
      cases q : H b with
      | none => rfl
      | some u =>
        obtain ⟨z, _⟩ := only b u q
        subst z
        rw [out (by rw [q]; exact Option.some_ne_none _)] at e
        cases e)
    obtain ⟨mc, l1, l2⟩ := nol
    have md : Mod K mg (hidT st.heap H) := ⟨kinB, nsB globs, ⟨mb, nsB blts, boot⟩, mc, nsB l1, l2⟩
    have env : Env0 prg wd K mg (hidT st.heap H) callerA [] st H := ⟨rfl, md, fun b o e => of_hidT e, Nat.le_of_eq (hidT_size _ _), trivial, (fun b mem => by cases mem), hok, .of_eq nog⟩
    refine codeAny_mono ((F _ kinB (nsB globs)).go callerA [] st H ⟨[.ref a], []⟩ [.ref a] [.ref a] _ _ rfl room env (bnd st (.ref a)) (.cons rfl .nil) (wish H sq)) fun out s' got => ?_
    match out, got with
    | .error e, got =>
      obtain ⟨_, _, _, _, _, _, _, _, _, _, _, _, z⟩ := got
      exact z.elim
    | .ok .next, got => exact got.elim
    | .ok .brk, got => exact got.elim
    | .ok .cont, got => exact got.elim
    | .ok (.ret u), ⟨v, H', os, bare, un, hok', r', q⟩ =>
      have ev : v = .bl true := q
      subst ev
      cases (show u = Value.bool true from r')
      refine ⟨rfl, OldK.of_keep (fun b o e => ?_), os, bare⟩
      cases q : H b with
      | none => exact un.keep b o e q (fun z => by cases z) (fun z => by cases z)
      | some u =>
        obtain ⟨_, ob, xs, eu⟩ := only b u q
        subst eu
        have q1 := (hok b _ q).1
        have q2 := (hok' b _ (un.frzs b ob _ q)).1
        rw [e] at q1
        cases (Option.some.inj q1)
        exact q2
  cases hk : K.lookup a with
  | some o =>
    have e := kin a o hk
    rw [script] at e
    cases (Option.some.inj e)
    exact key (fun _ => none) (fun b u z => by cases (show (none : Option HO) = some u from z)) (.inr ⟨_, vs.toArray, _, hk, rfl, rfl, rfl, by rw [List.size_toArray, areInts.length]; exact short, by simpa using rel⟩) (fun b u z => by cases (show (none : Option HO) = some u from z)) (fun z => absurd rfl z)
  | none =>
    have here : ∀ {b : Addr} {u : HO}, upd (fun _ => none) a (.frz { cls := .type "list", data := .seq vs.toArray } (.lst (ns.map V.int))) b = some u → b = a ∧ u = .frz { cls := .type "list", data := .seq vs.toArray } (.lst (ns.map V.int)) := fun {b u} z => by
      by_cases hb : b = a
      · subst hb
        rw [upd_same] at z
        exact ⟨rfl, (Option.some.inj z).symm⟩
      · rw [upd_ne hb] at z
        cases z
    refine key (upd (fun _ => none) a (.frz { cls := .type "list", data := .seq vs.toArray } (.lst (ns.map V.int)))) (fun b u z => ⟨(here z).1, _, _, (here z).2⟩) (.inl (.inr ⟨_, upd_same⟩)) (fun b u z => ?_) fun _ => hk
    obtain ⟨e1, e2⟩ := here z
    subst e1
    subst e2
    exact ⟨script, by rw [List.length_map]; exact short, vs, _, rel, script⟩
end DC
namespace DL
open PySem L2 PySem.Spec PyProof.Rows
/-- the walk's end, from the law's contract -/
theorem walk_DL {l : PySem.W.OpenLaw} {n lv : Nat} {q : Program} {loose : List Str} {XP : (Str → Option Value) → Heap → Prop} {YP : World → Heap → Prop} {d : DefRec} {x : Str} {C : CD} (most : l.most = some n) (few : n ≤ sizeLine) (nodfl : d.params.defaults = []) (room : Room lv callerA)
    (F : ∀ (w : World) (mg : Str → Option Value) (fa : Addr) (h : Heap), YP w h → h.Ns mainGlobals mg → mg d.name = some (.ref fa) → ∃ (K : PySem.W.Frag) (fd : FuncData), K.In h ∧ (∀ (s : Shared) (u : Value), BindsTo s fd ⟨[u], []⟩ [(x, u)]) ∧
        ∀ bs : Heap, K.In bs → bs.Ns mainGlobals mg → DC.FnG l.prog w K mg bs (L2.CX l.prog w) lv fa fd [x] (toSp K 1 C.con))
    (wish : ∀ ns : List Int, ns.length ≤ n → (∀ z ∈ ns, Builtin.Int.intBits z ≤ 1048576) → C.c [.rol (ns.map .int)] fun o => o = .ret (.sh (.bl true))) : PySem.W.WalkO q loose XP YP l.row.toRowW d [] (fun f vs => PySem.call f vs) := by
  refine Att.attach_callB most nodfl fun w s₀ s₁ mg mb fa o pm cd doc a vs ns G Y ho hd hcd hmg hobj hints hlen hbits hg => ?_
  obtain ⟨K, fd, kin, bnd, hF⟩ := F w mg fa _ Y G.T.g hmg
  refine DC.lawG kin G.T.g G.T.b G.T.builtins G.T.nolimit hg hobj hints (Nat.le_trans hlen few) room hF bnd fun H sq => ?_
  refine ⟨⟨H, H, []⟩, [.sh (.rol (ns.map .int))], rfl, fun _ _ h => .inl h, OwnL.cons (f := []) (g := []) (.sh (.rol sq ?_)) .nil, List.nodup_nil, rfl, [.rol (ns.map .int)], rfl, C.mono _ _ _ (fun o ho => ?_) (wish ns hlen hbits)⟩
  · clear hints hlen hbits sq
    induction ns with
    | nil => exact .nil
    | cons i r ih => exact .cons (.int i) ih
  · subst ho
    intro w' fp' l s ow v fr om hF nd
    cases om with
    | sh r => exact r.bl_inv
end DL

namespace DL
open PySem L2
/-! ### facts of exception classes, of a module's tuple, by a Bool each -/
def oexB (K : PySem.W.Frag) (C : Addr) : Bool := (match K.lookup C with
    | some ⟨.type "type", _, .cls cd, slots⟩ => (match cd.mro, slots.toList with
      | .ref D :: up, [_, _, _, _, some (.builtin n), _] => D == C && (n == "ValueError.__new__" && (!cd.hasDel && (cd.hasDict && PySem.HandSPX.refsVE up)))
      | _, _ => false)
    | _ => false) && (decide (PySem.W.findIn K (.ref C) "__setattr__" = some (some (.builtin "object.__setattr__"))) && (decide (PySem.W.subIn K (.ref C) (.type "BaseException") = some true) && (decide (PySem.W.typeIn K (.ref C) = some (.type "type")) && PySem.W.keepIn K (.ref C))))
theorem oexB_ok {K : PySem.W.Frag} {C : Addr} (h : oexB K C = true) : OexC K C := by
  obtain ⟨h1, h⟩ := (Bool.and_eq_true_iff.mp h)
  obtain ⟨h2, h⟩ := (Bool.and_eq_true_iff.mp h)
  obtain ⟨h3, h⟩ := Bool.and_eq_true_iff.mp h
  obtain ⟨h4, h5⟩ := Bool.and_eq_true_iff.mp h
  refine ⟨?_, of_decide_eq_true h2, of_decide_eq_true h3, of_decide_eq_true h4, h5⟩
  split at h1
  · rename_i dict cd sl at_
    split at h1
    · rename_i D up s0 s1 s2 s3 n s5 em es
      simp only [Bool.and_eq_true, beq_iff_eq, Bool.not_eq_true'] at h1
      obtain ⟨rfl, rfl, nodel, hasd, tail⟩ := h1
      obtain ⟨nm, bases, mro, space, qn, hd, sn, sub, ab, col, del⟩ := cd
      dsimp only at em nodel hasd
      subst em nodel hasd
      obtain ⟨l⟩ := sl
      simp only at es
      subst es
      exact ⟨nm, qn, space, bases, up, sn, sub, ab, col, dict, s0, s1, s2, s3, s5, at_, tail⟩
    · cases h1
  · cases h1
/-- an exception class's own __init__ -/
def iniB (K : PySem.W.Frag) (C : Addr) : Bool := decide (PySem.W.findIn K (.ref C) "__init__" = some (some (.ref (He.ma K C "__init__")))) && decide (PySem.W.typeIn K (.ref (He.ma K C "__init__")) = some (.type "function"))
theorem iniB_ok {K : PySem.W.Frag} {C : Addr} (h : iniB K C = true) : PySem.W.findIn K (.ref C) "__init__" = some (some (.ref (He.ma K C "__init__"))) ∧ PySem.W.typeIn K (.ref (He.ma K C "__init__")) = some (.type "function") := by
  obtain ⟨h1, h2⟩ := Bool.and_eq_true_iff.mp h
  exact ⟨of_decide_eq_true h1, of_decide_eq_true h2⟩
/-- a tuple of texts that stands in the written part -/
def strsB : List Value → List Str → Bool
  | [], [] => true
  | .str x _ :: r, y :: s => decide (x = y) && strsB r s
  | _, _ => false
theorem strsB_ok : ∀ {us : List Value} {xs : List Str}, strsB us xs = true → Vals (xs.map V.str) us
  | [], [], _ => .nil
  | [], _ :: _, h => by cases h
  | u :: r, [], h => by cases u <;> cases h
  | u :: r, y :: s, h => by
    cases u with
    | str x t =>
      obtain ⟨h1, h2⟩ := Bool.and_eq_true_iff.mp (show (decide (x = y) && strsB r s) = true from h)
      have e : x = y := of_decide_eq_true h1
      subst e
      exact .cons ⟨t, rfl⟩ (strsB_ok h2)
    | _ => cases h
def tupB (K : PySem.W.Frag) (x : Str) (xs : List Str) : Bool := match K.lookup (He.ga K x) with
  | some ⟨.type "tuple", _, .seq its _, _⟩ => strsB its.toList xs && decide (its.size ≤ 1000)
  | _ => false
theorem repL_strs {K : PySem.W.Frag} {S : Hp} : ∀ xs : List Str, RepL K S (xs.map .str) (xs.map .str)
  | [] => .nil
  | x :: r => .cons (.str x) (repL_strs r)
theorem tupB_ok {K : PySem.W.Frag} {x : Str} {xs : List Str} (h : tupB K x xs = true) (S : Hp) : Rep K S (.ref (He.ga K x)) (.tup (xs.map .str)) := by
  unfold tupB at h
  split at h
  · rename_i dict its n sl at_
    obtain ⟨h1, h2⟩ := Bool.and_eq_true_iff.mp h
    have z : its.size ≤ 1000 := of_decide_eq_true h2
    exact .tup (.inr ⟨_, its, n, at_, rfl, rfl, sz_of (by omega), strsB_ok h1⟩) (repL_strs xs)
  · cases h
theorem w_glob {G : Gx} {ρ : Env} {P : D → Env → Prop} {v : V} {d : D} (r : ∀ S, Rep G.K S v d) (k : P d ρ) : W G (tC v) ρ P := fun w _ _ o _ q => q _ w _ ρ k (Le.refl w) o (r w.S)
theorem room70 {k : Nat} {A : Around} (r : Room k A) : A.units + 70 < cLine := by have := r.un; omega
end DL

namespace DL
open PySem L2
section
variable {G : Gx} {ρ : Env} {t : TA} {P : D → Env → Prop} {PO : M → Env → Prop} {n i : Nat} {dvs : List V} {dds : List D} {ta te : TE} {CA : Addr} {m : Str} {PS_ : Post}
/-- calls that give data -/
theorem w_cd {C : CD} (hd : ∀ S, RepL G.K S dvs dds) (h : WA G t ρ fun ds ρ1 => (ds ++ dds).length = n ∧ C.c (ds ++ dds) fun o => match o with | .ret m => ∃ d, Frz m d ∧ P d ρ1 | .err c fs => G.er c fs ρ1) :
    W G (tCallSD (toSp G.K n C.con) dvs (fun σ cls d H => G.Wx cls d σ H) t) ρ P := w_frz (wo_cd hd h)
theorem w_md {C : CD} (hd : ∀ S, RepL G.K S dvs dds) (h : W G ta ρ fun x ρ1 => ∃ c fs, x = .obj c fs ∧ CA = clsAt G.K c ∧ fs.lookup m = none ∧ WA G t ρ1 fun ds ρ2 => (x :: (ds ++ dds)).length = n ∧
      C.c (x :: (ds ++ dds)) fun o => match o with | .ret m => ∃ d, Frz m d ∧ P d ρ2 | .err c fs => G.er c fs ρ2) : W G (DC.tMethS CA m (toSp G.K n C.con) dvs (fun σ cls d H => G.Wx cls d σ H) ta t) ρ P := w_frz (wo_md hd h)
theorem w_co {C : CO} (hd : ∀ S, RepL G.K S dvs dds) (hp : ∃ m, ρ[i]? = some (some m)) (h : WA G t ρ fun ds ρ1 => ∃ m, ρ1[i]? = some (some m) ∧ (ds ++ dds).length + 1 = n ∧
      C.c m (ds ++ dds) fun o m' => match o with | .ret a => ∃ d, Frz a d ∧ P d (ρ1.set i (some m')) | .err c fs => G.er c fs (ρ1.set i (some m'))) :
    W G (tCallSD (toSp G.K n C.con) dvs (fun σ cls d H => G.Wx cls d σ H) (tCons (tVar i) t)) ρ P := w_frz (wo_co hd hp h)
theorem w_mk {C : CO} {c : Str} (hd : ∀ S, RepL G.K S dvs dds) (h : WA G t ρ fun ds ρ1 => CA = clsAt G.K c ∧ (ds ++ dds).length + 1 = n ∧ C.c (.obj c []) (ds ++ dds) fun o m' => match o with | .ret a => a = .sh .non ∧ ∃ d, Frz m' d ∧ P d ρ1 | .err c fs => G.er c fs ρ1) :
    W G (DC.tMakeS CA (toSp G.K n C.con) dvs (fun σ cls d H => G.Wx cls d σ H) t) ρ P := w_frz (wo_mk hd h)
theorem repL_nil {K : PySem.W.Frag} : ∀ S : Hp, RepL K S [] [] := fun _ => .nil
theorem repL_int {K : PySem.W.Frag} (i : Int) : ∀ S : Hp, RepL K S [.int i] [.int i] := fun _ => .cons (.int i) .nil
/-- xs.append(e), xs a name's own list -/
theorem ws_append (hpx : ∃ m, ρ[i]? = some (some (.lst m))) (h : W G te ρ fun d ρ1 => ∃ ms, ρ1[i]? = some (some (.lst ms)) ∧ ms.length ≤ 90000 ∧ PS_.nx (ρ1.set i (some (.lst (ms ++ [.sh d]))))) (stay : ∀ w σ, Ok G w σ ρ → True := fun _ _ _ => trivial) :
    WS G (tDrop (tBM G.K "list" rAppend (tVar i) (tCons te tNil))) ρ PS_ := fun w σ D o e q => by
  obtain ⟨m0, hm0⟩ := hpx
  obtain ⟨v, fp0, w0, hv, l0, _, _, _, om0⟩ := o.takeM hm0
  refine ⟨v, hv, ?_, ?_⟩
  · cases om0 with
    | lst hS hH ol => exact .inl ⟨rfl, _, .inl (.inl hH)⟩
  refine h w σ _ o e fun u w1 d ρ1 ⟨ms, hi, hl, p⟩ l1 o1 r1 => ?_
  obtain ⟨v', fp, w2, hv', l2, eS, eH, o2, om⟩ := o1.takeM hi
  obtain rfl : v' = v := by
    rw [hv] at hv'
    exact (Option.some.inj (Option.some.inj hv')).symm
  have hil : i < ρ1.length := (List.getElem?_eq_some_iff.mp hi).1
  have ndf := o2.nodupFx
  cases om with
  | @lst a vs _ fp1 hS hH ol =>
    have nd1 := List.nodup_cons.mp ndf
    refine ⟨a, vs, u, rfl, rfl, hH, by rw [ol.len]; exact Nat.lt_of_le_of_lt hl (by decide), ?_⟩
    obtain ⟨w3, l3, eS3, eH3, o3⟩ := OkE.write (a := a) (ob := .lst (vs ++ [u])) (fp' := (a :: fp1) ++ []) o2 List.mem_cons_self (by rw [eS]; exact hS) (fun x hx => by rw [List.append_nil] at hx; exact hx) (by rw [List.append_nil]; exact ndf)
    have own : OwnR G.K w3.S w3.H (.ref a) (.lst (ms ++ [.sh d])) (a :: fp1) := by
      rw [eS3, eH3, eS, eH]
      refine .lst hS upd_same ?_
      have k1 : OwnL G.K w1.S (upd w1.H a (.lst (vs ++ [u]))) vs ms fp1 := ol.keep (Ex.refl _) (fun x hx => (ol.at_ x hx).1) fun x hx ob ho => by
        rw [upd_ne (fun z : x = a => nd1.1 (by rw [← z]; exact hx))]
        exact ho
      have app : ∀ {vs : List V} {ms : List M} {fp : List Addr} {S H : Hp}, OwnL G.K S H vs ms fp → Rep G.K S u d → OwnL G.K S H (vs ++ [u]) (ms ++ [.sh d]) fp := by
        intro vs ms fp S H k r
        induction vs generalizing ms fp with
        | nil =>
          cases k
          exact OwnL.cons (f := []) (g := []) (.sh r) .nil
        | cons b vs ih =>
          cases k with
          | cons k1 k2 => exact .cons k1 (ih k2)
      exact app k1 r1
    obtain ⟨w4, l4, eS4, eH4, o4⟩ := OkE.putBack (fr := []) o3 hv own hil
    have z := q.nx w4 σ _ p (((l1.trans l2).trans l3).trans l4) o4
    rw [eH4, eH3, eH] at z
    exact z
/-- len(xs), xs a name's own list -/
theorem w_lenO {ms : List M} (hm : ρ[i]? = some (some (.lst ms))) (k : P (.int ms.length) ρ) : W G (tCB (fun xs H Q => ∃ x n, xs = [x] ∧ LenV G.K x H n ∧ Q (.int n) H) (tCons (tVar i) tNil)) ρ P := fun w σ Q o e q => by
  obtain ⟨v, fp, w0, hv, _, _, _, _, om⟩ := o.takeM hm
  refine ⟨v, hv, ?_⟩
  cases om with
  | @lst a vs _ _ hS hH ol => exact ⟨_, ms.length, rfl, .inl ⟨vs, .inl (.inl hH), ol.len.symm⟩, q _ w _ ρ k (Le.refl w) o (.int _)⟩
end
theorem FrzL.shs {ds : List D} : Frz (.lst (ds.map .sh)) (.lst ds) := frz_lst

/-! ### an if at the data -/
theorem if_dec {p : Prop} [Decidable p] {A B : Prop} (h : p → A) (h' : ¬ p → B) : if decide p = true then A else B := by
  by_cases q : p
  · rw [decide_eq_true q, if_pos rfl]
    exact h q
  · rw [decide_eq_false q, if_neg Bool.false_ne_true]
    exact h' q
theorem if_ndec {p : Prop} [Decidable p] {A B : Prop} (h : ¬ p → A) (h' : p → B) : if (!decide p) = true then A else B := by
  by_cases q : p
  · rw [decide_eq_true q]
    exact h' q
  · rw [decide_eq_false q]
    exact h q
theorem if_b {b : Bool} {A B : Prop} (h : b = true → A) (h' : b = false → B) : if b = true then A else B := by
  cases b with
  | true => exact h rfl
  | false => exact h' rfl
theorem if_nb {b : Bool} {A B : Prop} (h : b = false → A) (h' : b = true → B) : if (!b) = true then A else B := by
  cases b with
  | true => exact h' rfl
  | false => exact h rfl
/-! ### signs of a text -/
theorem wi_str {G : Gx} {ρ : Env} {te : TE} {P : List D → Env → Prop} (h : W G te ρ fun x ρ1 => ∃ a, x = .str a ∧ P (a.cps.toList.map fun c => .str ⟨#[c]⟩) ρ1) : WI G (iStr te) ρ P := fun w σ R o e q =>
  h w σ _ o e fun v w1 x ρ1 ⟨a, ex, p⟩ l1 o1 r1 => by
    subst ex
    refine ⟨a, r1.str_inv, q _ w1 _ ρ1 p l1 o1 fun w2 _ s2 => ⟨fun i d hd => ?_, by
      show a.cps.size ≤ (a.cps.toList.map fun c => D.str ⟨#[c]⟩).length
      (rw [List.length_map, Array.length_toList])
      exact Nat.le_refl _⟩⟩
    rw [List.getElem?_map] at hd
    cases e1 : a.cps.toList[i]? with
    | none =>
      rw [e1] at hd
      cases hd
    | some c =>
      rw [e1] at hd
      have ed := Option.some.inj hd
      subst ed
      rw [Array.getElem?_toList] at e1
      refine ⟨(Array.getElem?_eq_some_iff.mp e1).1, fun x H' ⟨eH, c', e2, ex⟩ => ⟨w2, eH.symm, LeP.refl w2, s2, ?_⟩⟩
      rw [e1] at e2
      cases (Option.some.inj e2)
      subst ex
      exact .str _
/-! ### in, not in -/
def D.flat : D → Bool
  | .non => true
  | .bl _ => true
  | .int _ => true
  | .str _ => true
  | _ => false
def dEq : D → D → Bool
  | .non, .non => true
  | .bl a, .bl b => a == b
  | .bl truth, .int b => (if truth then 1 else 0) == b
  | .int a, .bl truth => a == (if truth then 1 else 0)
  | .int a, .int b => a == b
  | .str a, .str b => a == b
  | _, _ => false
theorem Rep.flat_eq {K : PySem.W.Frag} {S : Hp} {v u : V} {x y : D} (r : Rep K S v x) (fx : x.flat = true) (q : Rep K S u y) (fy : y.flat = true) : flatV v = true ∧ eqV v u = dEq x y := by
  cases x <;> first | cases fx | skip
  all_goals cases y <;> first | cases fy | skip
  all_goals cases r
  all_goals cases q
  all_goals exact ⟨rfl, rfl⟩
theorem RepL.flats {K : PySem.W.Frag} {S : Hp} {u : V} {y : D} (q : Rep K S u y) (fy : y.flat = true) : ∀ {vs : List V} {ds : List D}, RepL K S vs ds → ds.all D.flat = true → vs.all flatV = true ∧ inV u vs = ds.any fun z => dEq z y
  | _, _, .nil, _ => ⟨rfl, rfl⟩
  | v :: vs, d :: ds, .cons r1 r2, h => by
    (rw [List.all_cons, Bool.and_eq_true] at h)
    obtain ⟨a1, a2⟩ := RepL.flats q fy r2 h.2
    obtain ⟨b1, b2⟩ := r1.flat_eq h.1 q fy
    unfold inV at a2 ⊢
    rw [List.all_cons, List.any_cons, List.any_cons, b1, a1, b2, a2]
    exact ⟨rfl, rfl⟩
section
variable {K : PySem.W.Frag} {k : D → Prop} {x y : D} {ys : List D}
theorem rd_in (hy : IsL y ys ∨ y = .tup ys) (fx : x.flat = true) (fys : ys.all D.flat = true) (p : k (.bl (ys.any fun z => dEq z x))) : RD K (gIn K) x y k := RD.l fun w v u Q s rx ry q => by
  have z : ∃ p vs, u = .ref p ∧ (SqL K w.H p vs ∨ SqT K w.H p vs) ∧ RepL K w.S vs ys := by
    rcases hy with hy | hy
    · obtain ⟨l, vs, e, h1, r1⟩ := Rep.isL_inv hy ry
      exact ⟨l, vs, e, .inl (s.sl h1), r1⟩
    · subst hy
      obtain ⟨l, vs, e, h1, r1⟩ := ry.tup_inv
      exact ⟨l, vs, e, .inr (s.st h1), r1⟩
  obtain ⟨l, vs, eu, h1, r1⟩ := z
  obtain ⟨a1, a2⟩ := RepL.flats rx fx r1 fys
  refine ⟨l, vs, eu, h1, (rx.flat_eq fx rx fx).1, a1, ?_⟩
  show Q (.bl (if false = true then !inV v vs else inV v vs)) w.H
  rw [if_neg Bool.false_ne_true, a2]
  exact q _ w _ p (LeP.refl w) s (.bl _)
theorem rd_ni (hy : IsL y ys ∨ y = .tup ys) (fx : x.flat = true) (fys : ys.all D.flat = true) (p : k (.bl (!ys.any fun z => dEq z x))) : RD K (gNi K) x y k := RD.l fun w v u Q s rx ry q => by
  have z : ∃ p vs, u = .ref p ∧ (SqL K w.H p vs ∨ SqT K w.H p vs) ∧ RepL K w.S vs ys := by
    rcases hy with hy | hy
    · obtain ⟨l, vs, e, h1, r1⟩ := Rep.isL_inv hy ry
      exact ⟨l, vs, e, .inl (s.sl h1), r1⟩
    · subst hy
      obtain ⟨l, vs, e, h1, r1⟩ := ry.tup_inv
      exact ⟨l, vs, e, .inr (s.st h1), r1⟩
  obtain ⟨l, vs, eu, h1, r1⟩ := z
  obtain ⟨a1, a2⟩ := RepL.flats rx fx r1 fys
  refine ⟨l, vs, eu, h1, (rx.flat_eq fx rx fx).1, a1, ?_⟩
  show Q (.bl (if true = true then !inV v vs else inV v vs)) w.H
  rw [if_pos rfl, a2]
  exact q _ w _ p (LeP.refl w) s (.bl _)
end
section
variable {X : Cx}
def rGetL (K : PySem.W.Frag) : V → V → Hp → VK → Prop := fun x y H Q => ∃ p xs i v, x = .ref p ∧ y = .int i ∧ SqL K H p xs ∧ 0 ≤ i ∧ i < 2 ^ 62 ∧ xs[i.toNat]? = some v ∧ Q v H
theorem get_list : PGet X (rGetL X.K) := by
  intro pins s σ H x y xv yv Q I rx ry ⟨p, xs, i, v, ex, ey, hq, h0, h1, hv, q⟩
  subst ex
  subst ey
  cases rx
  obtain ⟨t, rfl⟩ := ry
  obtain ⟨its, r, pl, _⟩ := I.list hq
  obtain ⟨w, ew, rw'⟩ := r.get hv
  exact wpAny_getItem_list pl.isList h0 (by omega) (by simpa using ew) ⟨v, H, I, rw', q⟩
end
end DL

namespace DL
open PySem L2
section
variable {K : PySem.W.Frag} {k : D → Prop} {i j : Int} {x y : D} {a b : Str}
theorem rd_eqI (p : k (.bl (decide (i = j)))) : RD K (rEqD K) (.int i) (.int j) k := rd_eqD rfl rfl rfl rfl (by
  have e : PyData.eqv (.int i) (.int j) = decide (i = j) := by
    show (i == j) = _
    rw [Bool.eq_iff_iff]
    simp
  rw [e]
  exact p)
theorem rd_neI (p : k (.bl (!decide (i = j)))) : RD K (rNeD K) (.int i) (.int j) k := rd_neD rfl rfl rfl rfl (by
  have e : PyData.eqv (.int i) (.int j) = decide (i = j) := by
    show (i == j) = _
    rw [Bool.eq_iff_iff]
    simp
  rw [e]
  exact p)
end
theorem bind_all {K : PySem.W.Frag} {fd : FuncData} {ps : List Str} {dvs : List V} (h : ∃ ds, Vals (dvs.drop dvs.length) ds ∧ L2.Binds K fd ps ds) : L2.Binds K fd ps [] := by
  obtain ⟨ds, v, b⟩ := h
  rw [List.drop_length] at v
  cases v
  exact b
def isI : D → Bool
  | .int _ => true
  | .bl _ => true
  | _ => false
def isB : D → Bool
  | .bl _ => true
  | _ => false
def isS : D → Bool
  | .str _ => true
  | _ => false
def isT : D → Bool
  | .tup _ => true
  | _ => false
def isLs : D → Bool
  | .lst _ => true
  | _ => false
def isDc : D → Bool
  | .dic _ => true
  | _ => false
section
variable {K : PySem.W.Frag} {k : D → Prop} {x : D}
theorem rc_isInt (t : ∃ m, TyB x m) (p : k (.bl (isI x))) : RC K (rIsi K) [x, .ty "int"] k := by
  obtain ⟨m, t⟩ := t
  cases t <;> first | exact rc_isi (b := true) (by constructor) (by decide +kernel) p | exact rc_isi (b := false) (by constructor) (by decide +kernel) p
theorem rc_isBool (t : ∃ m, TyB x m) (p : k (.bl (isB x))) : RC K (rIsi K) [x, .ty "bool"] k := by
  obtain ⟨m, t⟩ := t
  cases t <;> first | exact rc_isi (b := true) (by constructor) (by decide +kernel) p | exact rc_isi (b := false) (by constructor) (by decide +kernel) p
theorem rc_isStr (t : ∃ m, TyB x m) (p : k (.bl (isS x))) : RC K (rIsi K) [x, .ty "str"] k := by
  obtain ⟨m, t⟩ := t
  cases t <;> first | exact rc_isi (b := true) (by constructor) (by decide +kernel) p | exact rc_isi (b := false) (by constructor) (by decide +kernel) p
theorem rc_isTuple (t : ∃ m, TyB x m) (p : k (.bl (isT x))) : RC K (rIsi K) [x, .ty "tuple"] k := by
  obtain ⟨m, t⟩ := t
  cases t <;> first | exact rc_isi (b := true) (by constructor) (by decide +kernel) p | exact rc_isi (b := false) (by constructor) (by decide +kernel) p
theorem rc_isList (t : ∃ m, TyB x m) (p : k (.bl (isLs x))) : RC K (rIsi K) [x, .ty "list"] k := by
  obtain ⟨m, t⟩ := t
  cases t <;> first | exact rc_isi (b := true) (by constructor) (by decide +kernel) p | exact rc_isi (b := false) (by constructor) (by decide +kernel) p
theorem rc_isDict (t : ∃ m, TyB x m) (p : k (.bl (isDc x))) : RC K (rIsi K) [x, .ty "dict"] k := by
  obtain ⟨m, t⟩ := t
  cases t <;> first | exact rc_isi (b := true) (by constructor) (by decide +kernel) p | exact rc_isi (b := false) (by constructor) (by decide +kernel) p
end
theorem wt_yes {G : Gx} {ρ : Env} {PT : Bool → Env → Prop} (k : PT true ρ) : WT G tYes ρ PT := fun w _ _ o _ q => q true w ρ k (Le.refl w) o
theorem w_globI {G : Gx} {ρ : Env} {P : D → Env → Prop} {i : Int} (k : P (.int i) ρ) : W G (tC (.int i)) ρ P := w_int k
theorem ru_neg {K : PySem.W.Frag} {i : Int} {k : D → Prop} (p : k (.int (-i))) : RU K (rU fun i => .int (-i)) (.int i) k := fun w v Q s r q => by
  obtain rfl := r.int_inv
  exact ⟨i, rfl, q _ w _ p (LeP.refl w) s (.int _)⟩
theorem bind_all0 {K : PySem.W.Frag} {fd : FuncData} {ps : List Str} (h : ∃ ds, Vals [] ds ∧ L2.Binds K fd ps ds) : L2.Binds K fd ps [] := by
  obtain ⟨ds, v, b⟩ := h
  cases v
  exact b
section
variable {G : Gx} {P : Post} {c : Str} {fs : List (Str × D)} {ρ : Env} {cv : Value} {n : Option Nat} {i : Nat} {ts : DC.Suite} {more : List DC.Clause}
theorem clD_no (h : PySem.W.exmOne G.K (.ref (clsAt G.K c)) cv = some false) (k : clD G P more c fs ρ) : clD G P ((cv, n, ts) :: more) c fs ρ := by
  cases n with
  | none => exact ⟨false, h, by rw [if_neg Bool.false_ne_true]; exact k⟩
  | some i => exact ⟨false, h, by rw [if_neg Bool.false_ne_true]; exact k⟩
theorem clD_yes (h : PySem.W.exmOne G.K (.ref (clsAt G.K c)) cv = some true) (k : ∀ a ob d pn, WS G.nox (ts a ob (.ref (clsAt G.K c)) d pn) ρ P) : clD G P ((cv, none, ts) :: more) c fs ρ := ⟨true, h, by rw [if_pos rfl]; exact k⟩
theorem clD_as (h : PySem.W.exmOne G.K (.ref (clsAt G.K c)) cv = some true) (hf : fs ≠ []) (hi : i ∉ G.px) (k : ∀ a ob dd pn, WS G.nox (ts a ob (.ref (clsAt G.K c)) (some dd) pn) (ρ.set i (some (.sh (.exc a dd c fs))))
      { nx := fun ρ => P.nx (ρ.set i none), rt := P.rt, bk := fun ρ => P.bk (ρ.set i none), ct := fun ρ => P.ct (ρ.set i none) }) : clD G P ((cv, some i, ts) :: more) c fs ρ := ⟨true, h, by rw [if_pos rfl]; exact ⟨hf, hi, k⟩⟩
end
end DL

namespace DL
open PySem L2
/-! ### the same rules with K named (within a comprehension) -/
section
variable {X : Cx} {K : PySem.W.Frag}
theorem o_addK (hk : X.K = K) : OpR X (binaryOp .Add) (gAdd K) := hk ▸ o_add
theorem o_inK (hk : X.K = K) : OpR X (compareOp .In) (gIn K) := hk ▸ o_in
theorem o_notInK (hk : X.K = K) : OpR X (compareOp .NotIn) (gNi K) := hk ▸ o_notIn
theorem o_eqK (hk : X.K = K) (hu : X.A.units + 64 < cLine) : OpR X (compareOp .Eq) (rEqD K) := hk ▸ op_eqD hu
theorem o_neK (hk : X.K = K) (hu : X.A.units + 64 < cLine) : OpR X (compareOp .NotEq) (rNeD K) := hk ▸ op_neD hu
theorem o_ixK (hk : X.K = K) : IxR X (rIx K) := hk ▸ ix_seq
theorem o_slK (hk : X.K = K) : SlR X (gSl K) := hk ▸ o_sl
theorem pe_fldK {e : Expr} {f : Str} {ta : TE} {pos : Pos} (hk : X.K = K) (he : PE X e ta) (hb : attributeBase e f X.env (eval e X.env) = eval e X.env) : PE X (.Attribute e f pos) (tFld K ta f) := hk ▸ pe_fld he hb
end
/-- {} -/
theorem w_dnew {G : Gx} {ρ : Env} {P : D → Env → Prop} (k : P (.dic []) ρ) : W G tDNewK ρ P := fun w σ Q o e q p hp => by
  have l := Wd.le_add (o := .dK []) o.sub hp
  have s := Wd.sub_add (p := p) (o := .dK []) o.sub
  exact q (.ref p) (w.add p (.dK [])) _ ρ k l.le (o.grow l s) (.dic (.inl upd_same) .nil)
/-- a younger state counts as an older one -/
theorem exP.up {n k : Nat} {m : M} (h : exP n m) (l : n ≤ k) : exP k m := by
  obtain ⟨bs, cs, i, e, h1, h2, r⟩ := h
  exact ⟨bs, cs, i, e, h1, by omega, r⟩
/-- a display whose first item is new -/
theorem wo_lst1 {G : Gx} {ρ : Env} {ta : TE} {tr : TA} {PO : M → Env → Prop} (h : WO G ta ρ fun m ρ1 => WA G tr ρ1 fun ds ρ2 => ds.length ≤ 1000 ∧ PO (.lst (m :: ds.map .sh)) ρ2) : WO G (tLst (tCons ta tr)) ρ PO := fun w σ Q o e q =>
  h w σ _ o e fun v w1 m ρ1 fp h1 l1 o1 r1 => by
    obtain ⟨fps, e1, ef⟩ := o1.env
    have nd := o1.nd
    rw [ef] at nd
    obtain ⟨n1, n2, n3⟩ := List.nodup_append.mp nd
    have o1' : Ok G (w1.less fps.flatten) σ ρ1 := ⟨o1.sub, ⟨fps, e1, by show fps.flatten = _; rw [List.append_nil]⟩, n1, o1.px⟩
    have lw : Le w1 (w1.less fps.flatten) := Wd.le_less fun x hx => by rw [ef]; exact List.mem_append_left _ hx
    refine h1 (w1.less fps.flatten) σ _ o1' (e.later (l1.trans lw)) fun vs w2 ds ρ2 ⟨hl, p⟩ l2 o2 r2 => ⟨sz_of (by rw [List.length_cons, r2.len]; omega), fun a ha => ?_⟩
    have at1 := r1.at_
    have nf : ∀ x ∈ fp, x ∉ fps.flatten := fun x hx z => n3 x z x hx rfl
    -- what the first item owns stands
    have keepH : ∀ x ∈ fp, ∀ u, w1.H x = some u → w2.H x = some u := fun x hx u hu => l2.h x u hu (nf x hx)
    have keepS : ∀ x ∈ fp, w2.S x = none := fun x hx => l2.n x (at1 x hx).2 (nf x hx) (at1 x hx).1
    have own2 : OwnR G.K w2.S w2.H v m fp := r1.keep l2.s keepS keepH
    have nf2 : ∀ x ∈ fp, x ∉ w2.F := fun x hx z => by
      rcases l2.f x z with z | z
      · exact nf x hx z
      · exact (at1 x hx).2 z
    have hfp : ∀ x ∈ fp, w2.H x ≠ none := fun x hx z => by
      cases q1 : w1.H x with
      | none => exact (at1 x hx).2 q1
      | some u => rw [keepH x hx u q1] at z; cases z
    obtain ⟨fps2, e2, ef2⟩ := o2.env
    have at2 := e2.at_
    have ne : ∀ x, w2.H x ≠ none → x ≠ a := fun x hx z => hx (z ▸ ha)
    have kp : ∀ x u, w2.H x = some u → upd w2.H a (.lst (v :: vs)) x = some u := fun x u hx => by
      rw [upd_ne (ne x (by rw [hx]; exact Option.some_ne_none _))]
      exact hx
    have f2 : w2.F = fps2.flatten := by rw [ef2, List.append_nil]
    refine q (.ref a) ⟨w2.S, upd w2.H a (.lst (v :: vs)), fps2.flatten ++ (a :: fp)⟩ _ ρ2 (a :: fp) p ?_ ?_ ?_
    · have l12 := l1.trans (lw.trans l2)
      refine ⟨l12.s, fun x u hx hn => kp x u (l12.h x u hx hn), l12.n, fun x hx => ?_⟩
      rcases List.mem_append.mp hx with z | z
      · exact l12.f x (by rw [f2]; exact z)
      · rcases (List.mem_cons.mp z) with z | z
        · subst z
          by_cases hF : x ∈ w.F
          · exact .inl hF
          · refine .inr ?_
            cases q1 : w.H x with
            | none => rfl
            | some u => rw [l12.h x u q1 hF] at ha; cases ha
        · exact l1.f x (by rw [ef]; exact List.mem_append_right _ z)
    · refine ⟨fun x u hx => ?_, ⟨fps2, e2.keep (Ex.refl _) (fun x hx => (at2 x hx).1) (fun x _ u hu => kp x u hu), rfl⟩, ?_, o2.px⟩
      · rcases o2.sub x u hx with z | ⟨dd, ob, z⟩
        · exact .inl (kp x u z)
        · exact .inr ⟨dd, ob, kp x _ z⟩
      · have nd2 := o2.nd
        rw [f2] at nd2
        refine List.nodup_append.mpr ⟨nd2, List.nodup_cons.mpr ⟨fun z => hfp a z ha, n2⟩, fun x hx y hy z => ?_⟩
        subst z
        rcases List.mem_cons.mp hy with z | z
        · exact (at2 x hx).2 (by rw [z]; exact ha)
        · exact nf2 x z (by rw [f2]; exact hx)
    · refine .lst (o2.sub.free ha) upd_same ?_
      have z : OwnL G.K w2.S (upd w2.H a (.lst (v :: vs))) (v :: vs) (m :: ds.map .sh) (fp ++ []) := .cons (own2.keep (Ex.refl _) keepS fun x hx u hu => kp x u hu) (ownL_of r2)
      rw [List.append_nil] at z
      exact z
theorem wo_ex {G : Gx} {ρ : Env} {te : TE} {PO : M → Env → Prop} {k : Nat} (h : WO G te ρ fun m ρ1 => exP k m ∧ PO (.ex k) ρ1) : WO G te ρ PO := fun w σ Q o e q =>
  h w σ Q o e fun v w1 m ρ1 fp ⟨hx, p⟩ l1 o1 r1 => q v w1 (.ex k) ρ1 fp p l1 o1 (.ex hx r1)
theorem w_join {G : Gx} {ρ : Env} {to te : TE} {P : D → Env → Prop} (h : W G to ρ fun x ρ1 => ∃ a, x = .str a ∧ W G te ρ1 fun y ρ2 => ∃ ys : List Str, IsL y (ys.map .str) ∧ (ys.map (·.length)).sum + ys.length * a.length ≤ 16777216 ∧ P (.str (Txt.join a ys)) ρ2) :
    W G (tM1 (fun x xs H Q => ∃ a p, ∃ ys : List Str, x = .str a ∧ xs = [.ref p] ∧ (SqL G.K H p (ys.map V.str) ∨ SqT G.K H p (ys.map V.str)) ∧ (ys.map (·.length)).sum + ys.length * a.length ≤ 16777216 ∧ Q (.str (Txt.join a ys)) H) to te) ρ P := fun w σ Q o e q =>
  h w σ _ o e fun v w1 x ρ1 ⟨a, ex, h1⟩ l1 o1 r1 => by
    subst ex
    obtain rfl := r1.str_inv
    refine ⟨⟨a, rfl⟩, h1 w1 σ _ o1 (e.later l1) fun u w2 y ρ2 ⟨ys, hy, hz, p⟩ l2 o2 r2 => ?_⟩
    obtain ⟨l, vs, rfl, h2, r3⟩ := Rep.isL_inv hy r2
    rw [r3.strs] at h2
    exact ⟨a, l, ys, rfl, rfl, .inl (o2.sub.sl h2), hz, q _ w2 _ ρ2 p (l1.trans l2) o2 (.str _)⟩
end DL

namespace DC
open PySem L2 PySem.Spec PyProof.Rows
/-- list(s), sign by sign -/
def rListS : List V → Hp → VK → Prop := fun xs H Q => ∃ a : Str, xs = [.str a] ∧ a.cps.size ≤ sizeLine ∧ ∀ l, H l = none → Q (.ref l) (upd H l (.lst (a.cps.toList.map fun c => .str ⟨#[c]⟩)))
theorem vals_signs {a : Str} {acc : List Value} (hl : acc.length = a.cps.toList.length) (h : ∀ (i : Nat) (c : Nat), a.cps.toList[i]? = some c → ∃ t : Tok, acc[i]? = some (Value.str ⟨#[c]⟩ t)) : Vals (a.cps.toList.map fun c => V.str ⟨#[c]⟩) acc := by
  generalize a.cps.toList = l at hl h
  induction (l) generalizing acc with
  | nil =>
    cases acc with
    | nil => exact .nil
    | cons _ _ => simp at hl
  | cons c r ih =>
    cases acc with
    | nil => simp at hl
    | cons v vs =>
      obtain ⟨t, ht⟩ := h 0 c rfl
      refine .cons ⟨t, by simpa using ht⟩ (ih (by simpa using hl) fun i d hd => ?_)
      obtain ⟨t, ht⟩ := h (i + 1) d (by simpa using hd)
      exact ⟨t, by simpa using ht⟩
theorem call_listS {X : Cx} (hc : X.calm = true) : CallR X (.type "list") rListS := by
  intro pins s σ H xs us Q J rel ⟨a, ex, sz, q⟩
  subst ex
  obtain ⟨u, rfl, t, rfl⟩ := vals1 rel
  refine call_list_str (J.ok.hd hc) a t (fun h' tk acc c keep at_ items => ?_) sz
  have v : Vals (a.cps.toList.map fun c => V.str ⟨#[c]⟩) acc.toList := by
    obtain ⟨n, each⟩ := items
    refine vals_signs (by rw [Array.length_toList, Array.length_toList, n]) fun i ch hi => ?_
    have hlt : i < acc.size := by
      rw [n]
      have z := (List.getElem?_eq_some_iff.mp hi).1
      rw [Array.length_toList] at z
      exact z
    obtain ⟨c', u', e1, e2⟩ := each i acc[i] (Array.getElem?_eq_getElem hlt)
    (rw [Array.getElem?_toList] at hi)
    rw [hi] at e1
    cases (Option.some.inj e1)
    exact ⟨u', by rw [Array.getElem?_toList, Array.getElem?_eq_getElem hlt, e2]⟩
  have I2 := J.laid (t' := tk) (o := .lst (a.cps.toList.map fun c => V.str ⟨#[c]⟩)) (h' := h') keep (Nat.le_refl _) (show ObjOk X.prog X.w _ h' _ (.lst _) from ⟨by rw [List.length_map, Array.length_toList]; exact sz, acc.toList, c, v, at_⟩)
  exact ⟨.ref _, _, I2, rfl, q _ (J.hok.fresh (Nat.le_refl _))⟩
end DC
namespace DL
open PySem L2
def gList (K : PySem.W.Frag) : List V → Hp → VK → Prop := fun xs H Q => (fun xs H Q => ∃ p ys, xs = [.ref p] ∧ (SqL K H p ys ∨ SqT K H p ys) ∧ ∀ l, H l = none → Q (.ref l) (upd H l (.lst ys))) xs H Q ∨ DC.rListS xs H Q
theorem o_list {X : Cx} (hc : X.calm = true) : CallR X (.type "list") (gList X.K) := call_list_of.or (DC.call_listS hc)
theorem rc_listL {K : PySem.W.Frag} {k : D → Prop} {x : D} {xs : List D} (hx : IsL x xs) (p : k (.lst xs)) : RC K (gList K) [x] k := fun w vs Q s r q => .inl (rc_list hx p w vs Q s r q)
theorem rc_listS {K : PySem.W.Frag} {k : D → Prop} {a : Str} (h : a.length ≤ 100000) (p : k (.lst (a.cps.toList.map fun c => .str ⟨#[c]⟩))) : RC K (gList K) [.str a] k := fun w vs Q s r q => by
  obtain ⟨v, rfl, r1⟩ := r.one
  obtain rfl := r1.str_inv
  refine .inr ⟨a, rfl, sz_of h, fun l hl => ?_⟩
  have rep : RepL K w.S (a.cps.toList.map fun c => V.str ⟨#[c]⟩) (a.cps.toList.map fun c => D.str ⟨#[c]⟩) := by
    generalize a.cps.toList = l
    induction l with
    | nil => exact .nil
    | cons c r ih => exact .cons (.str _) ih
  obtain ⟨a1, a2, a3⟩ := Wd.repNew s hl rep
  exact q _ _ _ p a1 a2 a3
end DL

namespace DL
open PySem L2
/-! ### the draw state of the laws: a list of the digits that are left, the cells, a count -/
def StM (bl cs : List Int) (k : Int) : M := .lst [.lst (bl.map fun i => .sh (.int i)), .sh (.lst (cs.map .int)), .sh (.int k)]
section
variable {K : PySem.W.Frag} {S H : Hp}
theorem ownL_ints : ∀ {vs : List V} {bl : List Int} {fp : List Addr}, OwnL K S H vs (bl.map fun i => M.sh (.int i)) fp → vs = bl.map .int ∧ fp = []
  | _, [], _, .nil => ⟨rfl, rfl⟩
  | _, _ :: _, _, .cons (.sh r) q => by
    obtain ⟨h1, h2⟩ := ownL_ints q
    subst h1
    subst h2
    exact ⟨by rw [r.int_inv]; rfl, rfl⟩
theorem ints_ownL : ∀ bl : List Int, OwnL K S H (bl.map .int) (bl.map fun i => M.sh (.int i)) []
  | [] => .nil
  | b :: r => OwnL.cons (f := []) (g := []) (.sh (.int b)) (ints_ownL r)
structure StA (K : PySem.W.Frag) (S H : Hp) (a a0 : Addr) (v1 : V) (bl cs : List Int) (k : Int) : Prop where
  sa : S a = none
  sb : S a0 = none
  ha : H a = some (.lst [.ref a0, v1, .int k])
  hb : H a0 = some (.lst (bl.map .int))
  rc : Rep K S v1 (.lst (cs.map .int))
theorem st_inv {v : V} {bl cs : List Int} {k : Int} {fp : List Addr} (o : OwnR K S H v (StM bl cs k) fp) : ∃ a a0 v1, v = .ref a ∧ fp = [a, a0] ∧ StA K S H a a0 v1 bl cs k := by
  unfold StM at o
  cases o with
  | @lst a _ _ _ h1 h2 r =>
    cases r with
    | cons o1 r =>
      cases o1 with
      | @lst a0 _ _ _ h3 h4 r0 =>
        obtain ⟨e1, e2⟩ := ownL_ints r0
        subst e1
        subst e2
        cases r with
        | cons o2 r =>
          cases o2 with
          | sh r2 =>
            cases r with
            | cons o3 r =>
              cases o3 with
              | sh r3 =>
                cases r
                rw [r3.int_inv] at h2
                exact ⟨a, a0, _, rfl, rfl, h1, h3, h2, h4, r2⟩
theorem st_mk {a a0 : Addr} {v1 : V} {bl cs : List Int} {k : Int} (s : StA K S H a a0 v1 bl cs k) : OwnR K S H (.ref a) (StM bl cs k) [a, a0] :=
  .lst s.sa s.ha (OwnL.cons (f := [a0]) (g := []) (.lst s.sb s.hb (ints_ownL bl)) (OwnL.cons (f := []) (g := []) (.sh s.rc) (OwnL.cons (f := []) (g := []) (.sh (.int k)) .nil)))
end
theorem exP.st {n : Nat} {m : M} (h : exP n m) : ∃ bl cs k, m = StM bl cs k ∧ 0 ≤ k ∧ k ≤ n ∧ cs ≠ [] ∧ cs.length ≤ 64 ∧ bl.length ≤ 63 ∧ (∀ b ∈ bl, 0 ≤ b) ∧ (∀ b ∈ bl, Builtin.Int.intBits b ≤ 1048576) ∧ ∀ c ∈ cs, Builtin.Int.intBits c ≤ 1048576 := h
section
variable {G : Gx} {ρ : Env} {P : D → Env → Prop} {PS_ : Post} {i : Nat} {bl cs : List Int} {k j : Int} {te : TE}
/-- a name's own tree under its seal, opened | sealed -/
theorem ws_open {t : TS} {n : Nat} (h0 : ρ[i]? = some (some (.ex n))) (h : ∀ m, exP n m → WS G t (ρ.set i (some m)) PS_) : WS G t ρ PS_ := fun w σ D o e q => by
  obtain ⟨v, fp, w1, h1, l1, hS, hH, o1, r1⟩ := o.takeM h0
  have hil : i < ρ.length := (List.getElem?_eq_some_iff.mp h0).1
  cases r1 with
  | @ex _ _ m _ hx r =>
    obtain ⟨w2, l2, hS2, hH2, o2⟩ := OkE.putBack (fp := fp) (fr := []) (by rw [List.append_nil]; exact o1) h1 (by rw [hS, hH]; exact r) hil
    have z := h m hx w2 σ D o2 (e.later (l1.trans l2)) (q.later (l1.trans l2))
    rw [hH2, hH] at z
    exact z
theorem w_seal {n : Nat} (h : W G te ρ fun d ρ1 => ∃ m, ρ1[i]? = some (some m) ∧ exP n m ∧ P d (ρ1.set i (some (.ex n)))) : W G te ρ P := fun w σ Q o e q =>
  h w σ Q o e fun v w1 d ρ1 ⟨m, hm, hx, p⟩ l1 o1 r1 => by
    obtain ⟨u, fp, w2, h1, l2, hS, hH, o2, om⟩ := o1.takeM hm
    have hil : i < ρ1.length := (List.getElem?_eq_some_iff.mp hm).1
    obtain ⟨w3, l3, hS3, hH3, o3⟩ := OkE.putBack (m := .ex n) (fp := fp) (fr := []) (by rw [List.append_nil]; exact o2) h1 (.ex hx (by rw [hS, hH]; exact om)) hil
    have z := q v w3 d _ p ((l1.trans l2).trans l3) o3 (by rw [hS3, hS]; exact r1)
    rw [hH3, hH] at z
    exact z
/-- what is read of it -/
theorem w_st {j : Int} {d : D} (h0 : ρ[i]? = some (some (StM bl cs k))) (hj : (j = 1 ∧ d = .lst (cs.map .int)) ∨ (j = 2 ∧ d = .int k)) (p : P d ρ) : W G (tOp (rIx G.K) (tVar i) (tC (.int j))) ρ P := fun w σ Q o e q => by
  obtain ⟨v, fp, w1, h1, l1, hS, hH, o1, r1⟩ := o.takeM h0
  obtain ⟨a, a0, v1, rfl, rfl, st⟩ := st_inv r1
  refine ⟨_, h1, ?_⟩
  rcases hj with ⟨rfl, rfl⟩ | ⟨rfl, rfl⟩
  · exact .inl ⟨a, _, 1, v1, rfl, rfl, .inl (.inl st.ha), rfl, q v1 w _ ρ p (Le.refl w) o st.rc⟩
  · exact .inl ⟨a, _, 2, .int k, rfl, rfl, .inl (.inl st.ha), rfl, q _ w _ ρ p (Le.refl w) o (.int k)⟩
theorem w_st00 {b : Int} (h0 : ρ[i]? = some (some (StM (b :: bl) cs k))) (p : P (.int b) ρ) : W G (tOp (rIx G.K) (tOp (rIx G.K) (tVar i) (tC (.int 0))) (tC (.int 0))) ρ P := fun w σ Q o e q => by
  obtain ⟨v, fp, w1, h1, l1, hS, hH, o1, r1⟩ := o.takeM h0
  obtain ⟨a, a0, v1, rfl, rfl, st⟩ := st_inv r1
  exact ⟨_, h1, .inl ⟨a, _, 0, .ref a0, rfl, rfl, .inl (.inl st.ha), rfl, .inl ⟨a0, _, 0, .int b, rfl, rfl, .inl (.inl st.hb), atI_nat (j := 0) rfl, q _ w _ ρ p (Le.refl w) o (.int b)⟩⟩⟩
theorem dp_ints {K : PySem.W.Frag} {H : Hp} : ∀ bl : List Int, DpAll K H (bl.map .int) (bl.map .int)
  | [] => .nil
  | b :: r => .cons (.int b) (dp_ints r)
theorem lay_ints : ∀ bl : List Int, PyData.canLayAll0 (bl.map .int) = true
  | [] => rfl
  | b :: r => by
    show (true && PyData.canLayAll0 (r.map .int)) = true
    rw [lay_ints r]
    rfl
theorem depth_ints : ∀ bl : List Int, PyData.depthAll (bl.map .int) ≤ 1
  | [] => by (simp [PyData.depthAll])
  | b :: r => by
    have := depth_ints r
    simp only [PyData.depthAll, PyData.depth, List.map_cons]
    omega
theorem shaped_ints (bl : List Int) : SeqAt.shaped (.list (bl.map .int)) = true := by
  have e : PyData.canLay0 (.list (bl.map .int)) = true := lay_ints bl
  have d : (PyData.list (bl.map .int)).depth ≤ 64 := by
    have := depth_ints bl
    simp only [PyData.depth]
    omega
  unfold SeqAt.shaped
  rw [e, decide_eq_true d]
  rfl
/-- state[0] != [] -/
theorem w_stNe (h0 : ρ[i]? = some (some (StM bl cs k))) (p : P (.bl (!bl.isEmpty)) ρ) : W G (tOp (rNeD G.K) (tOp (rIx G.K) (tVar i) (tC (.int 0))) (tLst tNil)) ρ P := fun w σ Q o e q => by
  obtain ⟨v, fp, w1, h1, l1, hS, hH, o1, r1⟩ := o.takeM h0
  obtain ⟨a, a0, v1, rfl, rfl, st⟩ := st_inv r1
  refine ⟨_, h1, .inl ⟨a, _, 0, .ref a0, rfl, rfl, .inl (.inl st.ha), rfl, Nat.zero_le _, fun x hx => ?_⟩⟩
  have l := Wd.le_add (o := .lst []) o.sub hx
  have s := Wd.sub_add (p := x) (o := .lst []) o.sub
  refine ⟨.list (bl.map .int), .list [], .lst (.inl (.inl ?_)) (dp_ints bl), .lst (.inl (.inl upd_same)) .nil, shaped_ints bl, rfl, ?_⟩
  · show upd w.H x _ a0 = _
    rw [upd_ne (ne_of_none st.hb hx)]
    exact st.hb
  · have e2 : (!PyData.eqv (.list (bl.map .int)) (.list [])) = !bl.isEmpty := by
      cases bl <;> rfl
    rw [e2]
    exact q _ (w.add x (.lst [])) _ ρ p l.le (o.grow l s) (.bl _)
/-- state[2] += 1 -/
theorem ws_stInc (h0 : ρ[i]? = some (some (StM bl cs k))) (p : PS_.nx (ρ.set i (some (StM bl cs (k + 1))))) : WS G (tAugS (tVar i) (tC (.int 2)) (tC (.int 1)) (rGetL G.K) (ipI fun i j => i + j) rSetL) ρ PS_ := fun w σ D o e q => by
  obtain ⟨v, fp, w1, h1, l1, hS, hH, o1, r1⟩ := o.takeM h0
  have hil : i < ρ.length := (List.getElem?_eq_some_iff.mp h0).1
  obtain ⟨a, a0, v1, rfl, rfl, st⟩ := st_inv r1
  have ne : a0 ≠ a := fun z => by
    have z2 := st.hb
    rw [z, st.ha] at z2
    have z3 := Option.some.inj z2
    cases bl with
    | nil => cases z3
    | cons b r => cases z3
  refine ⟨_, h1, a, _, 2, .int k, rfl, rfl, .inl (.inl st.ha), by decide, by decide, rfl, k, 1, rfl, rfl, a, _, 2, 2, rfl, rfl, st.ha, rfl, ?_⟩
  obtain ⟨w2, l2, hS2, hH2, o2⟩ := OkE.write (a := a) (ob := .lst [.ref a0, v1, .int (k + 1)]) (fp' := [a, a0] ++ []) o1 List.mem_cons_self (by rw [hS]; exact st.sa) (fun x hx => by simpa using hx) (by simpa using o1.nodupFx)
  have st2 : StA G.K w2.S w2.H a a0 v1 bl cs (k + 1) := by
    rw [hS2, hH2, hS, hH]
    exact ⟨st.sa, st.sb, upd_same, by rw [upd_ne ne]; exact st.hb, st.rc⟩
  obtain ⟨w3, l3, hS3, hH3, o3⟩ := OkE.putBack (fr := []) o2 h1 (st_mk st2) hil
  have z := q.nx w3 σ _ p ((l1.trans l2).trans l3) o3
  rw [hH3, hH2, hH] at z
  exact z
/-- state[0] = state[0][1:] -/
theorem ws_stTail {b : Int} (h0 : ρ[i]? = some (some (StM (b :: bl) cs k))) (p : PS_.nx (ρ.set i (some (StM bl cs k)))) : WS G (tAsg (tSl (gSl G.K) (tOp (rIx G.K) (tVar i) (tC (.int 0))) (tPart (tC (.int 1))) tNoPart) (gSub (tVar i) (tC (.int 0)) rSetL)) ρ PS_ := fun w σ D o e q => by
  obtain ⟨v, fp, w1, h1, l1, hS, hH, o1, r1⟩ := o.takeM h0
  have hil : i < ρ.length := (List.getElem?_eq_some_iff.mp h0).1
  obtain ⟨a, a0, v1, rfl, rfl, st⟩ := st_inv r1
  have cut : cutV ((b :: bl).map V.int) (some 1) none = bl.map .int := by
    unfold cutV
    have e1 : HT.sIx ((b :: bl).map V.int).length 0 (some 1) = 1 := by
      have z := HT.sIx_nat ((b :: bl).map V.int).length 0 1
      rw [show ((1 : Nat) : Int) = 1 from rfl] at z
      rw [z, List.length_map, List.length_cons]
      omega
    rw [e1, HT.sIx_none, List.length_map, List.length_cons]
    show (bl.map V.int).take (bl.length + 1 - 1) = _
    rw [Nat.add_sub_cancel, List.take_of_length_le (by rw [List.length_map]; exact Nat.le_refl _)]
  refine ⟨_, h1, .inl ⟨a, _, 0, .ref a0, rfl, rfl, .inl (.inl st.ha), rfl, 1, rfl, .inl ⟨a0, _, rfl, .inl (.inl st.hb), fun x hx => ?_⟩⟩⟩
  rw [cut]
  have nxa : a ≠ x := ne_of_none st.ha hx
  have hx1 : w1.H x = none := by rw [hH]; exact hx
  refine ⟨_, h1, a, _, 0, 0, rfl, rfl, by rw [upd_ne nxa]; exact st.ha, rfl, ?_⟩
  -- the new list is owned beside
  obtain ⟨fps, e1, ef⟩ := o1.env
  have nd := o1.nd
  rw [ef] at nd
  obtain ⟨n1, n2, n3⟩ := List.nodup_append.mp nd
  have at1 := e1.at_
  have keep : ∀ y u, w1.H y = some u → upd w1.H x (.lst (bl.map .int)) y = some u := fun y u hy => Ex.new hx1 y u hy
  have sub1 : Sub w1.S (upd w1.H x (.lst (bl.map .int))) := fun y u hy => by
    have z : y ≠ x := fun z => by
      have q1 := o1.sub.free hx1
      rw [← z, hy] at q1
      cases q1
    rcases o1.sub y u hy with k1 | ⟨d1, ob, k1⟩
    · exact .inl (keep y _ k1)
    · exact .inr ⟨d1, ob, keep y _ k1⟩
  have o2 : OkE G ⟨w1.S, upd w1.H x (.lst (bl.map .int)), fps.flatten ++ [a, x]⟩ σ (ρ.set i none) [a, x] := by
    refine ⟨sub1, ⟨fps, e1.keep (Ex.refl _) (fun y hy => (at1 y hy).1) (fun y _ u hu => keep y u hu), rfl⟩, ?_, o1.px⟩
    show (fps.flatten ++ [a, x]).Nodup
    refine List.nodup_append.mpr ⟨n1, by simp [nxa], fun y hy z hz e3 => ?_⟩
    subst e3
    rcases List.mem_cons.mp hz with h | h
    · subst h
      exact n3 y hy y List.mem_cons_self rfl
    · obtain rfl : y = x := by simpa using h
      exact (at1 y hy).2 hx1
  have l2 : Le w1 ⟨w1.S, upd w1.H x (.lst (bl.map .int)), fps.flatten ++ [a, x]⟩ := ⟨Ex.refl _, fun y u hy _ => keep y u hy, fun _ _ _ h => h, fun y hy => by
    rcases List.mem_append.mp hy with h | h
    · exact .inl (by rw [ef]; exact List.mem_append_left _ h)
    · rcases List.mem_cons.mp h with h | h
      · subst h
        exact .inl (by rw [ef]; exact List.mem_append_right _ List.mem_cons_self)
      · obtain rfl : y = x := by simpa using h
        exact .inr hx1⟩
  obtain ⟨w3, l3, hS3, hH3, o3⟩ := OkE.write (a := a) (ob := .lst [.ref x, v1, .int k]) (fp' := [a, x] ++ []) o2 List.mem_cons_self (by show w1.S a = none; rw [hS]; exact st.sa) (fun y hy => by simpa using hy) (by simpa using o2.nodupFx)
  have st2 : StA G.K w3.S w3.H a x v1 bl cs k := by
    rw [hS3, hH3]
    refine ⟨by show w1.S a = none; rw [hS]; exact st.sa, o1.sub.free hx1, upd_same, ?_, by show Rep G.K w1.S v1 _; rw [hS]; exact st.rc⟩
    rw [upd_ne (Ne.symm nxa)]
    exact upd_same
  obtain ⟨w4, l4, hS4, hH4, o4⟩ := OkE.putBack (fr := []) o3 h1 (st_mk st2) hil
  have z := q.nx w4 σ _ p (((l1.trans l2).trans l3).trans l4) o4
  rw [hH4, hH3, hH] at z
  exact z
/-- state[0][0] = e -/
theorem ws_stHead {b : Int} (h0 : ∃ m, ρ[i]? = some (some m)) (h : W G te ρ fun d ρ1 => ∃ b', d = .int b' ∧ ρ1[i]? = some (some (StM (b :: bl) cs k)) ∧ PS_.nx (ρ1.set i (some (StM (b' :: bl) cs k)))) : WS G (tAsg te (gSub (tOp (rIx G.K) (tVar i) (tC (.int 0))) (tC (.int 0)) rSetL)) ρ PS_ := fun w σ D o e q =>
  h w σ _ o e fun u w0 d ρ1 ⟨b', ed, hi, p⟩ l0 o0 r0 => by
    subst ed
    obtain rfl := r0.int_inv
    obtain ⟨v, fp, w1, h1, l1, hS, hH, o1, r1⟩ := o0.takeM hi
    have hil : i < ρ1.length := (List.getElem?_eq_some_iff.mp hi).1
    obtain ⟨a, a0, v1, rfl, rfl, st⟩ := st_inv r1
    have ne : a0 ≠ a := fun z => by
      have z2 := st.hb
      rw [z, st.ha] at z2
      cases (Option.some.inj z2)
    refine ⟨_, h1, .inl ⟨a, _, 0, .ref a0, rfl, rfl, .inl (.inl st.ha), rfl, a0, (b :: bl).map .int, 0, 0, rfl, rfl, st.hb, ?_, ?_⟩⟩
    · unfold ixN
      rw [if_pos (by decide), if_pos (by rw [List.length_map, List.length_cons]; omega)]
      rfl
    obtain ⟨w2, l2, hS2, hH2, o2⟩ := OkE.write (a := a0) (ob := .lst ((b' :: bl).map .int)) (fp' := [a, a0] ++ []) o1 (List.mem_cons_of_mem _ List.mem_cons_self) (by rw [hS]; exact st.sb) (fun x hx => by simpa using hx) (by simpa using o1.nodupFx)
    have st2 : StA G.K w2.S w2.H a a0 v1 (b' :: bl) cs k := by
      rw [hS2, hH2, hS, hH]
      exact ⟨st.sa, st.sb, by rw [upd_ne (Ne.symm ne)]; exact st.ha, upd_same, st.rc⟩
    obtain ⟨w3, l3, hS3, hH3, o3⟩ := OkE.putBack (fr := []) o2 h1 (st_mk st2) hil
    have z := q.nx w3 σ _ p (((l0.trans l1).trans l2).trans l3) o3
    rw [hH3, hH2, hH] at z
    exact z
end
end DL

namespace DC
open PySem L2 PySem.Spec PyProof.Rows
variable {X : Cx}
/-! ### xs[::-1] -/
def tRev (K : PySem.W.Frag) (te : TE) (tl th tk : TO) : TE := fun σ H Q => te σ H fun x H1 => tl σ H1 fun l H2 => th σ H2 fun u H3 => tk σ H3 fun k H4 => l = none ∧ u = none ∧ k = some (-1) ∧ ∃ a xs, x = .ref a ∧ SqL K H4 a xs ∧ ∀ p, H4 p = none → Q (.ref p) (upd H4 p (.lst xs.reverse))
theorem vals_rev : ∀ {vs : List V} {us : List Value}, Vals vs us → Vals vs.reverse us.reverse
  | _, _, .nil => .nil
  | _ :: _, _ :: _, .cons r t => by
    simp only [List.reverse_cons]
    exact (vals_rev t).append (.cons r .nil)
theorem pe_rev {e : Expr} {lo hi : Option Expr} {st : Expr} {te : TE} {tl th tk : TO} {p2 pos : Pos} (he : PE X e te) (hl : PO X lo tl) (hu : PO X hi th) (hk : PO X (some st) tk) : PE X (.Subscript e (.Slice lo hi (some st) p2) pos) (tRev X.K te tl th tk) := by
  refine ⟨fun pins s0 σ H Q J0 wish => ?_⟩
  refine Subscript_ (thn (he.run pins s0 σ H _ J0 wish) fun v s1 ⟨x, H1, J1, r1, q1⟩ => ?_)
  refine wpAny_Slice (thn (hl.run pins s1 σ H1 _ J1 q1) fun vl s2 ⟨l, H2, J2, pl, q2⟩ => thn (hu.run pins s2 σ H2 _ J2 q2) fun vu s3 ⟨u, H3, J3, pu, q3⟩ => thn (hk.run pins s3 σ H3 _ J3 q3) fun vk s4 ⟨k, H4, J4, pk, q4⟩ => ?_)
  obtain ⟨rfl, rfl, rfl, a, xs, rfl, hx, q⟩ := q4
  cases r1
  have J5 : Inv X pins σ H4 { s4 with heap := s4.heap.push { cls := .type "slice", data := .fields #[vl, vu, vk] } } := J4.kept (t' := s4.toks) fun b ob q => Heap.get?_push_of_some _ q
  obtain ⟨its, rv, ht, hz⟩ := J5.list hx
  have hlen := rv.length
  show wpAny (model X.prog X.w) X.A (subscriptTail e (.Slice lo hi (some st) p2) (.ref a) (.ref s4.heap.objs.size)) (EP X pins σ Q) X.xe { s4 with heap := s4.heap.push { cls := .type "slice", data := .fields #[vl, vu, vk] } }
  refine tail_any (ops := [.ref a, .ref s4.heap.objs.size]) ht.isList.typeIs slot_list_getitem.lookup ?_ (by with_unfolding_all rfl)
  refine wpAny_getItem_list_slice ht.isList (Heap.IsSliceOf.new ..) pl pu pk (by decide) ?_ (by rw [List.size_toArray] <;> omega)
  rw [PySem.W.krv_pick]
  refine ⟨.ref _, _, J5.laid (t' := s4.toks) (o := .lst xs.reverse) (fun _ _ kept => Heap.get?_push_of_some _ kept) (Nat.le_refl _) ?_, rfl, q _ (J5.hok.fresh (Nat.le_refl _))⟩
  exact ⟨by rw [List.length_reverse]; exact hz, _, 0, vals_rev rv, Heap.get?_push_size _ rfl⟩
end DC

namespace DC
open PySem L2 PySem.Spec PyProof.Rows
/-! ### == and != by a class's own __eq__ -/
/-- what is asked of the class at C whose __eq__ stands at f -/
structure EqC (K : PySem.W.Frag) (C f : Addr) : Prop where
  eq : PySem.W.findIn K (.ref C) "__eq__" = some (some (.ref f))
  ne : PySem.W.findIn K (.ref C) "__ne__" = some (some (.builtin "object.__ne__"))
  ob : PySem.W.mroIn K C (.type "object") = some true
  own : PySem.W.notFirst K C (.ref C) = true
  tup : PySem.W.notFirst K C (.type "tuple") = true
  isf : PySem.W.isFn K (.ref f) = true
  cls : Cls K C
  kl : PySem.W.findIn K (.ref C) "__class__" = some (some (.builtin "object.__class__"))
  sp : PySem.W.specialIn K (.builtin "object.__class__") "__get__" = some (some (.builtin "getset_descriptor.__get__"))
  tk : PySem.W.takesIn K (.builtin "object.__class__") = some true
  iO : PySem.W.kitOne K (.ref C) (.ref C) = some true
  iT : PySem.W.kitOne K (.type "tuple") (.ref C) = some false
/-- what may stand on the right: an own one, or a tuple -/
def YK (K : PySem.W.Frag) (C : Addr) (H : Hp) (y : V) : Prop := ∃ a, y = .ref a ∧ ((∃ dx fs, H a = some (.ins C dx fs)) ∨ ∃ xs, SqT K H a xs)
def rOwnC (neg : Bool) (K : PySem.W.Frag) (C : Addr) (sp : Sp) : R2 := fun x y H Q => ∃ a dx fs, x = .ref a ∧ H a = some (.ins C dx fs) ∧ YK K C H y ∧ sp [x, y] H (fun v H' => ∃ b, v = .bl b ∧ Q (.bl (if neg then !b else b)) H') fun _ _ _ => False
section
variable {X : Cx} {lv : Nat} {f C : Addr} {fd : FuncData} {names : List Str} {sp : Sp}
theorem own_call {A : Around} {pins : List (Addr × Obj)} {σ : L2.St} {H : Hp} {s : Shared} {Q : Bool → Hp → Prop} {x y : V} {u v : Value} (F : FnG X.prog X.w X.K X.mg X.base (L2.CX X.prog X.w) lv f fd names sp) (hfr : A.frames = X.A.frames) (gd : A.guards = some []) (room : Room lv A) (bnd : L2.Binds X.K fd names [])
    (I : Inv X pins σ H s) (rx : RelV x u) (ry : RelV y v) (wish : sp [x, y] H (fun v H' => ∃ b, v = .bl b ∧ Q b H') fun _ _ _ => False) :
    wpAny (model X.prog X.w) A (call (.ref f) [u, v]) (fun r s' => ∃ b, r = .bool b ∧ ∃ H', Inv X pins σ H' s' ∧ Q b H') X.xe s := by
  have at0 : Env0 X.prog X.w X.K X.mg X.base A X.stack s H := by
    have e := I.env0
    exact ⟨by rw [hfr]; exact e.frames, e.mod, e.bs, e.bsz, e.funs, e.frf, e.hok, e.bare⟩
  have hl := F.ln _ _ _ _ wish
  have r2 : Vals [x, y] [u, v] := .cons rx (.cons ry .nil)
  refine wpAny_call (codeAny_mono (F.go A X.stack s H ⟨[u, v], []⟩ [u, v] [x, y] _ _ gd room at0 (by
    have := bnd s [u, v] I.kIn (by simpa using hl)
    simpa using this) r2 wish) fun r s' hq => ?_)
  cases r with
  | error e => exact passL pins σ H s e s' I hq
  | ok fl =>
    cases fl with
    | ret w =>
      obtain ⟨z, H', I', rz, b, ez, q⟩ := I.after hq
      subst ez
      cases rz
      exact ⟨b, rfl, H', I', q⟩
    | next => exact False.elim hq
    | brk => exact False.elim hq
    | cont => exact False.elim hq
theorem yk_type {C : Addr} {pins : List (Addr × Obj)} {σ : L2.St} {H : Hp} {s : Shared} {y : V} {v : Value} (I : Inv X pins σ H s) (c : EqC X.K C f) (h : YK X.K C H y) (ry : RelV y v) : ∃ tb, PySem.W.Looks (model X.prog X.w) s.heap (typeOf v) tb ∧ PySem.W.notFirst X.K C tb = true := by
  obtain ⟨a, rfl, h⟩ := h
  cases (show v = Value.ref a from ry)
  rcases h with ⟨dx, fs, h⟩ | ⟨xs, h⟩
  · obtain ⟨_, J, _⟩ := ins_get I.hok h
    obtain ⟨od, J, _⟩ := J.look
    exact ⟨_, J.type, c.own⟩
  · obtain ⟨its, r, ht, z⟩ := I.tuple h
    exact ⟨.type "tuple", by
      obtain ⟨o, ho, hc, _⟩ := id ht
      intro A Q E s2 k q
      refine wpAny_typeOf_ref (k _ _ ho) ?_
      rw [hc]
      exact q, c.tup⟩
theorem op_ownEq (c : EqC X.K C f) (F : FnG X.prog X.w X.K X.mg X.base (L2.CX X.prog X.w) lv f fd names sp) (gd : X.A.guards = some []) (room : Room lv X.A) (bnd : L2.Binds X.K fd names []) : OpR X (compareOp .Eq) (rOwnC false X.K C sp) := by
  intro pins s σ H x y v u Q I rx ry ask
  obtain ⟨a, dx, fs, rfl, ha, hy, wish⟩ := ask
  have ev : v = Value.ref a := rx
  subst ev
  obtain ⟨_, J, _⟩ := ins_get I.hok ha
  obtain ⟨od, J, _⟩ := J.look
  obtain ⟨tb, ht, nf⟩ := yk_type I c hy ry
  obtain ⟨m, hF⟩ := I.fr
  show wpAny (model X.prog X.w) X.A (richCompare .Eq (.ref a) u) (EP X pins σ Q) X.xe s
  refine PySem.W.cmp_K (op := .Eq) room.units0 hF I.ok.mod.kin J ht nf c.eq c.isf (wpAny_mono (own_call (Q := fun b H' => Q (.bl b) H') F rfl gd room bnd I (show L2.RelV (.ref a) (.ref a) from rfl) ry wish) (fun r s' z => ?_) fun _ _ e => e)
  obtain ⟨b, rfl, H', I', q⟩ := z
  exact ⟨.bl b, H', I', rfl, q⟩
/-- object.__ne__ may be called with an own instance -/
theorem check_ne {K : PySem.W.Frag} {M : Model} {A : Around} {E : Value → Shared → Prop} {s : Shared} {x : Addr} {ox : Obj} {od : Option Obj} {b : Value} {Q : Unit → Shared → Prop} (kin : K.In s.heap) (I : PySem.W.InstAt s.heap x ox C od) (ob : PySem.W.mroIn K C (.type "object") = some true) (q : Q () s) :
    wpAny M A (checkBuiltinCall "object.__ne__" ⟨[.ref x, b], []⟩) Q E s := by
  simp only [checkBuiltinCall, PySem.F.cmpKind_ne, PySem.F.cmpSplit_ne]
  refine wpAny_bind ?_
  · unfold isInstance
    refine wpAny_bind (I.type.here ((PySem.W.looks_mroIn kin ob).here ?_))
    have ha := PySem.F.cmpArgs_ne (.ref x) b
    rw [if_neg (show ¬ (!true) = true by decide)]
    cases hsig : Manifest.signature? "object.__ne__" with
    | none => exact wpAny_pure q
    | some sig =>
      simp only [hsig, argsOk] at ha
      have h2 : Bind.checkArgs "object.__ne__" sig ⟨[.ref x, b], []⟩ = pure () := ha
      show wpAny M A (Bind.checkArgs "object.__ne__" sig ⟨[.ref x, b], []⟩) Q E _
      rw [h2]
      exact wpAny_pure q
theorem slot_ne : Slot "object" "__ne__" "object.__ne__" := PySem.F.slot_object_ne
theorem op_ownNe (c : EqC X.K C f) (F : FnG X.prog X.w X.K X.mg X.base (L2.CX X.prog X.w) lv f fd names sp) (gd : X.A.guards = some []) (room : Room (lv + 1) X.A) (bnd : L2.Binds X.K fd names []) : OpR X (compareOp .NotEq) (rOwnC true X.K C sp) := by
  intro pins s σ H x y v u Q I rx ry ask
  obtain ⟨a, dx, fs, rfl, ha, hy, wish⟩ := ask
  have ev : v = Value.ref a := rx
  subst ev
  obtain ⟨_, J, _⟩ := ins_get I.hok ha
  obtain ⟨od, J, _⟩ := J.look
  obtain ⟨tb, ht, nf⟩ := yk_type I c hy ry
  obtain ⟨m, hF⟩ := I.fr
  have kin := I.kIn
  show wpAny (model X.prog X.w) X.A (richCompare .NotEq (.ref a) u) (EP X pins σ Q) X.xe s
  have inner : wpAny (model X.prog X.w) X.A.in1 (Builtin.«object.__ne__» ⟨[.ref a, u], []⟩) (fun fin s' => ∃ w, fin = .done (.ret w) ∧ w ≠ .notImplemented ∧ EP X pins σ Q w s') X.xe s := by
    have roomI : Room lv X.A.in1 := room.in1
    have call_ : wpAny (model X.prog X.w) X.A.in1 (callSpecialIfBound? (.ref a) (Str.ofString "__eq__") [u]) (fun r s' => ∃ b, r = some (.bool b) ∧ ∃ H', L2.Inv X pins σ H' s' ∧ Q (.bl (!b)) H') X.xe s :=
      PySem.W.ifBound_K (name := "__eq__") kin J c.eq c.isf (wpAny_mono (own_call (Q := fun b H' => Q (.bl (!b)) H') F rfl gd roomI bnd I (show L2.RelV (.ref a) (.ref a) from rfl) ry wish) (fun r s' z => by
        obtain ⟨b, rfl, z⟩ := z
        exact ⟨b, rfl, z⟩) fun _ _ e => e)
    show wpAny _ _ (Builtin.«object.__ne__» _) _ _ _
    delta Builtin.«object.__ne__»
    repeat (first
      | with_reducible refine wpAny_cRoomFor roomI.units0 ?_
      | (refine wpAny_bind (m := callSpecialIfBound? (.ref a) (Str.ofString "__eq__") [u]) (wpAny_mono call_ (fun r s' hr => by
          obtain ⟨b, rfl, H', I', hq⟩ := hr
          repeat (first | exact ⟨_, rfl, (fun x => nomatch x), .bl (!b), H', I', rfl, hq⟩ | (refine wpAny_bind (m := truthy (.bool _)) (wpAny_truthy_bool ?_)) | wp_step)) fun _ _ e => e))
      | wp_step)
  have one : wpAny (model X.prog X.w) X.A (tryCompare (.ref a) (cmpInfo .NotEq).2.1 u) (fun r s' => ∃ w, r = some w ∧ EP X pins σ Q w s') X.xe s := by
    show wpAny (model X.prog X.w) X.A (tryCompare (.ref a) "__ne__" u) _ _ _
    unfold tryCompare
    refine wpAny_bind ?_
    simp only [bindSpecialIfBound?, callSpecialIfBound?]
    refine wpAny_holding (wpAny_bind (wpAny_bind (wpAny_bind (J.type.here ((PySem.W.looks_findIn kin c.ne).here ?_)))))
    refine wpAny_bind ?_
    refine wpAny_askSetting (wpAny_ite ?_)
    have fin : wpAny (model X.prog X.w) X.A (call (.builtin "object.__ne__") ([.ref a] ++ [u]) >>= fun v => pure (some v)) (fun a s' => wpAny (model X.prog X.w) X.A
              (match a with
              | some Value.notImplemented => pure none
              | none => pure none
              | some w => pure (some w))
              (fun r s' => ∃ w, r = some w ∧ EP X pins σ Q w s') X.xe s') X.xe s := by
      refine wpAny_bind (wpAny_call (codeAny_call_builtin slot_ne.plain PySem.F.cmpEntry_ne (check_ne kin J c.ob (wpAny_mono inner (fun r s' z => ?_) fun _ _ e => e))))
      obtain ⟨w, rfl, nn, q⟩ := z
      show wpAny _ _ (pure (some w)) _ _ s'
      refine wpAny_pure ?_
      cases w <;> first | exact absurd rfl nn | exact wpAny_pure ⟨_, rfl, q⟩
    split
    · refine wpAny_bind ?_
      rw [slot_ne.bind]
      exact wpAny_pure (wpAny_pure fin)
    · refine wpAny_tryCatch (wpAny_bind ?_)
      rw [slot_ne.bind]
      exact wpAny_pure (wpAny_pure fin)
  unfold richCompare
  simp only [oneThing_ref]
  refine wpAny_holding (wpAny_bind (wpAny_cRoomFor room.units0 ?_))
  refine wpAny_bind (J.type.here (wpAny_bind (ht.here ?_)))
  have last : wpAny (model X.prog X.w) X.A (tryCompare (.ref a) (cmpInfo .NotEq).2.1 u) (fun r s2 => ∃ w, r = some w ∧ EP X pins σ Q w s2) X.xe s := one
  split
  · rename_i other
    have sub0 : PySem.W.subIn X.K tb (.ref C) = some false := by
      cases Bool.or_eq_true_iff.mp nf with
      | inl same =>
        rw [beq_iff_eq.mp same] at other
        simp at other
      | inr no => exact beq_iff_eq.mp no
    refine wpAny_bind ((PySem.W.looks_subIn kin sub0).here ?_)
    simp only [if_false, Bool.false_eq_true]
    exact wpAny_bind (wpAny_mono last (fun r s2 ⟨w, er, got⟩ => er ▸ wpAny_pure got) fun _ _ err => err)
  · refine wpAny_bind ?_
    refine wpAny_pure ?_
    simp only [if_false, Bool.false_eq_true]
    exact wpAny_bind (wpAny_mono last (fun r s2 ⟨w, er, got⟩ => er ▸ wpAny_pure got) fun _ _ err => err)
end
end DC

namespace DL
open PySem L2
/-- the facts of a class with its own ==, by a Bool -/
def eqB (K : PySem.W.Frag) (x : Str) : Bool :=
  decide (PySem.W.findIn K (.ref (He.ga K x)) "__eq__" = some (some (.ref (He.ma K (He.ga K x) "__eq__")))) && (decide (PySem.W.findIn K (.ref (He.ga K x)) "__ne__" = some (some (.builtin "object.__ne__"))) &&
  (decide (PySem.W.mroIn K (He.ga K x) (.type "object") = some true) && (PySem.W.notFirst K (He.ga K x) (.ref (He.ga K x)) && (PySem.W.notFirst K (He.ga K x) (.type "tuple") && (PySem.W.isFn K (.ref (He.ma K (He.ga K x) "__eq__")) &&
  (decide (PySem.W.findIn K (.ref (He.ga K x)) "__class__" = some (some (.builtin "object.__class__"))) && (decide (PySem.W.specialIn K (.builtin "object.__class__") "__get__" = some (some (.builtin "getset_descriptor.__get__"))) &&
  (decide (PySem.W.takesIn K (.builtin "object.__class__") = some true) && (decide (PySem.W.kitOne K (.ref (He.ga K x)) (.ref (He.ga K x)) = some true) && decide (PySem.W.kitOne K (.type "tuple") (.ref (He.ga K x)) = some false))))))))))
theorem eqB_ok {K : PySem.W.Frag} {x : Str} (cl : Cls K (He.ga K x)) (h : eqB K x = true) : DC.EqC K (He.ga K x) (He.ma K (He.ga K x) "__eq__") := by
  obtain ⟨a1, h⟩ := Bool.and_eq_true_iff.mp h
  obtain ⟨a2, h⟩ := Bool.and_eq_true_iff.mp h
  obtain ⟨a3, h⟩ := Bool.and_eq_true_iff.mp h
  obtain ⟨a4, h⟩ := Bool.and_eq_true_iff.mp h
  obtain ⟨a5, h⟩ := Bool.and_eq_true_iff.mp h
  obtain ⟨a6, h⟩ := Bool.and_eq_true_iff.mp h
  obtain ⟨a7, h⟩ := Bool.and_eq_true_iff.mp h
  obtain ⟨a8, h⟩ := Bool.and_eq_true_iff.mp h
  obtain ⟨a9, h⟩ := Bool.and_eq_true_iff.mp h
  obtain ⟨b1, b2⟩ := Bool.and_eq_true_iff.mp h
  exact ⟨of_decide_eq_true a1, of_decide_eq_true a2, of_decide_eq_true a3, a4, a5, a6, cl, of_decide_eq_true a7, of_decide_eq_true a8, of_decide_eq_true a9, of_decide_eq_true b1, of_decide_eq_true b2⟩
/-- what may stand beside an own one in == -/
def Other (c : Str) (y : D) : Prop := (∃ gs, y = .obj c gs) ∨ ∃ ds, y = .tup ds
section
variable {G : Gx} {ρ : Env} {P : D → Env → Prop} {K : PySem.W.Frag} {k : D → Prop} {c : Str} {fs : List (Str × D)} {x y : D} {te tb : TE} {f : Addr} {xs : List D} {i : Nat}
theorem rd_own {neg : Bool} {C : CD} (hy : Other c y) (h : C.c [.obj c fs, y] fun o => match o with | .ret m => ∃ b, m = .sh (.bl b) ∧ k (.bl (if neg then !b else b)) | .err _ _ => False) : RD K (DC.rOwnC neg K (clsAt K c) (toSp K 2 C.con)) (.obj c fs) y k := fun w v u Q s rx ry q => by
  have rx0 := rx
  cases rx with
  | @obj a dx _ vs _ ha rf =>
    have yk : DC.YK K (clsAt K c) w.H u := by
      rcases hy with ⟨gs, rfl⟩ | ⟨ds, rfl⟩
      · cases ry with
        | @obj b dy _ us _ hb rg => exact ⟨b, rfl, .inl ⟨dy, us, s.ins hb⟩⟩
      · obtain ⟨p, us, rfl, h1, _⟩ := ry.tup_inv
        exact ⟨p, rfl, .inr ⟨us, s.st h1⟩⟩
    refine ⟨a, dx, vs, rfl, s.ins ha, yk, ⟨w.S, w.H, []⟩, [.sh (.obj c fs), .sh y], rfl, s, ownL_of (ds := [.obj c fs, y]) (.cons rx0 (.cons ry .nil)), List.nodup_nil, rfl, [.obj c fs, y], rfl, C.mono _ _ _ (fun oc hk => ?_) h⟩
    intro w' fp' l s' ow
    cases oc with
    | ret m =>
      intro z fr om hF nd
      obtain ⟨b, rfl, hk⟩ := hk
      cases om with
      | sh r =>
        obtain rfl := r.bl_inv
        exact ⟨b, rfl, q _ ⟨w'.S, w'.H, w.F⟩ _ hk ⟨l.s, fun x o hx => l.h x o hx (fun z => nomatch z), fun x hx hs => l.n x hx (fun z => nomatch z) hs, rfl⟩ s' (.bl _)⟩
    | err c' fs' => exact hk.elim
/-- isinstance(x, C), C an own class -/
theorem rc_isOwn (e : DC.EqC K (clsAt K c) f) (p : k (.bl true)) : RC K (rIsi K) [.obj c fs, .fun_ (clsAt K c)] k := fun w vs Q s r q => by
  obtain ⟨v, u, rfl, r1, r2⟩ := r.two
  cases r2
  cases r1 with
  | @obj a dx _ xs _ ha rf => exact ⟨_, _, _, _, true, rfl, .own _, .base (.ins (s.ins ha) e.cls e.kl e.sp e.tk e.ob), e.iO, q _ w _ p (LeP.refl w) s (.bl _)⟩
theorem rc_isOwnT (e : DC.EqC K (clsAt K c) f) (p : k (.bl false)) : RC K (rIsi K) [.tup xs, .fun_ (clsAt K c)] k := fun w vs Q s r q => by
  obtain ⟨v, u, rfl, r1, r2⟩ := r.two
  cases r2
  exact ⟨_, _, _, _, false, rfl, .own _, TyB.ty s (.tup xs) r1, e.iT, q _ w _ p (LeP.refl w) s (.bl _)⟩
theorem rc_sorted {ns : List Int} (hx : IsL x (ns.map .int)) (p : ∀ ns' : List Int, ns'.Perm ns → ns'.Pairwise (· ≤ ·) → k (.lst (ns'.map .int))) : RC K (rSortedI K) [x] k := fun w vs Q s r q => by
  obtain ⟨v, rfl, r1⟩ := r.one
  obtain ⟨l, vs, rfl, h1, r1⟩ := Rep.isL_inv hx r1
  obtain rfl := r1.ints
  refine ⟨l, ns, rfl, s.sl h1, fun ns' q' pm pw hq => ?_⟩
  have r3 : RepL K w.S (ns'.map V.int) (ns'.map D.int) := by
    clear pm pw
    induction ns' with
    | nil => exact .nil
    | cons n r ih => exact .cons (.int n) ih
  obtain ⟨a1, a2, a3⟩ := Wd.repNew s hq r3
  exact q _ _ _ (p ns' pm pw) a1 a2 a3
/-- xs[::-1] -/
theorem w_rev {tl th tk : TO} (h : W G te ρ fun x ρ1 => ∃ xs, IsL x xs ∧ WP G tl ρ1 fun lo ρ2 => lo = none ∧ WP G th ρ2 fun hi ρ3 => hi = none ∧ WP G tk ρ3 fun st ρ4 => st = some (-1) ∧ P (.lst xs.reverse) ρ4) : W G (DC.tRev G.K te tl th tk) ρ P := fun w σ Q o e q =>
  h w σ _ o e fun v w1 x ρ1 ⟨xs, hx, h1⟩ l1 o1 r1 => h1 w1 σ _ o1 (e.later l1) fun lo w2 ρ2 ⟨e2, h2⟩ l2 o2 => h2 w2 σ _ o2 (e.later (l1.trans l2)) fun hi w3 ρ3 ⟨e3, h3⟩ l3 o3 =>
    h3 w3 σ _ o3 (e.later ((l1.trans l2).trans l3)) fun st w4 ρ4 ⟨e4, p⟩ l4 o4 => by
      have l := ((l1.trans l2).trans l3).trans l4
      obtain ⟨a, vs, rfl, h1, r⟩ := Rep.isL_inv hx (((r1.mono l2.s).mono l3.s).mono l4.s)
      refine ⟨e2, e3, e4, a, vs, rfl, o4.sub.sl h1, fun p' hp => ?_⟩
      have rv : RepL G.K w4.S vs.reverse xs.reverse := by
        clear h1 p hx
        have go : ∀ {vs : List V} {xs : List D}, RepL G.K w4.S vs xs → RepL G.K w4.S vs.reverse xs.reverse := by
          intro vs xs r
          induction vs generalizing xs with
          | nil =>
            cases r
            exact .nil
          | cons v vs ih =>
            cases r with
            | cons r1 r2 =>
              simp only [List.reverse_cons]
              exact (ih r2).app (.cons r1 .nil)
        exact go r
      obtain ⟨a1, a2, a3⟩ := Wd.repNew o4.sub hp rv
      exact q _ _ _ ρ4 p (l.trans a1.le) (o4.grow a1 a2) a3
/-- [..] * n -/
theorem w_mulL {n : Int} (n0 : 0 ≤ n) (n1 : n ≤ 100) (h : WO G te ρ fun m ρ1 => ∃ ds : List D, m = .lst (ds.map .sh) ∧ ds.length ≤ 100 ∧ P (.lst (List.replicate n.toNat ds).flatten) ρ1) : W G (tOp gMul te (tC (.int n))) ρ P := fun w σ Q o e q =>
  h w σ _ o e fun v w1 m ρ1 fp ⟨ds, em, hl, p⟩ l1 o1 r1 => by
    subst em
    obtain ⟨w2, l2, hH, o2, r2⟩ := o1.freeze r1 frz_lst
    cases r1 with
    | @lst a vs _ fp1 hS hHa ol =>
      have lv : vs.length = ds.length := by rw [ol.len, List.length_map]
      refine .inr ⟨a, n, vs, rfl, rfl, hHa, by omega, by omega, ?_, fun p' hp => ?_⟩
      · rw [lv]
        refine sz_of (Nat.le_trans (Nat.mul_le_mul hl (show n.toNat ≤ 100 by omega)) (by decide))
      · rw [← hH] at hp ⊢
        cases r2 with
        | @lst _ us _ h1 r3 =>
        have eus : us = vs := by
          rw [← hH] at hHa
          rcases h1 with z | ⟨ob, z⟩
          · rcases o2.sub _ _ z with z | ⟨d, _⟩
            · rw [hHa] at z
              cases z
              rfl
            · rcases d with ⟨_, d⟩ | ⟨_, d⟩ <;> cases d
          · rcases o2.sub _ _ z with z | ⟨d, _⟩
            · rw [hHa] at z
              cases z
            · rcases d with ⟨_, d⟩ | ⟨_, d⟩ <;> cases d
        subst eus
        have rr : ∀ j : Nat, RepL G.K w2.S (List.replicate j us).flatten (List.replicate j ds).flatten := by
          intro j
          induction j with
          | zero => exact .nil
          | succ j ih =>
            simp only [List.replicate_succ, List.flatten_cons]
            exact r3.app ih
        obtain ⟨a1, a2, a3⟩ := Wd.repNew o2.sub hp (rr n.toNat)
        exact q _ _ _ ρ1 p ((l1.trans l2).trans a1.le) (o2.grow a1 a2) a3
/-- xs != e, xs a name's own list of data -/
theorem w_neO {ds : List D} {p : PyData} (hp : (D.lst ds).py = some p) (sp : SeqAt.shaped p = true) (hi : ρ[i]? = some (some (.lst (ds.map .sh)))) (h : W G tb ρ fun y ρ1 => ρ1 = ρ ∧ ∃ q, y.py = some q ∧ SeqAt.shaped q = true ∧ P (.bl (!PyData.eqv p q)) ρ1) : W G (tOp (rNeD G.K) (tVar i) tb) ρ P := fun w σ Q o e q => by
  obtain ⟨v, fp, w0, hv, _, _, _, _, _⟩ := o.takeM hi
  refine ⟨v, hv, h w σ _ o e fun u w1 y ρ1 ⟨e1, pq, hy, sq, p⟩ l1 o1 r1 => ?_⟩
  subst e1
  obtain ⟨v', fp1, w2, hv', l2, eS, eH, o2, r2⟩ := o1.takeM hi
  obtain rfl : v' = v := by
    rw [hv] at hv'
    exact (Option.some.inj (Option.some.inj hv')).symm
  obtain ⟨w3, l3, eH3, o3, r3⟩ := o2.freeze (by rw [eS, eH]; exact r2) frz_lst
  have dp := r3.dp o3.sub hp
  rw [eH3, eH] at dp
  exact ⟨_, pq, dp, r1.dp o1.sub hy, sp, sq, q _ w1 _ _ p l1 o1 (.bl _)⟩
end
end DL

namespace DL
open PySem L2
section
variable {G : Gx} {ρ : Env}
theorem wo_ifE {t : TT} {PO : M → Env → Prop} {ta tb : TE} (h : WT G t ρ fun b ρ1 => if b = true then WO G ta ρ1 PO else WO G tb ρ1 PO) : WO G (tIf t ta tb) ρ PO := fun w σ Q o e q =>
  h w σ _ o e fun b w1 ρ1 p l1 o1 => by
    cases b with
    | true => exact p w1 σ Q o1 (e.later l1) fun v w2 m ρ2 fp p2 l2 => q v w2 m ρ2 fp p2 (l1.trans l2)
    | false => exact p w1 σ Q o1 (e.later l1) fun v w2 m ρ2 fp p2 l2 => q v w2 m ρ2 fp p2 (l1.trans l2)
theorem py_ints : ∀ L : List Int, (D.lst (L.map .int)).py = some (.list (L.map .int)) := fun L => by
  have e : ∀ L : List Int, D.pys (L.map .int) = some (L.map .int) := fun L => by
    induction L with
    | nil => rfl
    | cons i r ih =>
      show (match D.py (.int i) with | some p => (D.pys (r.map .int)).map (p :: ·) | none => none) = _
      rw [ih]
      rfl
  show (D.pys (L.map .int)).map PyData.list = _
  rw [e]
  rfl
end
end DL

namespace DC
open PySem L2 PySem.Spec PyProof.Rows
/-! ### str(x), x of a class with its own __str__ -/
structure StrC (K : PySem.W.Frag) (C f : Addr) : Prop where
  str : PySem.W.findIn K (.ref C) "__str__" = some (some (.ref f))
  isf : PySem.W.isFn K (.ref f) = true
def rStrC (K : PySem.W.Frag) (C : Addr) (sp : Sp) : List V → Hp → VK → Prop := fun xs H Q => ∃ a dx fs, xs = [.ref a] ∧ H a = some (.ins C dx fs) ∧ sp [.ref a] H (fun v H' => ∃ x, v = .str x ∧ Q (.str x) H') fun _ _ _ => False
section
variable {X : Cx} {lv : Nat} {f C : Addr} {fd : FuncData} {names : List Str} {sp : Sp}
theorem own_call1 {A : Around} {pins : List (Addr × Obj)} {σ : L2.St} {H : Hp} {s : Shared} {Q : VK} {x : V} {u : Value} (F : FnG X.prog X.w X.K X.mg X.base (L2.CX X.prog X.w) lv f fd names sp) (hfr : A.frames = X.A.frames) (gd : A.guards = some []) (room : Room lv A) (bnd : L2.Binds X.K fd names [])
    (I : Inv X pins σ H s) (rx : RelV x u) (wish : sp [x] H (fun v H' => ∃ y, v = .str y ∧ Q (.str y) H') fun _ _ _ => False) :
    wpAny (model X.prog X.w) A (call (.ref f) [u]) (PySem.W.StrBack fun r s' => EP X pins σ Q r s') X.xe s := by
  have at0 : Env0 X.prog X.w X.K X.mg X.base A X.stack s H := by
    have e := I.env0
    exact ⟨by rw [hfr]; exact e.frames, e.mod, e.bs, e.bsz, e.funs, e.frf, e.hok, e.bare⟩
  have cnt := F.ln _ _ _ _ wish
  have r2 : Vals [x] [u] := .cons rx .nil
  refine wpAny_call (codeAny_mono (F.go A X.stack s H ⟨[u], []⟩ [u] [x] _ _ gd room at0 (by
    have := bnd s [u] I.kIn (by simpa using cnt)
    simpa using this) r2 wish) fun r s' hq => ?_)
  cases r with
  | error e => exact passL pins σ H s e s' I hq
  | ok fl =>
    cases fl with
    | ret w =>
      obtain ⟨z, H', I', rz, y, ez, q⟩ := I.after hq
      subst ez
      obtain ⟨t, rfl⟩ := rz
      exact ⟨.str y, H', I', ⟨t, rfl⟩, q⟩
    | next => exact False.elim hq
    | brk => exact False.elim hq
    | cont => exact False.elim hq
theorem call_strOwn (c : StrC X.K C f) (F : FnG X.prog X.w X.K X.mg X.base (L2.CX X.prog X.w) lv f fd names sp) (gd : X.A.guards = some []) (room : Room (lv + 2) X.A) (bnd : L2.Binds X.K fd names []) : CallR X (.type "str") (rStrC X.K C sp) := by
  intro pins s σ H xs us Q I rel ⟨a, dx, fs, ex, ha, wish⟩
  subst ex
  obtain ⟨u, rfl, ru⟩ := vals1 rel
  have eu : u = Value.ref a := ru
  subst eu
  obtain ⟨_, J, _⟩ := ins_get I.hok ha
  obtain ⟨od, J, _⟩ := J.look
  have rI : Room lv X.A.in1.in1 := room.in1.in1
  exact PySem.W.kso_call rI.units0 I.kIn J c.str c.isf (own_call1 F rfl gd rI bnd I (show L2.RelV (.ref a) (.ref a) from rfl) wish)
end

/-! ### a classmethod, read off its class; a class in a local name -/
section
variable {X : Cx} {CX : CXT} {lv : Nat} {f C p g : Addr} {fd : FuncData} {names : List Str} {sp : Sp} {dvs : List V} {dus : List Value} {E : L2.St → XK} {x m : Str} {np pos apos : Pos} {e o : Expr} {es : List Expr} {ta tf : TE} {t : TA}
/-- it is this class -/
def tIsC (C : Addr) (ta : TE) : TE := fun σ H Q => ta σ H fun x H1 => x = .ref C ∧ Q x H1
theorem pe_cmethG {mc : Value} {pl : Sem Bool} (he : PE X o ta) (r : ClX.CRead X.K C mc) (c : ClX.CMet X.K C mc m p f) (F : FnG X.prog X.w X.K X.mg X.base CX lv f fd names sp) (gd : X.A.guards = some []) (room : Room lv X.A) (bnd : Binds X.K fd names dus) (dv : Vals dvs dus) (esc : ∀ σ, PassesAt CX X σ (E σ)) (args : PA X (e :: es) t)
    (st : starEach (e :: es) X.env = (false, eval e X.env) :: starEach es X.env := by rfl) (pln : (backTo pos (starEach es X.env)).any (·.1) = false := by rfl)
    (ev : eval (.Call (.Attribute o m apos) (e :: es) [] pos) X.env = (do
      let self ← eval o X.env
      standAt apos.atName
      let (g, fst) ← holding [self] (getMethod self m pl)
      callWith pos g fst (backTo pos (starEach (e :: es) X.env)) (backToKw pos (keywordEach [] X.env))) := by rfl) :
    PE X (.Call (.Attribute o m apos) (e :: es) [] pos) (tCallSD sp dvs E (tCons (tIsC C ta) t)) := by
  refine ⟨fun pins s σ H Q J wish => ?_⟩
  refine PySem.W.methodCall_KW (pl := pl) (thn (he.run pins s σ H _ J wish) fun u s1 ⟨x, H1, J1, rx, ex, q⟩ => ?_) ev
  subst ex
  cases (show u = Value.ref C from rx)
  refine ClX.getmethcm_ok J1 r c fun s2 J2 => ?_
  refine ClX.callwith_cm J2 (ClX.base_none J1 (Nat.le_refl _)) c.fi (thn (args.run pos _ s2 σ H1 _ J2 q) fun us s3 ⟨vs, H2, J3, rv, q2⟩ => ⟨⟨ClX.pin_at J3, J3.kIn⟩, ?_⟩) st pln
  have rel2 : Vals (V.ref C :: (vs ++ dvs)) (Value.ref C :: (us ++ dus)) := .cons rfl (rv.append dv)
  have cnt : (Value.ref C :: (us ++ dus)).length = names.length := rel2.length.symm.trans (F.ln _ _ _ _ q2)
  have z : wpAny (model X.prog X.w) X.A (call (.ref s1.heap.objs.size) us) (EP X ((s1.heap.objs.size, PySem.W.methodObj (.ref f) (.ref C)) :: pins) σ Q) X.xe s3 :=
    wpAny_call (PySem.W.method_call (ClX.pin_at J3) (codeAny_mono (goesTo F gd room (bnd s3 (Value.ref C :: us) J3.kIn cnt) (fun e s' c => esc σ _ H2 s3 e s' J3 c) J3 rel2 q2) fun out s' got => by
      match out, got with
      | .error e, got => exact got
      | .ok (.ret u), got => exact got
      | .ok .next, got => exact got.elim
      | .ok .brk, got => exact got.elim
      | .ok .cont, got => exact got.elim))
  exact thn z fun _ _ y => ClX.unpinE y
/-- c(..), c a name that holds this class -/
def tMakeN (C : Addr) (sp : Sp) (dvs : List V) (E : L2.St → XK) (tf : TE) (t : TA) : TE := fun σ H Q => tf σ H fun x H1 => x = .ref C ∧ tMakeS C sp dvs E t σ H1 Q
theorem pe_makeN (mk : Mk X.K C f) (F : FnG X.prog X.w X.K X.mg X.base CX lv f fd names sp) (gd : X.A.guards = some []) (room : Room (lv + 1) X.A) (hf : PE X (.Name x np) tf) (bnd : Binds X.K fd names dus) (dv : Vals dvs dus) (esc : ∀ σ, PassesAt CX X σ (E σ)) (args : PA X (e :: es) t)
    (st : starEach (e :: es) X.env = (false, eval e X.env) :: starEach es X.env := by rfl) (pln : (backTo pos (starEach es X.env)).any (·.1) = false := by rfl) :
    PE X (.Call (.Name x np) (e :: es) [] pos) (tMakeN C sp dvs E tf t) := by
  refine ⟨fun pins s σ H Q J wish => ?_⟩
  refine wpAny_Call_Name_kw (thn (hf.run pins s σ H _ J wish) fun u s0 ⟨x, H0, J0, rx, ex, q0⟩ => ?_)
  subst ex
  cases (show u = Value.ref C from rx)
  refine PySem.W.callWith_K (h₀ := X.base) J0.ok.mod.kin mk.kp (thn (args.run pos pins s0 σ H0 _ J0 q0) fun us s1 ⟨xs, H1, J1, rel, q⟩ => ⟨J1.kIn, ?_⟩) st pln
  have q2 := q (s1.heap.objs.size + 1) s1.heap.objs.size (J1.hok.fresh (Nat.le_succ _)) (J1.hok.fresh (Nat.le_refl _)) (Nat.ne_of_lt (Nat.lt_succ_self _))
  have J2 := Inv.made (C := C) J1
  have rel2 : Vals (V.ref (s1.heap.objs.size + 1) :: (xs ++ dvs)) (Value.ref (s1.heap.objs.size + 1) :: (us ++ dus)) := .cons rfl (rel.append dv)
  have cnt : (Value.ref (s1.heap.objs.size + 1) :: us ++ dus).length = names.length := rel2.length.symm.trans (F.ln _ _ _ _ q2)
  refine wpAny_call (make_map (f := f) J1.kIn mk.makes mk.init (beq_iff_eq.mp mk.fn) (codeAny_mono (F.go _ X.stack _ _ ⟨Value.ref (s1.heap.objs.size + 1) :: us, []⟩ (Value.ref (s1.heap.objs.size + 1) :: (us ++ dus)) _ _ (E σ) (guards_make gd) (room.make C us [])
    (J2.env0.make C us []) (bnd _ (Value.ref (s1.heap.objs.size + 1) :: us) J2.kIn cnt) rel2 q2) fun out s' got => ?_))
  match out, got with
  | .error er, got => exact esc σ pins _ _ er s' J2 got
  | .ok (.ret u), got =>
    obtain ⟨v, H', J3, rv, ev, q3⟩ := J2.after got
    subst ev
    exact ⟨rv, ⟨V.ref (s1.heap.objs.size + 1), H', J3, rfl, q3⟩⟩
  | .ok .next, got => exact got.elim
  | .ok .brk, got => exact got.elim
  | .ok .cont, got => exact got.elim
/-- e.f as a target -/
def gFld (K : PySem.W.Frag) (ta : TE) (f : Str) : TG := fun y σ H Q => ta σ H fun x H1 => ∃ a C dx fs, x = .ref a ∧ H1 a = some (.ins C dx fs) ∧ Cls K C ∧ NoAttr K C f ∧ fs.length < 1000 ∧ Q σ (upd H1 a (.ins C dx (putF f y fs)))
theorem pg_fld {fl : Str} (ha : PE X o ta) : PG X (.Attribute o fl pos) (gFld X.K ta fl) := by
  refine ⟨fun pins s σ H v u Q J r wish => ?_⟩
  rw [assign_Attribute]
  refine wpAny_bind (wpAny_holding (thn (ha.run pins s σ H _ J wish) fun ov s2 ⟨x, H2, J2, rx, a, C, dx, fs, ex, ea, c, n, l, q2⟩ => ?_))
  subst ex
  cases (show ov = Value.ref a from rx)
  refine wpAny_bind (wpAny_standAt (wpAny_bind (wpAny_holding (setattr_ok J2 ea c n l r fun s3 J3 => ?_))))
  exact wpAny_release ⟨σ, _, J3, q2⟩
end
end DC

namespace DL
open PySem L2
section
variable {G : Gx} {ρ : Env} {P : D → Env → Prop} {PO : M → Env → Prop} {K : PySem.W.Frag} {k : D → Prop} {c : Str} {fs : List (Str × D)} {te ta tb tf : TE} {t : TA} {CA : Addr} {xs : List D} {i n : Nat} {dvs : List V} {dds : List D} {PS_ : Post}
theorem w_isC (h : W G ta ρ fun d ρ1 => d = .fun_ CA ∧ P d ρ1) : W G (DC.tIsC CA ta) ρ P := fun w σ Q o e q =>
  h w σ _ o e fun v w1 d ρ1 ⟨ed, p⟩ l1 o1 r1 => by
    subst ed
    have r0 := r1
    cases r1
    exact ⟨rfl, q _ w1 _ ρ1 p l1 o1 r0⟩
theorem wo_mkN {C : CO} {c : Str} (hd : ∀ S, RepL G.K S dvs dds) (h : W G tf ρ fun d ρ0 => d = .fun_ CA ∧ WA G t ρ0 fun ds ρ1 => CA = clsAt G.K c ∧ (ds ++ dds).length + 1 = n ∧ C.c (.obj c []) (ds ++ dds) fun o m' => match o with | .ret a => a = .sh .non ∧ PO m' ρ1 | .err c fs => G.er c fs ρ1) :
    WO G (DC.tMakeN CA (toSp G.K n C.con) dvs (fun σ cls d H => G.Wx cls d σ H) tf t) ρ PO := fun w σ Q o e q =>
  h w σ _ o e fun v w1 d ρ1 ⟨ed, p⟩ l1 o1 r1 => by
    subst ed
    cases r1
    exact ⟨rfl, wo_mk (C := C) hd p w1 σ Q o1 (e.later l1) fun v w2 m ρ2 fp p2 l2 => q v w2 m ρ2 fp p2 (l1.trans l2)⟩
/-! ### f-strings -/
theorem w_fmt (h : W G te ρ fun x ρ1 => (∃ y : Str, x = .str y ∧ y.length ≤ 100000 ∧ P (.str y) ρ1) ∨ ∃ i : Int, x = .int i ∧ i.natAbs.log2 < 1920 ∧ P (.str (Str.ofString (toString i))) ρ1) : W G (tFmt te) ρ P := fun w σ Q o e q =>
  h w σ _ o e fun v w1 d ρ1 hh l1 o1 r1 => by
    rcases hh with ⟨y, rfl, hz, p⟩ | ⟨j, rfl, hz, p⟩
    · obtain rfl := r1.str_inv
      exact .inl ⟨y, rfl, sz_of hz, q _ w1 _ ρ1 p l1 o1 (.str _)⟩
    · obtain rfl := r1.int_inv
      exact .inr ⟨j, rfl, hz, q _ w1 _ ρ1 p l1 o1 (.str _)⟩
def WJ (G : Gx) : List TE → Str → Env → (Str → Env → Prop) → Prop
  | [], acc, ρ, P => P acc ρ
  | t :: ts, acc, ρ, P => W G t ρ fun x ρ1 => ∃ y : Str, x = .str y ∧ (acc ++ y).length ≤ 100000 ∧ WJ G ts (acc ++ y) ρ1 P
theorem WJ.run {ts : List TE} {σ : St} {Q : Str → Hp → Prop} {PJ : Str → Env → Prop} : ∀ {acc : Str} {ρ : Env} {w : Wd}, WJ G ts acc ρ PJ → Ok G w σ ρ → Esc G w → (∀ y w' ρ', PJ y ρ' → Le w w' → Ok G w' σ ρ' → Q y w'.H) → tJs ts acc σ w.H Q := by
  induction ts with
  | nil => exact fun h o e q => q _ _ _ h (Le.refl _) o
  | cons t ts ih =>
    intro acc ρ w h o e q
    refine h w σ _ o e fun v w1 d ρ1 hh l1 o1 r1 => ?_
    obtain ⟨y, ed, hz, p⟩ := hh
    subst ed
    obtain rfl := r1.str_inv
    exact ⟨y, rfl, sz_of hz, ih p o1 (e.later l1) fun z w2 ρ2 p2 l2 => q z w2 ρ2 p2 (l1.trans l2)⟩
theorem w_joined {ts : List TE} (h : WJ G ts Str.empty ρ fun y ρ1 => P (.str y) ρ1) : W G (fun σ H Q => tJs ts Str.empty σ H fun out H1 => Q (.str out) H1) ρ P := fun w σ Q o e q =>
  WJ.run (Q := fun out H1 => Q (.str out) H1) h o e fun y w1 ρ1 p l1 o1 => q _ w1 _ ρ1 p l1 o1 (.str _)
/-! ### str(x), int(s) -/
theorem rc_strOwn {C : CD} (h : C.c [.obj c fs] fun o => match o with | .ret m => ∃ x, m = .sh (.str x) ∧ k (.str x) | .err _ _ => False) : RC K (DC.rStrC K (clsAt K c) (toSp K 1 C.con)) [.obj c fs] k := fun w vs Q s r q => by
  obtain ⟨v, rfl, r1⟩ := r.one
  have rx0 := r1
  cases r1 with
  | @obj a dx _ ys _ ha rf =>
    refine ⟨a, dx, ys, rfl, s.ins ha, ⟨w.S, w.H, []⟩, [.sh (.obj c fs)], rfl, s, ownL_of (ds := [.obj c fs]) (.cons rx0 .nil), List.nodup_nil, rfl, [.obj c fs], rfl, C.mono _ _ _ (fun oc hk => ?_) h⟩
    intro w' fp' l s' ow
    cases oc with
    | ret m =>
      intro z fr om hF nd
      obtain ⟨b, rfl, hk⟩ := hk
      cases om with
      | sh r =>
        obtain rfl := r.str_inv
        exact ⟨b, rfl, q _ ⟨w'.S, w'.H, w.F⟩ _ hk ⟨l.s, fun x o hx => l.h x o hx (fun z => nomatch z), fun x hx hs => l.n x hx (fun z => nomatch z) hs, rfl⟩ s' (.str _)⟩
    | err c' fs' => exact hk.elim
theorem rc_intS {a : Str} {j : Int} (h : PySem.intText? a = some j) (hl : a.length ≤ 640) (p : k (.int j)) : RC K (fun xs H Q => ∃ a n, xs = [.str a] ∧ PySem.intText? a = some n ∧ a.length ≤ 640 ∧ Q (.int n) H) [.str a] k := fun w vs Q s r q => by
  obtain ⟨v, rfl, r1⟩ := r.one
  obtain rfl := r1.str_inv
  exact ⟨a, j, rfl, h, hl, q _ w _ p (LeP.refl w) s (.int _)⟩
/-! ### s.split(t) -/
theorem repL_map_str {S : Hp} : ∀ ys : List Str, RepL K S (ys.map V.str) (ys.map D.str)
  | [] => .nil
  | y :: ys => .cons (.str y) (repL_map_str ys)
theorem wo_split (h : W G ta ρ fun x ρ1 => ∃ a, x = .str a ∧ a.length ≤ 99000 ∧ W G te ρ1 fun y ρ2 => ∃ b, y = .str b ∧ (b.length == 0) = false ∧ PO (.lst (((Txt.split a b).map D.str).map .sh)) ρ2) :
    WO G (tM1 (fun x xs H Q => ∃ a b, x = .str a ∧ xs = [.str b] ∧ (b.length == 0) = false ∧ a.length + 2 ≤ sizeLine ∧ rNewStrs (Txt.split a b) H Q) ta te) ρ PO := fun w σ Q o e q =>
  h w σ _ o e fun v w1 x ρ1 ⟨a, ex, hz, h1⟩ l1 o1 r1 => by
    subst ex
    obtain rfl := r1.str_inv
    refine ⟨⟨a, rfl⟩, h1 w1 σ _ o1 (e.later l1) fun u w2 y ρ2 ⟨b, ey, hb, p⟩ l2 o2 r2 => ?_⟩
    subst ey
    obtain rfl := r2.str_inv
    refine ⟨a, b, rfl, rfl, hb, sz_of (by omega), fun p' hp => ?_⟩
    exact q (.ref p') (w2.own p' (.lst _)) _ ρ2 [p'] p ((l1.trans l2).trans (Wd.le_own hp)) (o2.own hp) (.lst (o2.sub.free hp) upd_same (ownL_of (repL_map_str _)))
theorem w_split (h : W G ta ρ fun x ρ1 => ∃ a, x = .str a ∧ a.length ≤ 99000 ∧ W G te ρ1 fun y ρ2 => ∃ b, y = .str b ∧ (b.length == 0) = false ∧ P (.lst ((Txt.split a b).map D.str)) ρ2) :
    W G (tM1 (fun x xs H Q => ∃ a b, x = .str a ∧ xs = [.str b] ∧ (b.length == 0) = false ∧ a.length + 2 ≤ sizeLine ∧ rNewStrs (Txt.split a b) H Q) ta te) ρ P :=
  w_frz (wo_split (h.imp fun x ρ1 ⟨a, b, c, d⟩ => ⟨a, b, c, d.imp fun y ρ2 ⟨b, e, f, g⟩ => ⟨b, e, f, _, frz_lst, g⟩⟩))
/-! ### a name's own list of data -/
theorem OkE.ownLst {w : Wd} {σ : St} {ds : List D} (o : Ok G w σ ρ) (h : ρ[i]? = some (some (.lst (ds.map .sh)))) : ∃ a vs, σ[i]? = some (some (.ref a)) ∧ w.H a = some (.lst vs) ∧ RepL G.K w.S vs ds ∧
    ∀ vs' ds', RepL G.K w.S vs' ds' → ∃ w', Le w w' ∧ w'.S = w.S ∧ w'.H = upd w.H a (.lst vs') ∧ Ok G w' σ (ρ.set i (some (.lst (ds'.map .sh)))) := by
  obtain ⟨v, fp, w2, hv, l2, eS, eH, o2, om⟩ := o.takeM h
  have hil : i < ρ.length := (List.getElem?_eq_some_iff.mp h).1
  have ndf := o2.nodupFx
  cases om with
  | @lst a vs _ fp1 hS hH ol =>
    obtain ⟨rl, rfl⟩ := ownL_inv ol
    refine ⟨a, vs, hv, hH, rl, fun vs' ds' r' => ?_⟩
    obtain ⟨w3, l3, eS3, eH3, o3⟩ := OkE.write (a := a) (ob := .lst vs') (fp' := [a] ++ []) o2 List.mem_cons_self (by rw [eS]; exact hS) (fun x hx => by rw [List.append_nil] at hx; exact hx) (by rw [List.append_nil]; exact ndf)
    have own : OwnR G.K w3.S w3.H (.ref a) (.lst (ds'.map .sh)) [a] := by
      rw [eS3, eH3, eS, eH]
      exact .lst hS upd_same (ownL_of r')
    obtain ⟨w4, l4, eS4, eH4, o4⟩ := OkE.putBack (fr := []) o3 hv own hil
    exact ⟨w4, (l2.trans l3).trans l4, by rw [eS4, eS3, eS], by rw [eH4, eH3, eH], o4⟩
theorem RepL.set {S : Hp} {v : V} {d : D} (r : Rep K S v d) : ∀ {vs : List V} {ds : List D} (j : Nat), RepL K S vs ds → RepL K S (vs.set j v) (ds.set j d)
  | _, _, _, .nil => .nil
  | _, _, 0, .cons _ q => .cons r q
  | _, _, j + 1, .cons h q => .cons h (RepL.set r j q)
theorem RepL.erase {S : Hp} : ∀ {vs : List V} {ds : List D} (j : Nat), RepL K S vs ds → RepL K S (vs.eraseIdx j) (ds.eraseIdx j)
  | _, _, _, .nil => .nil
  | _, _, 0, .cons _ q => q
  | _, _, j + 1, .cons h q => .cons h (RepL.erase j q)
/-- xs[e], xs a name's own list of data -/
theorem w_ixO (hp : ∃ ds : List D, ρ[i]? = some (some (.lst (ds.map .sh)))) (h : W G te ρ fun y ρ1 => ∃ (ds : List D) (j : Int) (d : D), ρ1[i]? = some (some (.lst (ds.map .sh))) ∧ y = .int j ∧ atI ds j = some d ∧ P d ρ1) : W G (tOp (rIx G.K) (tVar i) te) ρ P := fun w σ Q o e q => by
  obtain ⟨ds0, h0⟩ := hp
  obtain ⟨a, _, hv, _, _, _⟩ := o.ownLst h0
  refine ⟨_, hv, h w σ _ o e fun u w1 y ρ1 ⟨ds, j, d, h1, ey, hj, p⟩ l1 o1 r1 => ?_⟩
  subst ey
  obtain rfl := r1.int_inv
  obtain ⟨a', vs, hv', hH, rl, _⟩ := o1.ownLst h1
  obtain rfl : a' = a := by
    rw [hv] at hv'
    exact (V.ref.inj (Option.some.inj (Option.some.inj hv'))).symm
  obtain ⟨z, hz, rz⟩ := rl.atI hj
  exact .inl ⟨a', vs, j, z, rfl, rfl, .inl (.inl hH), hz, q z w1 d ρ1 p l1 o1 rz⟩
/-- xs[e] = x -/
theorem ws_setO (h0 : ∃ m, ρ[i]? = some (some m)) (h : W G te ρ fun d ρ1 => (∃ ds : List D, ρ1[i]? = some (some (.lst (ds.map .sh)))) ∧ W G tb ρ1 fun y ρ2 => ∃ (ds : List D) (j : Int) (n : Nat), ρ2[i]? = some (some (.lst (ds.map .sh))) ∧ y = .int j ∧ ixN ds.length j = some n ∧ PS_.nx (ρ2.set i (some (.lst ((ds.set n d).map .sh))))) :
    WS G (tAsg te (gSub (tVar i) tb rSetL)) ρ PS_ := fun w σ D o e q =>
  h w σ _ o e fun v w1 d ρ1 ⟨⟨ds1, hd1⟩, h1⟩ l1 o1 r1 => by
    obtain ⟨a, _, hv, _, _, _⟩ := o1.ownLst hd1
    refine ⟨_, hv, h1 w1 σ _ o1 (e.later l1) fun u w2 y ρ2 ⟨ds, j, n, h2, ey, hj, p⟩ l2 o2 r2 => ?_⟩
    subst ey
    obtain rfl := r2.int_inv
    obtain ⟨a', vs, hv', hH, rl, put⟩ := o2.ownLst h2
    obtain rfl : a' = a := by
      rw [hv] at hv'
      exact (V.ref.inj (Option.some.inj (Option.some.inj hv'))).symm
    obtain ⟨w3, l3, eS, eH, o3⟩ := put _ _ (RepL.set (r1.mono l2.s) n rl)
    refine ⟨a', vs, j, n, rfl, rfl, hH, by rw [rl.len]; exact hj, ?_⟩
    have z := q.nx w3 σ _ p ((l1.trans l2).trans l3) o3
    rw [eH] at z
    exact z
theorem seqIx_of {j : Int} {n : Nat} (h0 : 0 ≤ j) (h1 : j < n) : seqIndex? j n = some j.toNat := by
  unfold seqIndex?
  simp only [h0, h1, and_self, if_true, if_false, Bool.and_self, decide_true, Int.not_lt.mpr h0]
theorem ws_popAt (h0 : ∃ ds : List D, ρ[i]? = some (some (.lst (ds.map .sh)))) (h : W G te ρ fun y ρ1 => ∃ (ds : List D) (j : Int), ρ1[i]? = some (some (.lst (ds.map .sh))) ∧ y = .int j ∧ 0 ≤ j ∧ j < ds.length ∧ ds.length ≤ 100000 ∧ PS_.nx (ρ1.set i (some (.lst ((ds.eraseIdx j.toNat).map .sh))))) :
    WS G (tDrop (tBM G.K "list" rPopAt (tVar i) (tCons te tNil))) ρ PS_ := fun w σ D o e q => by
  obtain ⟨ds0, hd0⟩ := h0
  obtain ⟨a, vs0, hv, hH0, _, _⟩ := o.ownLst hd0
  refine ⟨_, hv, .inl ⟨rfl, _, .inl (.inl hH0)⟩, ?_⟩
  refine h w σ _ o e fun u w1 y ρ1 ⟨ds, j, h1, ey, j0, j1, hz, p⟩ l1 o1 r1 => ?_
  subst ey
  obtain rfl := r1.int_inv
  obtain ⟨a', vs, hv', hH, rl, put⟩ := o1.ownLst h1
  obtain rfl : a' = a := by
    rw [hv] at hv'
    exact (V.ref.inj (Option.some.inj (Option.some.inj hv'))).symm
  obtain ⟨w3, l3, eS, eH, o3⟩ := put _ _ (RepL.erase j.toNat rl)
  have hlt : j.toNat < vs.length := by rw [rl.len]; omega
  refine ⟨a', vs, j, j.toNat, vs[j.toNat], rfl, rfl, hH, by omega, by omega, seqIx_of j0 (by rw [rl.len]; exact j1), List.getElem?_eq_getElem hlt, ?_⟩
  have z := q.nx w3 σ _ p (l1.trans l3) o3
  rw [eH] at z
  exact z
def rInsert : V → List V → Hp → VK → Prop := fun x vs H Q => ∃ (l : Addr) (xs : List V) (i : Int) (y : V), x = .ref l ∧ vs = [.int i, y] ∧ H l = some (.lst xs) ∧ xs.length < sizeLine ∧ 0 ≤ i ∧ i < 2 ^ 63 ∧
    Q .non (upd H l (.lst (xs.take i.toNat ++ [y] ++ xs.drop i.toNat)))
theorem ws_insert (h0 : ∃ ds : List D, ρ[i]? = some (some (.lst (ds.map .sh)))) (h : W G te ρ fun y ρ1 => W G tb ρ1 fun d ρ2 => ∃ (ds : List D) (j : Int), ρ2[i]? = some (some (.lst (ds.map .sh))) ∧ y = .int j ∧ 0 ≤ j ∧ j < 2 ^ 62 ∧ ds.length ≤ 90000 ∧ PS_.nx (ρ2.set i (some (.lst ((ds.take j.toNat ++ [d] ++ ds.drop j.toNat).map .sh))))) :
    WS G (tDrop (tBM G.K "list" rInsert (tVar i) (tCons te (tCons tb tNil)))) ρ PS_ := fun w σ D o e q => by
  obtain ⟨ds0, hd0⟩ := h0
  obtain ⟨a, vs0, hv, hH0, _, _⟩ := o.ownLst hd0
  refine ⟨_, hv, .inl ⟨rfl, _, .inl (.inl hH0)⟩, ?_⟩
  refine h w σ _ o e fun u w1 y ρ1 h1 l1 o1 r1 => h1 w1 σ _ o1 (e.later l1) fun u2 w2 d ρ2 ⟨ds, j, h2, ey, j0, j1, hz, p⟩ l2 o2 r2 => ?_
  subst ey
  obtain rfl := r1.int_inv
  obtain ⟨a', vs, hv', hH, rl, put⟩ := o2.ownLst h2
  obtain rfl : a' = a := by
    rw [hv] at hv'
    exact (V.ref.inj (Option.some.inj (Option.some.inj hv'))).symm
  obtain ⟨w3, l3, eS, eH, o3⟩ := put _ _ (((rl.take j.toNat).app (.cons r2 .nil)).app (rl.drop j.toNat))
  refine ⟨a', vs, j, u2, rfl, rfl, hH, by rw [rl.len]; exact Nat.lt_of_le_of_lt hz (by decide), j0, by omega, ?_⟩
  have z := q.nx w3 σ _ p ((l1.trans l2).trans l3) o3
  rw [eH] at z
  exact z
/-! ### a, b, c = e, the targets fields of a name's own instance -/
theorem OkE.putFld {w : Wd} {σ : St} {f : Str} {ms : List (Str × M)} {d : D} {v : V} (o : Ok G w σ ρ) (hi : ρ[i]? = some (some (.obj c ms))) (r : Rep G.K w.S v d) (hl : ms.length ≤ 900) : ∃ a dx ys, σ[i]? = some (some (.ref a)) ∧ w.H a = some (.ins (clsAt G.K c) dx ys) ∧ ys.length < 1000 ∧
    ∃ w', Le w w' ∧ w'.S = w.S ∧ w'.H = upd w.H a (.ins (clsAt G.K c) dx (putF f v ys)) ∧ Ok G w' σ (ρ.set i (some (.obj c (putM f (.sh d) ms)))) := by
  obtain ⟨x, fp, w2, hv, l2, eS, eH, o2, om⟩ := o.takeM hi
  have hil : i < ρ.length := (List.getElem?_eq_some_iff.mp hi).1
  have ndf := o2.nodupFx
  cases om with
  | @obj a dx _ ys _ fp1 hS hH of =>
    obtain ⟨fp2, of2, sl⟩ := of.putS (f := f) r
    have nd1 := (List.nodup_cons.mp ndf)
    obtain ⟨w3, l3, eS3, eH3, o3⟩ := OkE.write (a := a) (ob := .ins (clsAt G.K c) dx (putF f v ys)) (fp' := (a :: fp2) ++ []) o2 List.mem_cons_self (by rw [eS]; exact hS) (fun z hz => by
      rw [List.append_nil] at hz
      exact (List.mem_cons.mp hz).elim (fun y => y ▸ List.mem_cons_self) fun y => List.mem_cons_of_mem _ (sl.subset y)) (by
      rw [List.append_nil]
      exact List.nodup_cons.mpr ⟨fun z => nd1.1 (sl.subset z), nd1.2.sublist sl⟩)
    have own : OwnR G.K w3.S w3.H (.ref a) (.obj c (putM f (.sh d) ms)) (a :: fp2) := by
      rw [eS3, eH3, eS, eH]
      refine .obj hS upd_same (of2.keep (Ex.refl _) (fun z hz => (of2.at_ z hz).1) fun z hz u hu => ?_)
      rw [upd_ne (fun y : z = a => nd1.1 (by rw [← y]; exact sl.subset hz))]
      exact hu
    obtain ⟨w4, l4, eS4, eH4, o4⟩ := OkE.putBack (fr := []) o3 hv own hil
    exact ⟨a, dx, ys, hv, hH, by rw [of.len]; omega, w4, (l2.trans l3).trans l4, by rw [eS4, eS3, eS], by rw [eH4, eH3, eH], o4⟩
/-- targets that write into the heap -/
def WF (G : Gx) (g : TG) (d : D) (ρ : Env) (P : Env → Prop) : Prop := ∀ w σ v (Q : St → Hp → Prop), Ok G w σ ρ → Rep G.K w.S v d → (∀ w' ρ', P ρ' → Le w w' → Ok G w' σ ρ' → Q σ w'.H) → g v σ w.H Q
def WFs (G : Gx) (g : TGs) (ds : List D) (ρ : Env) (P : Env → Prop) : Prop := ∀ w σ vs (Q : St → Hp → Prop), Ok G w σ ρ → RepL G.K w.S vs ds → (∀ w' ρ', P ρ' → Le w w' → Ok G w' σ ρ' → Q σ w'.H) → g vs σ w.H Q
theorem wf_fld {PE_ : Env → Prop} {d : D} {f : Str} {ms : List (Str × M)} (hi : ρ[i]? = some (some (.obj c ms))) (hc : Cls G.K (clsAt G.K c)) (hn : NoAttr G.K (clsAt G.K c) f) (hl : ms.length ≤ 900) (p : PE_ (ρ.set i (some (.obj c (putM f (.sh d) ms))))) : WF G (DC.gFld G.K (tVar i) f) d ρ PE_ := fun w σ v Q o r q => by
  obtain ⟨a, dx, ys, hv, hH, hz, w', l, eS, eH, o'⟩ := o.putFld (f := f) hi r hl
  refine ⟨_, hv, a, _, dx, ys, rfl, hH, hc, hn, hz, ?_⟩
  have z := q w' _ p l o'
  rw [eH] at z
  exact z
theorem wfs_nil {PE_ : Env → Prop} (p : PE_ ρ) : WFs G gNil [] ρ PE_ := fun w σ vs Q o r q => by
  cases r
  exact ⟨rfl, q w ρ p (Le.refl w) o⟩
theorem wfs_cons {PE_ : Env → Prop} {g : TG} {gs : TGs} {d : D} {ds : List D} (h : WF G g d ρ fun ρ1 => WFs G gs ds ρ1 PE_) : WFs G (gCons g gs) (d :: ds) ρ PE_ := fun w σ vs Q o r q => by
  cases r with
  | cons r1 r2 => exact ⟨_, _, rfl, h w σ _ _ o r1 fun w1 ρ1 p l1 o1 => p w1 σ _ Q o1 (r2.mono l1.s) fun w2 ρ2 p2 l2 => q w2 ρ2 p2 (l1.trans l2)⟩
theorem wf_lst {PE_ : Env → Prop} {gs : TGs} {ds : List D} {n : Nat} (hn : ds.length = n) (h : WFs G gs ds ρ PE_) : WF G (gLst G.K n gs) (.lst ds) ρ PE_ := fun w σ v Q o r q => by
  cases r with
  | lst h1 r1 => exact ⟨_, _, rfl, o.sub.sl (.inl h1), by rw [r1.len, hn], h w σ _ Q o r1 q⟩
theorem ws_asgF {g : TG} (h : W G te ρ fun d ρ1 => WF G g d ρ1 PS_.nx) : WS G (tAsg te g) ρ PS_ := fun w σ D o e m =>
  h w σ _ o e fun v w1 d ρ1 p l1 o1 r1 => p w1 σ v _ o1 r1 fun w2 ρ2 p2 l2 o2 => m.nx w2 σ ρ2 p2 (l1.trans l2) o2
end
end DL

namespace DL
open PySem L2 PySem.Spec PyProof.Rows
/-! ### data with dicts, as the library's data -/
def keyPy : Key → PyData
  | .inl i => .int i
  | .inr x => .str x
mutual
def D.pyR : D → Option PyData
  | .non => some .none
  | .bl b => some (.bool b)
  | .int i => some (.int i)
  | .str x => some (.str x)
  | .tup ds => (D.pysR ds).map .tuple
  | .lst ds => (D.pysR ds).map .list
  | .rol ds => (D.pysR ds).map .list
  | .dic kvs => (D.pykR kvs).map .dict
  | .dit kvs => (D.pytR kvs).map .dict
  | _ => none
def D.pysR : List D → Option (List PyData)
  | [] => some []
  | d :: ds => match D.pyR d with
    | some p => (D.pysR ds).map (p :: ·)
    | none => none
def D.pykR : List (Key × D) → Option (List (PyData × PyData))
  | [] => some []
  | (k, d) :: r => match D.pyR d with
    | some p => (D.pykR r).map ((keyPy k, p) :: ·)
    | none => none
def D.pytR : List (List Key × D) → Option (List (PyData × PyData))
  | [] => some []
  | (k, d) :: r => match D.pyR d with
    | some p => (D.pytR r).map ((.tuple (k.map keyPy), p) :: ·)
    | none => none
end
/-- the table of the modules is a dict -/
def SmK (K : PySem.W.Frag) : Prop := ∃ o, K.lookup sysModules = some o ∧ o.cls = .type "dict"
def smB (K : PySem.W.Frag) : Bool := match K.lookup sysModules with
  | some ⟨.type c, _, _, _⟩ => decide (c = "dict")
  | _ => false
theorem smB_ok {K : PySem.W.Frag} (h : smB K = true) : SmK K := by
  unfold smB at h
  cases q : K.lookup sysModules with
  | none => rw [q] at h; cases h
  | some o =>
    obtain ⟨oc, od, dt, sl⟩ := o
    rw [q] at h
    cases oc with
    | type c => exact ⟨_, q, congrArg Value.type (of_decide_eq_true h)⟩
    | _ => cases h
section
variable {X : Cx} {pins : List (Addr × Obj)} {σ : L2.St} {H : Hp} {s : Shared} {S : Hp}
theorem off_sm (I : Inv X pins σ H s) (m : SmK X.K) {a : Addr} {o : Obj} {T : String} (h : s.heap.get? a = some o) (hc : o.cls = .type T) (ne : T ≠ "dict") : a ≠ sysModules := fun e => by
  obtain ⟨u, hu, cu⟩ := m
  have z := I.kIn _ _ hu
  rw [e, z] at h
  cases h
  rw [cu] at hc
  injection hc with hc
  exact ne hc.symm
theorem keyRd (h : Heap) : ∀ {k : Key} {u : Value}, RelV (kV k) u → Reads h u (keyPy k) []
  | .inl i, _, r => by
    obtain ⟨t, rfl⟩ := r
    exact .int i t
  | .inr x, _, r => by
    obtain ⟨t, rfl⟩ := r
    exact .str x t
theorem keysRd (h : Heap) : ∀ {ks : List Key} {us : List Value}, Vals (ks.map kV) us → ReadsAll h us (ks.map keyPy) []
  | [], _, r => by
    cases r
    exact .nil
  | k :: ks, _, r => by
    cases r with
    | cons r1 r2 => exact ReadsAll.cons (as := []) (bs := []) (keyRd h r1) (keysRd h r2)
theorem keyRel {k : Key} {v : Value} (same : keyIs k v = true) : RelV (kV k) v := by
  rcases keyIs_shape same with ⟨i, t, rfl, rfl⟩ | ⟨x, t, rfl, rfl⟩
  · exact ⟨t, rfl⟩
  · exact ⟨t, rfl⟩
mutual
theorem Rep.rdR (I : Inv X pins σ H s) (m : SmK X.K) (b : Sub S H) : ∀ {d : D} {v : V} {u : Value} {p : PyData}, Rep X.K S v d → d.pyR = some p → RelV v u → ∃ as, Reads s.heap u p as ∧ sysModules ∉ as
  | .non, _, _, _, r, e, ru => by
    cases r
    cases ru
    cases (Option.some.inj e)
    exact ⟨_, .none, List.not_mem_nil⟩
  | .bl c, _, _, _, r, e, ru => by
    cases r
    cases ru
    cases (Option.some.inj e)
    exact ⟨_, .bool c, List.not_mem_nil⟩
  | .int i, _, _, _, r, e, ru => by
    cases r
    obtain ⟨t, rfl⟩ := ru
    cases (Option.some.inj e)
    exact ⟨_, .int i t, List.not_mem_nil⟩
  | .str x, _, _, _, r, e, ru => by
    cases r
    obtain ⟨t, rfl⟩ := ru
    cases (Option.some.inj e)
    exact ⟨_, .str x t, List.not_mem_nil⟩
  | .tup ds, _, _, _, r, e, ru => by
    cases r with
    | tup h1 r1 =>
      cases ru
      obtain ⟨ps, e1, e2⟩ := Option.map_eq_some_iff.mp e
      subst e2
      obtain ⟨its, rv, ⟨o, ho, hc, n, hd⟩, _⟩ := I.tuple (b.st h1)
      obtain ⟨as, hr, na⟩ := RepL.rdR I m b r1 e1 rv
      exact ⟨_, .tuple ho hc hd hr, na⟩
  | .lst ds, _, _, _, r, e, ru => by
    cases r with
    | lst h1 r1 =>
      cases ru
      obtain ⟨ps, e1, e2⟩ := Option.map_eq_some_iff.mp e
      subst e2
      obtain ⟨its, rv, ⟨o, n, ho, hc, _, hd⟩, _⟩ := I.list (b.sl (.inl h1))
      obtain ⟨as, hr, na⟩ := RepL.rdR I m b r1 e1 rv
      exact ⟨_, .list ho hc hd hr, fun q => (List.mem_cons.mp q).elim (fun z => off_sm I m ho hc (by decide) z.symm) na⟩
  | .rol ds, _, _, _, r, e, ru => by
    cases r with
    | rol h1 r1 =>
      cases ru
      obtain ⟨ps, e1, e2⟩ := Option.map_eq_some_iff.mp e
      subst e2
      obtain ⟨its, rv, ⟨o, n, ho, hc, _, hd⟩, _⟩ := I.list (b.sl h1)
      obtain ⟨as, hr, na⟩ := RepL.rdR I m b r1 e1 rv
      exact ⟨_, .list ho hc hd hr, fun q => (List.mem_cons.mp q).elim (fun z => off_sm I m ho hc (by decide) z.symm) na⟩
  | .dic kvs, _, _, _, r, e, ru => by
    cases r with
    | dic h1 r1 =>
      cases ru
      obtain ⟨ps, e1, e2⟩ := Option.map_eq_some_iff.mp e
      subst e2
      obtain ⟨hz, hS, vs, kv, o, es, ep, ho, xd, hd, _, pr, _⟩ := dk_rd I.hok (b.dk h1)
      obtain ⟨bs, hr, na⟩ := RepK.rdR I m b r1 e1 kv pr
      refine ⟨_, .dict (as := []) ho xd.1 hd hr.1 hr.2, fun q => ?_⟩
      rcases List.mem_cons.mp (show sysModules ∈ _ :: bs from q) with q | q
      · rw [q] at hS
        simp at hS
      · exact na q
  | .dit kvs, _, _, _, r, e, ru => by
    cases r with
    | dit h1 r1 =>
      cases ru
      obtain ⟨ps, e1, e2⟩ := Option.map_eq_some_iff.mp e
      subst e2
      obtain ⟨hz, hS, xs, pd, o, es, ep, ho, xd, hd, el, _⟩ := dt_rd I.hok (b.dt h1)
      obtain ⟨bs, hr, na⟩ := RepT.rdR I m b r1 e1 pd
      refine ⟨_, .dict (as := []) ho xd.1 hd (by rw [el]; exact hr.1) (by rw [el]; exact hr.2), fun q => ?_⟩
      rcases List.mem_cons.mp (show sysModules ∈ _ :: bs from q) with q | q
      · rw [q] at hS
        simp at hS
      · exact na q
  | .ty _, _, _, _, _, e, _ => by cases e
  | .fun_ _, _, _, _, _, e, _ => by cases e
  | .obj _ _, _, _, _, _, e, _ => by cases e
  | .exc _ _ _ _, _, _, _, _, e, _ => by cases e
theorem RepL.rdR (I : Inv X pins σ H s) (m : SmK X.K) (b : Sub S H) : ∀ {ds : List D} {vs : List V} {us : List Value} {ps : List PyData}, RepL X.K S vs ds → D.pysR ds = some ps → Vals vs us → ∃ as, ReadsAll s.heap us ps as ∧ sysModules ∉ as
  | [], _, _, _, r, e, ru => by
    cases r
    cases ru
    cases (Option.some.inj e)
    exact ⟨_, .nil, List.not_mem_nil⟩
  | d :: ds, _, _, _, r, e, ru => by
    cases r with
    | cons r1 r2 =>
      cases ru with
      | cons u1 u2 =>
        unfold D.pysR at e
        cases q : D.pyR d with
        | none =>
          rw [q] at e
          cases e
        | some p =>
          rw [q] at e
          obtain ⟨ps, e1, e2⟩ := Option.map_eq_some_iff.mp e
          subst e2
          obtain ⟨as, h1, n1⟩ := Rep.rdR I m b r1 q u1
          obtain ⟨bs, h2, n2⟩ := RepL.rdR I m b r2 e1 u2
          exact ⟨_, .cons h1 h2, fun z => (List.mem_append.mp z).elim n1 n2⟩
theorem RepK.rdR (I : Inv X pins σ H s) (m : SmK X.K) (b : Sub S H) : ∀ {ds : List (Key × D)} {xs : List (Key × V)} {vs : List (Key × Value)} {es : List DictEntry} {ps : List (PyData × PyData)}, RepK X.K S xs ds → D.pykR ds = some ps → KV xs vs → PySem.Pairs (mixKind X.prog X.w) es vs →
    ∃ as, (ReadsAll s.heap (es.map (·.key)) (ps.map (·.1)) [] ∧ ReadsAll s.heap (es.map (·.val)) (ps.map (·.2)) as) ∧ sysModules ∉ as
  | [], _, _, _, _, r, e, kv, pr => by
    cases r
    cases kv
    cases pr
    cases (Option.some.inj e)
    exact ⟨_, ⟨.nil, .nil⟩, List.not_mem_nil⟩
  | (k, d) :: ds, _, _, _, _, r, e, kv, pr => by
    cases r with
    | cons r1 r2 =>
      cases kv with
      | cons u1 u2 =>
        cases pr with
        | cons w1 w2 w3 =>
          unfold D.pykR at e
          cases q : D.pyR d with
          | none =>
            rw [q] at e
            cases e
          | some p =>
            rw [q] at e
            obtain ⟨ps, e1, e2⟩ := Option.map_eq_some_iff.mp e
            subst e2
            obtain ⟨e3, u1⟩ := u1
            obtain ⟨as, h1, n1⟩ := Rep.rdR I m b r1 q u1
            obtain ⟨bs, ⟨h2, h3⟩, n2⟩ := RepK.rdR I m b r2 e1 u2 w3
            refine ⟨_, ⟨ReadsAll.cons (as := []) (bs := []) (keyRd _ (keyRel (by rw [show k = _ from e3]; exact w1))) h2, ReadsAll.cons (by show Reads s.heap (DictEntry.val _) _ _; rw [w2]; exact h1) h3⟩, fun z => (List.mem_append.mp z).elim n1 n2⟩
theorem RepT.rdR (I : Inv X pins σ H s) (m : SmK X.K) (b : Sub S H) : ∀ {ds : List (List Key × D)} {xs : List (List Key × V)} {vs : List (List Key × Addr × Value)} {ps : List (PyData × PyData)}, RepT X.K S xs ds → D.pytR ds = some ps → Paired (fun (p : List Key × V) (q : List Key × Addr × Value) => p.1 = q.1 ∧ H q.2.1 = some (.tup (p.1.map kV)) ∧ RelV p.2 q.2.2) xs vs →
    ∃ as, (ReadsAll s.heap ((vs.map (PySem.entryOfKey (tupleKind (mixKind X.prog X.w)))).map (·.key)) (ps.map (·.1)) [] ∧ ReadsAll s.heap ((vs.map (PySem.entryOfKey (tupleKind (mixKind X.prog X.w)))).map (·.val)) (ps.map (·.2)) as) ∧ sysModules ∉ as
  | [], _, _, _, r, e, kv => by
    cases r
    cases kv
    cases (Option.some.inj e)
    exact ⟨_, ⟨.nil, .nil⟩, List.not_mem_nil⟩
  | (k, d) :: ds, _, _, _, r, e, kv => by
    cases r with
    | cons r1 r2 =>
      cases kv with
      | cons u1 u2 =>
        unfold D.pytR at e
        cases q : D.pyR d with
        | none =>
          rw [q] at e
          cases e
        | some p =>
          rw [q] at e
          obtain ⟨ps, e1, e2⟩ := Option.map_eq_some_iff.mp e
          subst e2
          obtain ⟨e3, u0, u1⟩ := u1
          obtain ⟨as, h1, n1⟩ := Rep.rdR I m b r1 q u1
          obtain ⟨bs, ⟨h2, h3⟩, n2⟩ := RepT.rdR I m b r2 e1 u2
          obtain ⟨its, rv, ⟨o, ho, hc, n, hd⟩, _⟩ := I.tuple (SqT.of u0)
          refine ⟨_, ⟨ReadsAll.cons (as := []) (bs := []) (Reads.tuple ho hc hd (keysRd _ rv)) h2, ReadsAll.cons h1 h3⟩, fun z => (List.mem_append.mp z).elim n1 n2⟩
end
/-- repr(x) of data, dicts too -/
def rReprD (K : PySem.W.Frag) : List V → Hp → VK → Prop := fun xs H Q => ∃ x S d p, xs = [x] ∧ Sub S H ∧ Rep K S x d ∧ d.pyR = some p ∧ p.showable = true ∧ p.depth ≤ 64 ∧ p.shown.length ≤ sizeLine ∧ Q (.str p.shown) H
theorem o_reprD (gd : X.A.guards = some []) (hu : X.A.units + 70 < cLine) (m : SmK X.K) : CallR X (.builtin "repr") (rReprD X.K) := by
  intro pins s σ H xs us Q J rel ⟨x, S, d, p, ex, b, r, hp, sh, dp, sz, q⟩
  subst ex
  obtain ⟨u, rfl, ru⟩ := vals1 rel
  obtain ⟨as, rd, na⟩ := Rep.rdR J m b r hp ru
  cases rd with
  | none => exact PySem.P.repr_of_none ⟨.str _, H, J.tok _, ⟨_, rfl⟩, q⟩
  | bool c => exact PySem.P.repr_of_bool ⟨.str _, H, J.tok _, ⟨_, rfl⟩, q⟩
  | int i t => exact PySem.P.repr_of_int (of_decide_eq_true sh) ⟨.str _, H, J.tok _, ⟨_, rfl⟩, q⟩
  | str y t => exact PySem.P.repr_of_str ⟨.str _, H, J.tok _, ⟨_, rfl⟩, q⟩ sz
  | list h1 h2 h3 h4 => exact repr_of_reads' (.list h1 h2 h3 h4) sh (fun _ => na) gd (by omega) (fun _ _ e => e) (fun h' v tk keep => ⟨.str _, H, J.kept (t' := tk) keep, ⟨_, rfl⟩, q⟩) sz
  | tuple h1 h2 h3 h4 => exact repr_of_reads' (.tuple h1 h2 h3 h4) sh (fun _ => na) gd (by omega) (fun _ _ e => e) (fun h' v tk keep => ⟨.str _, H, J.kept (t' := tk) keep, ⟨_, rfl⟩, q⟩) sz
  | dict h1 h2 h3 h4 h5 => exact repr_of_reads' (.dict h1 h2 h3 h4 h5) sh (fun _ => na) gd (by omega) (fun _ _ e => e) (fun h' v tk keep => ⟨.str _, H, J.kept (t' := tk) keep, ⟨_, rfl⟩, q⟩) sz
end
theorem rc_reprD {K : PySem.W.Frag} {x : D} {p : PyData} {k : D → Prop} (hx : x.pyR = some p) (sh : p.showable = true) (dp : p.depth ≤ 64) (sz : p.shown.length ≤ 100000) (h : k (.str p.shown)) : RC K (rReprD K) [x] k := fun w vs Q s r q => by
  obtain ⟨v, rfl, r1⟩ := r.one
  exact ⟨v, w.S, x, p, rfl, s, r1, hx, sh, dp, sz_of sz, q _ w _ h (LeP.refl w) s (.str _)⟩
/-! ### a head with defs at any address -/
def asS (g : Addr → Option Obj) (n : Nat) : List Addr := He.asD g n ++ [cStatics, sysModules]
abbrev AlS : Type := He.AlD × Bool
def obsS (n : Nat) (fa : List He.Fa) (fn : List He5.DefA) (ex : PySem.W.Frag → Bool) (g : Addr → Option Obj) : AlS := (He5.obsA fa fn (He.frG g (asS g n)), ex (He.frG g (asS g n)))
structure SaysS (fa : List He.Fa) (fn : List He5.DefA) (ex : PySem.W.Frag → Bool) (K : PySem.W.Frag) : Prop where
  d : He5.SaysA fa fn K
  more : ex K = true
def hookS (n : Nat) (fa : List He.Fa) (fn : List He5.DefA) (ex : PySem.W.Frag → Bool) : PySem.W.Hook where
  α := AlS
  obs := fun s => obsS n fa fn ex s.heap.get?
  val := fun _ => (He5.valA fn, true)
  says := fun _ h => ∃ K : PySem.W.Frag, K.In h ∧ SaysS fa fn ex K
  of := fun _ _ e => ⟨_, He.frG_in, congrArg (fun z : AlS => z.1) e, congrArg (fun z : AlS => z.2) e⟩
  keeps := fun _ _ _ ⟨K, inK, c⟩ old => ⟨K, PySem.W.Frag.In.keeps inK old, c⟩
theorem obsS_eq {n : Nat} {fa : List He.Fa} {fn : List He5.DefA} {ex : PySem.W.Frag → Bool} {g : Addr → Option Obj} {s : Shared} (h : ∀ a, g a = s.heap.get? a) : obsS n fa fn ex g = (hookS n fa fn ex).obs s := by
  have same : g = s.heap.get? := funext h
  rw [same] <;> rfl
/-- a classmethod of a class -/
def cmB (K : PySem.W.Frag) (c m : Str) : Bool := PySem.W.readsIn K (He.ga K c) (.type "type") && (decide (PySem.W.specialIn K (.ref (He.ga K c)) "__getattribute__" = some (some (.builtin "type.__getattribute__"))) && (He5.wrapB K (He.ga K c) "classmethod" "classmethod.__get__" m && PySem.W.fnIn K (He5.wf K (He.ga K c) "classmethod" m)))
theorem cmB_ok {K : PySem.W.Frag} {c m : Str} (h : cmB K c m = true) : ClX.CRead K (He.ga K c) (.type "type") ∧ ClX.CMet K (He.ga K c) (.type "type") m (He.ma K (He.ga K c) m) (He5.wf K (He.ga K c) "classmethod" m) := by
  obtain ⟨a1, h⟩ := Bool.and_eq_true_iff.mp h
  obtain ⟨a2, h⟩ := Bool.and_eq_true_iff.mp h
  obtain ⟨a3, a4⟩ := Bool.and_eq_true_iff.mp h
  exact ⟨⟨a1, of_decide_eq_true a2⟩, He5.cmet_of a3 a4⟩
end DL
namespace DL
open PySem L2
theorem mt_insertR {X : Cx} : MtR X "list.insert" rInsert := mt_insert
end DL

namespace K24
open PySem PySem.Spec PyProof.Rows L2 DL
def top (i : Nat) : Stmt := PySem.Challenge.pw_evenmarket_k24_pools_by_text.main.body.getD i (.Pass ⟨0, 0, 0, 0⟩)
abbrev s_Fwall : Stmt := top 0
abbrev s_BadAmount_init : Stmt := inClass (top 3) 0
abbrev s_BadUnit_init : Stmt := inClass (top 4) 0
abbrev s_Fis_name : Stmt := top 8
abbrev s_Fis_member : Stmt := top 9
abbrev s_Fis_good : Stmt := top 10
abbrev s_Fis_whole : Stmt := top 11
abbrev s_Fis_count : Stmt := top 12
abbrev s_Fis_numeral : Stmt := top 14
abbrev s_BadPool_init : Stmt := inClass (top 19) 0
abbrev s_Pool_init : Stmt := inClass (top 21) 0
abbrev s_Pool_ask : Stmt := inClass (top 21) 1
abbrev s_Pool_bid : Stmt := inClass (top 21) 2
abbrev s_Pool_sold : Stmt := inClass (top 21) 3
abbrev s_Pool_bought : Stmt := inClass (top 21) 4
abbrev s_Pool_asks : Stmt := inClass (top 21) 5
abbrev s_Pool_bids : Stmt := inClass (top 21) 6
abbrev s_Pool_joined : Stmt := inClass (top 21) 7
abbrev s_Pool_left : Stmt := inClass (top 21) 8
abbrev s_Pool_eq : Stmt := inClass (top 21) 9
abbrev s_Pool_str : Stmt := inClass (top 21) 10
abbrev s_Pool_read : Stmt := inClass (top 21) 11
abbrev s_Fchanged_by : Stmt := top 22
abbrev s_Fafter : Stmt := top 23
abbrev s_Fcheck_count : Stmt := top 24
abbrev s_Fis_pool_numeral : Stmt := top 25
abbrev s_Llaw_start : Stmt := top 27
abbrev s_Llaw_draw : Stmt := top 28
abbrev s_Llaw_words : Stmt := top 29
abbrev s_Llaw_pool : Stmt := top 30
abbrev s_Llaw_is_word : Stmt := top 31
abbrev s_Llaw_parsed : Stmt := top 32
abbrev s_Llaw_read : Stmt := top 33
abbrev s_Llaw_spoilt : Stmt := top 34
abbrev s_Llaw_made : Stmt := top 35
abbrev s_Llaw_is_from : Stmt := top 36
abbrev s_Llaw_made_right : Stmt := top 37
abbrev s_Flaw : Stmt := top 38
def dd_Fwall : He5.DefA := ⟨fun K => He.fAd K ("_wall", none), "_wall", "_wall", defArgs s_Fwall, defBody s_Fwall, defScope s_Fwall, [], []⟩
def dd_BadAmount_init : He5.DefA := ⟨fun K => He.fAd K ("BadAmount", some "__init__"), "__init__", "BadAmount.__init__", defArgs s_BadAmount_init, defBody s_BadAmount_init, defScope s_BadAmount_init, [], []⟩
def dd_BadUnit_init : He5.DefA := ⟨fun K => He.fAd K ("BadUnit", some "__init__"), "__init__", "BadUnit.__init__", defArgs s_BadUnit_init, defBody s_BadUnit_init, defScope s_BadUnit_init, [], []⟩
def dd_Fis_name : He5.DefA := ⟨fun K => He.fAd K ("is_name", none), "is_name", "is_name", defArgs s_Fis_name, defBody s_Fis_name, defScope s_Fis_name, [], []⟩
def dd_Fis_member : He5.DefA := ⟨fun K => He.fAd K ("is_member", none), "is_member", "is_member", defArgs s_Fis_member, defBody s_Fis_member, defScope s_Fis_member, [], []⟩
def dd_Fis_good : He5.DefA := ⟨fun K => He.fAd K ("is_good", none), "is_good", "is_good", defArgs s_Fis_good, defBody s_Fis_good, defScope s_Fis_good, [], []⟩
def dd_Fis_whole : He5.DefA := ⟨fun K => He.fAd K ("is_whole", none), "is_whole", "is_whole", defArgs s_Fis_whole, defBody s_Fis_whole, defScope s_Fis_whole, [], []⟩
def dd_Fis_count : He5.DefA := ⟨fun K => He.fAd K ("is_count", none), "is_count", "is_count", defArgs s_Fis_count, defBody s_Fis_count, defScope s_Fis_count, [], []⟩
def dd_Fis_numeral : He5.DefA := ⟨fun K => He.fAd K ("is_numeral", none), "is_numeral", "is_numeral", defArgs s_Fis_numeral, defBody s_Fis_numeral, defScope s_Fis_numeral, [], []⟩
def dd_BadPool_init : He5.DefA := ⟨fun K => He.fAd K ("BadPool", some "__init__"), "__init__", "BadPool.__init__", defArgs s_BadPool_init, defBody s_BadPool_init, defScope s_BadPool_init, [], []⟩
def dd_Pool_init : He5.DefA := ⟨fun K => He.fAd K ("Pool", some "__init__"), "__init__", "Pool.__init__", defArgs s_Pool_init, defBody s_Pool_init, defScope s_Pool_init, [], []⟩
def dd_Pool_ask : He5.DefA := ⟨fun K => He.fAd K ("Pool", some "ask"), "ask", "Pool.ask", defArgs s_Pool_ask, defBody s_Pool_ask, defScope s_Pool_ask, [], []⟩
def dd_Pool_bid : He5.DefA := ⟨fun K => He.fAd K ("Pool", some "bid"), "bid", "Pool.bid", defArgs s_Pool_bid, defBody s_Pool_bid, defScope s_Pool_bid, [], []⟩
def dd_Pool_sold : He5.DefA := ⟨fun K => He.fAd K ("Pool", some "sold"), "sold", "Pool.sold", defArgs s_Pool_sold, defBody s_Pool_sold, defScope s_Pool_sold, [.int 1], []⟩
def dd_Pool_bought : He5.DefA := ⟨fun K => He.fAd K ("Pool", some "bought"), "bought", "Pool.bought", defArgs s_Pool_bought, defBody s_Pool_bought, defScope s_Pool_bought, [.int 1], []⟩
def dd_Pool_asks : He5.DefA := ⟨fun K => He.fAd K ("Pool", some "asks"), "asks", "Pool.asks", defArgs s_Pool_asks, defBody s_Pool_asks, defScope s_Pool_asks, [], []⟩
def dd_Pool_bids : He5.DefA := ⟨fun K => He.fAd K ("Pool", some "bids"), "bids", "Pool.bids", defArgs s_Pool_bids, defBody s_Pool_bids, defScope s_Pool_bids, [], []⟩
def dd_Pool_joined : He5.DefA := ⟨fun K => He.fAd K ("Pool", some "joined"), "joined", "Pool.joined", defArgs s_Pool_joined, defBody s_Pool_joined, defScope s_Pool_joined, [], []⟩
def dd_Pool_left : He5.DefA := ⟨fun K => He.fAd K ("Pool", some "left"), "left", "Pool.left", defArgs s_Pool_left, defBody s_Pool_left, defScope s_Pool_left, [], []⟩
def dd_Pool_eq : He5.DefA := ⟨fun K => He.fAd K ("Pool", some "__eq__"), "__eq__", "Pool.__eq__", defArgs s_Pool_eq, defBody s_Pool_eq, defScope s_Pool_eq, [], []⟩
def dd_Pool_str : He5.DefA := ⟨fun K => He.fAd K ("Pool", some "__str__"), "__str__", "Pool.__str__", defArgs s_Pool_str, defBody s_Pool_str, defScope s_Pool_str, [], []⟩
def dd_Pool_read : He5.DefA := ⟨fun K => He5.wf K (He.ga K "Pool") "classmethod" "read", "read", "Pool.read", defArgs s_Pool_read, defBody s_Pool_read, defScope s_Pool_read, [], []⟩
def dd_Fchanged_by : He5.DefA := ⟨fun K => He.fAd K ("changed_by", none), "changed_by", "changed_by", defArgs s_Fchanged_by, defBody s_Fchanged_by, defScope s_Fchanged_by, [], []⟩
def dd_Fafter : He5.DefA := ⟨fun K => He.fAd K ("after", none), "after", "after", defArgs s_Fafter, defBody s_Fafter, defScope s_Fafter, [], []⟩
def dd_Fcheck_count : He5.DefA := ⟨fun K => He.fAd K ("check_count", none), "check_count", "check_count", defArgs s_Fcheck_count, defBody s_Fcheck_count, defScope s_Fcheck_count, [], []⟩
def dd_Fis_pool_numeral : He5.DefA := ⟨fun K => He.fAd K ("is_pool_numeral", none), "is_pool_numeral", "is_pool_numeral", defArgs s_Fis_pool_numeral, defBody s_Fis_pool_numeral, defScope s_Fis_pool_numeral, [], []⟩
def dd_Llaw_start : He5.DefA := ⟨fun K => He.fAd K ("_law_start", none), "_law_start", "_law_start", defArgs s_Llaw_start, defBody s_Llaw_start, defScope s_Llaw_start, [], []⟩
def dd_Llaw_draw : He5.DefA := ⟨fun K => He.fAd K ("_law_draw", none), "_law_draw", "_law_draw", defArgs s_Llaw_draw, defBody s_Llaw_draw, defScope s_Llaw_draw, [], []⟩
def dd_Llaw_words : He5.DefA := ⟨fun K => He.fAd K ("_law_words", none), "_law_words", "_law_words", defArgs s_Llaw_words, defBody s_Llaw_words, defScope s_Llaw_words, [], []⟩
def dd_Llaw_pool : He5.DefA := ⟨fun K => He.fAd K ("_law_pool", none), "_law_pool", "_law_pool", defArgs s_Llaw_pool, defBody s_Llaw_pool, defScope s_Llaw_pool, [], []⟩
def dd_Llaw_is_word : He5.DefA := ⟨fun K => He.fAd K ("_law_is_word", none), "_law_is_word", "_law_is_word", defArgs s_Llaw_is_word, defBody s_Llaw_is_word, defScope s_Llaw_is_word, [], []⟩
def dd_Llaw_parsed : He5.DefA := ⟨fun K => He.fAd K ("_law_parsed", none), "_law_parsed", "_law_parsed", defArgs s_Llaw_parsed, defBody s_Llaw_parsed, defScope s_Llaw_parsed, [], []⟩
def dd_Llaw_read : He5.DefA := ⟨fun K => He.fAd K ("_law_read", none), "_law_read", "_law_read", defArgs s_Llaw_read, defBody s_Llaw_read, defScope s_Llaw_read, [], []⟩
def dd_Llaw_spoilt : He5.DefA := ⟨fun K => He.fAd K ("_law_spoilt", none), "_law_spoilt", "_law_spoilt", defArgs s_Llaw_spoilt, defBody s_Llaw_spoilt, defScope s_Llaw_spoilt, [], []⟩
def dd_Llaw_made : He5.DefA := ⟨fun K => He.fAd K ("_law_made", none), "_law_made", "_law_made", defArgs s_Llaw_made, defBody s_Llaw_made, defScope s_Llaw_made, [], []⟩
def dd_Llaw_is_from : He5.DefA := ⟨fun K => He.fAd K ("_law_is_from", none), "_law_is_from", "_law_is_from", defArgs s_Llaw_is_from, defBody s_Llaw_is_from, defScope s_Llaw_is_from, [], []⟩
def dd_Llaw_made_right : He5.DefA := ⟨fun K => He.fAd K ("_law_made_right", none), "_law_made_right", "_law_made_right", defArgs s_Llaw_made_right, defBody s_Llaw_made_right, defScope s_Llaw_made_right, [], []⟩
def dd_Flaw : He5.DefA := ⟨fun K => He.fAd K ("law", none), "law", "law", defArgs s_Flaw, defBody s_Flaw, defScope s_Flaw, [], []⟩
def fn : List He5.DefA := ([dd_Fwall, dd_BadAmount_init, dd_BadUnit_init, dd_Fis_name, dd_Fis_member, dd_Fis_good, dd_Fis_whole, dd_Fis_count, dd_Fis_numeral, dd_BadPool_init, dd_Pool_init, dd_Pool_ask, dd_Pool_bid, dd_Pool_sold, dd_Pool_bought, dd_Pool_asks, dd_Pool_bids, dd_Pool_joined, dd_Pool_left, dd_Pool_eq, dd_Pool_str, dd_Pool_read, dd_Fchanged_by, dd_Fafter] : List He5.DefA) ++ ([dd_Fcheck_count, dd_Fis_pool_numeral, dd_Llaw_start, dd_Llaw_draw, dd_Llaw_words, dd_Llaw_pool, dd_Llaw_is_word, dd_Llaw_parsed, dd_Llaw_read, dd_Llaw_spoilt, dd_Llaw_made, dd_Llaw_is_from, dd_Llaw_made_right, dd_Flaw] : List He5.DefA)
def fa : List He.Fa := ([.glo "_wall", .glo "is_name", .glo "is_member", .glo "is_good", .glo "is_whole", .glo "is_count", .glo "is_numeral", .glo "changed_by", .glo "after", .glo "check_count", .glo "is_pool_numeral", .glo "_law_start", .glo "_law_draw", .glo "_law_words", .glo "_law_pool", .glo "_law_is_word", .glo "_law_parsed", .glo "_law_read", .glo "_law_spoilt", .glo "_law_made", .glo "_law_is_from", .glo "_law_made_right", .glo "law", .glo "MarketError"] : List He.Fa) ++ ([.glo "BadAmount", .glo "BadUnit", .glo "BadText", .glo "BadPool", .glo "NoUnit", .glo "Pool", .free "abs", .free "len", .free "sum", .free "all", .free "isinstance", .free "repr", .free "range", .free "int", .free "str", .free "bool", .free "list", .glo "RESERVED", .int "MOST_MONEY" 9999, .int "MOST_STOCK" 99, .int "MOST_DIGITS" 9, .noat "BadAmount" "given", .noat "BadUnit" "given", .exc "BadText"] : List He.Fa) ++ ([.noat "BadPool" "field", .noat "BadPool" "value", .exc "NoUnit", .cls "Pool", .noat "Pool" "money", .noat "Pool" "shares", .noat "Pool" "stock", .noat "Pool" "unit", .meth "Pool" "ask", .meth "Pool" "bid", .meth "Pool" "sold", .meth "Pool" "bought", .meth "Pool" "asks", .meth "Pool" "bids", .meth "Pool" "joined", .meth "Pool" "left", .meth "Pool" "__eq__", .meth "Pool" "__str__", .mkr "Pool", .exm "BadAmount" "BadPool" false, .exm "BadAmount" "BadText" false, .exm "BadAmount" "BadUnit" false, .exm "BadAmount" "MarketError" true, .exm "BadPool" "BadPool" true] : List He.Fa) ++ ([.exm "BadPool" "BadText" false, .exm "BadPool" "BadUnit" false, .exm "BadPool" "MarketError" true, .exm "BadText" "BadPool" false, .exm "BadText" "BadText" true, .exm "BadText" "BadUnit" false, .exm "BadText" "MarketError" true, .exm "BadUnit" "BadPool" false, .exm "BadUnit" "BadText" false, .exm "BadUnit" "BadUnit" true, .exm "BadUnit" "MarketError" true, .exm "NoUnit" "BadPool" false, .exm "NoUnit" "BadText" false, .exm "NoUnit" "BadUnit" false, .exm "NoUnit" "MarketError" true] : List He.Fa)
def ex (K : PySem.W.Frag) : Bool := tupB K "RESERVED" ["house", "outside", "money"] && (oexB K (He.ga K "BadAmount") && (iniB K (He.ga K "BadAmount") && (xfB K (He.ga K "BadAmount") && (oexB K (He.ga K "BadUnit") && (iniB K (He.ga K "BadUnit") && (xfB K (He.ga K "BadUnit") && (oexB K (He.ga K "BadPool") && (iniB K (He.ga K "BadPool") && (xfB K (He.ga K "BadPool") && (cmB K "Pool" "read" && (eqB K "Pool" && (smB K && (true)))))))))))))
abbrev R : PySem.W.OpenRow := PySem.W.OpenLaw.row PySem.Challenge.rw_evenmarket_k24_pools_by_text
abbrev hk : PySem.W.Hook := hookS 6 fa fn ex
def ob (s : PySem.W.SharedT) : AlS := obsS 6 fa fn ex (HandSHeadRun.getT s)
theorem ob_eq (s : PySem.W.SharedT) : ob s = hk.obs s.abs := obsS_eq (HandSHeadRun.getT_eq s)
def loose : List Str := (["_wall", "__name__", "MarketError", "BadAmount", "BadUnit", "BadText", "RESERVED", "is_name", "is_member", "is_good", "is_whole", "is_count", "is_numeral", "MOST_MONEY", "MOST_STOCK", "MOST_DIGITS", "BadPool", "NoUnit", "Pool", "changed_by", "after", "check_count", "is_pool_numeral", "_law_start"] : List Str) ++ (["_law_draw", "_law_words", "_law_pool", "_law_is_word", "_law_parsed", "_law_read", "_law_spoilt", "_law_made", "_law_is_from", "_law_made_right"] : List Str)
theorem run (w : World) : HandSHeadRun.RunEq R (PySem.W.view R.prog [38]) hk ob 60000 loose w := by
  intro os
  kernel_rfl

end K24

namespace K24
open PySem PySem.Spec PyProof.Rows L2 DL
structure Tx (K : PySem.W.Frag) (mg : Str → Option Value) : Prop where
  g__wall : mg "_wall" = some (.ref (He.ga K "_wall"))
  g_is_name : mg "is_name" = some (.ref (He.ga K "is_name"))
  g_is_member : mg "is_member" = some (.ref (He.ga K "is_member"))
  g_is_good : mg "is_good" = some (.ref (He.ga K "is_good"))
  g_is_whole : mg "is_whole" = some (.ref (He.ga K "is_whole"))
  g_is_count : mg "is_count" = some (.ref (He.ga K "is_count"))
  g_is_numeral : mg "is_numeral" = some (.ref (He.ga K "is_numeral"))
  g_changed_by : mg "changed_by" = some (.ref (He.ga K "changed_by"))
  g_after : mg "after" = some (.ref (He.ga K "after"))
  g_check_count : mg "check_count" = some (.ref (He.ga K "check_count"))
  g_is_pool_numeral : mg "is_pool_numeral" = some (.ref (He.ga K "is_pool_numeral"))
  g__law_start : mg "_law_start" = some (.ref (He.ga K "_law_start"))
  g__law_draw : mg "_law_draw" = some (.ref (He.ga K "_law_draw"))
  g__law_words : mg "_law_words" = some (.ref (He.ga K "_law_words"))
  g__law_pool : mg "_law_pool" = some (.ref (He.ga K "_law_pool"))
  g__law_is_word : mg "_law_is_word" = some (.ref (He.ga K "_law_is_word"))
  g__law_parsed : mg "_law_parsed" = some (.ref (He.ga K "_law_parsed"))
  g__law_read : mg "_law_read" = some (.ref (He.ga K "_law_read"))
  g__law_spoilt : mg "_law_spoilt" = some (.ref (He.ga K "_law_spoilt"))
  g__law_made : mg "_law_made" = some (.ref (He.ga K "_law_made"))
  g__law_is_from : mg "_law_is_from" = some (.ref (He.ga K "_law_is_from"))
  g__law_made_right : mg "_law_made_right" = some (.ref (He.ga K "_law_made_right"))
  g_law : mg "law" = some (.ref (He.ga K "law"))
  g_MarketError : mg "MarketError" = some (.ref (He.ga K "MarketError"))
  g_BadAmount : mg "BadAmount" = some (.ref (He.ga K "BadAmount"))
  g_BadUnit : mg "BadUnit" = some (.ref (He.ga K "BadUnit"))
  g_BadText : mg "BadText" = some (.ref (He.ga K "BadText"))
  g_BadPool : mg "BadPool" = some (.ref (He.ga K "BadPool"))
  g_NoUnit : mg "NoUnit" = some (.ref (He.ga K "NoUnit"))
  g_Pool : mg "Pool" = some (.ref (He.ga K "Pool"))
  n_abs : mg "abs" = none
  n_len : mg "len" = none
  n_sum : mg "sum" = none
  n_all : mg "all" = none
  n_isinstance : mg "isinstance" = none
  n_repr : mg "repr" = none
  n_range : mg "range" = none
  n_int : mg "int" = none
  n_str : mg "str" = none
  n_bool : mg "bool" = none
  n_list : mg "list" = none
  g_RESERVED : mg "RESERVED" = some (.ref (He.ga K "RESERVED"))
  i_MOST_MONEY : ∃ t, mg "MOST_MONEY" = some (.int 9999 t)
  i_MOST_STOCK : ∃ t, mg "MOST_STOCK" = some (.int 99 t)
  i_MOST_DIGITS : ∃ t, mg "MOST_DIGITS" = some (.int 9 t)
  no_BadAmount_given : NoAttr K (He.ga K "BadAmount") "given"
  no_BadUnit_given : NoAttr K (He.ga K "BadUnit") "given"
  e_BadText : PySem.W.excIn K (He.ga K "BadText") He.veBase "ValueError.__new__" = true ∧ PySem.W.keepIn K (.ref (He.ga K "BadText")) = true ∧ PySem.W.subIn K (.ref (He.ga K "BadText")) (.type "BaseException") = some true ∧ PySem.W.typeIn K (.ref (He.ga K "BadText")) = some (.type "type")
  no_BadPool_field : NoAttr K (He.ga K "BadPool") "field"
  no_BadPool_value : NoAttr K (He.ga K "BadPool") "value"
  e_NoUnit : PySem.W.excIn K (He.ga K "NoUnit") He.veBase "ValueError.__new__" = true ∧ PySem.W.keepIn K (.ref (He.ga K "NoUnit")) = true ∧ PySem.W.subIn K (.ref (He.ga K "NoUnit")) (.type "BaseException") = some true ∧ PySem.W.typeIn K (.ref (He.ga K "NoUnit")) = some (.type "type")
  c_Pool : Cls K (He.ga K "Pool")
  no_Pool_money : NoAttr K (He.ga K "Pool") "money"
  no_Pool_shares : NoAttr K (He.ga K "Pool") "shares"
  no_Pool_stock : NoAttr K (He.ga K "Pool") "stock"
  no_Pool_unit : NoAttr K (He.ga K "Pool") "unit"
  m_Pool_ask : Meth K (He.ga K "Pool") "ask" (He.ma K (He.ga K "Pool") "ask")
  m_Pool_bid : Meth K (He.ga K "Pool") "bid" (He.ma K (He.ga K "Pool") "bid")
  m_Pool_sold : Meth K (He.ga K "Pool") "sold" (He.ma K (He.ga K "Pool") "sold")
  m_Pool_bought : Meth K (He.ga K "Pool") "bought" (He.ma K (He.ga K "Pool") "bought")
  m_Pool_asks : Meth K (He.ga K "Pool") "asks" (He.ma K (He.ga K "Pool") "asks")
  m_Pool_bids : Meth K (He.ga K "Pool") "bids" (He.ma K (He.ga K "Pool") "bids")
  m_Pool_joined : Meth K (He.ga K "Pool") "joined" (He.ma K (He.ga K "Pool") "joined")
  m_Pool_left : Meth K (He.ga K "Pool") "left" (He.ma K (He.ga K "Pool") "left")
  m_Pool_eq : Meth K (He.ga K "Pool") "__eq__" (He.ma K (He.ga K "Pool") "__eq__")
  m_Pool_str : Meth K (He.ga K "Pool") "__str__" (He.ma K (He.ga K "Pool") "__str__")
  k_Pool : Mk K (He.ga K "Pool") (He.ma K (He.ga K "Pool") "__init__")
  q_BadAmount_BadPool : PySem.W.exmOne K (.ref (He.ga K "BadAmount")) (.ref (He.ga K "BadPool")) = some false
  q_BadAmount_BadText : PySem.W.exmOne K (.ref (He.ga K "BadAmount")) (.ref (He.ga K "BadText")) = some false
  q_BadAmount_BadUnit : PySem.W.exmOne K (.ref (He.ga K "BadAmount")) (.ref (He.ga K "BadUnit")) = some false
  q_BadAmount_MarketError : PySem.W.exmOne K (.ref (He.ga K "BadAmount")) (.ref (He.ga K "MarketError")) = some true
  q_BadPool_BadPool : PySem.W.exmOne K (.ref (He.ga K "BadPool")) (.ref (He.ga K "BadPool")) = some true
  q_BadPool_BadText : PySem.W.exmOne K (.ref (He.ga K "BadPool")) (.ref (He.ga K "BadText")) = some false
  q_BadPool_BadUnit : PySem.W.exmOne K (.ref (He.ga K "BadPool")) (.ref (He.ga K "BadUnit")) = some false
  q_BadPool_MarketError : PySem.W.exmOne K (.ref (He.ga K "BadPool")) (.ref (He.ga K "MarketError")) = some true
  q_BadText_BadPool : PySem.W.exmOne K (.ref (He.ga K "BadText")) (.ref (He.ga K "BadPool")) = some false
  q_BadText_BadText : PySem.W.exmOne K (.ref (He.ga K "BadText")) (.ref (He.ga K "BadText")) = some true
  q_BadText_BadUnit : PySem.W.exmOne K (.ref (He.ga K "BadText")) (.ref (He.ga K "BadUnit")) = some false
  q_BadText_MarketError : PySem.W.exmOne K (.ref (He.ga K "BadText")) (.ref (He.ga K "MarketError")) = some true
  q_BadUnit_BadPool : PySem.W.exmOne K (.ref (He.ga K "BadUnit")) (.ref (He.ga K "BadPool")) = some false
  q_BadUnit_BadText : PySem.W.exmOne K (.ref (He.ga K "BadUnit")) (.ref (He.ga K "BadText")) = some false
  q_BadUnit_BadUnit : PySem.W.exmOne K (.ref (He.ga K "BadUnit")) (.ref (He.ga K "BadUnit")) = some true
  q_BadUnit_MarketError : PySem.W.exmOne K (.ref (He.ga K "BadUnit")) (.ref (He.ga K "MarketError")) = some true
  q_NoUnit_BadPool : PySem.W.exmOne K (.ref (He.ga K "NoUnit")) (.ref (He.ga K "BadPool")) = some false
  q_NoUnit_BadText : PySem.W.exmOne K (.ref (He.ga K "NoUnit")) (.ref (He.ga K "BadText")) = some false
  q_NoUnit_BadUnit : PySem.W.exmOne K (.ref (He.ga K "NoUnit")) (.ref (He.ga K "BadUnit")) = some false
  q_NoUnit_MarketError : PySem.W.exmOne K (.ref (He.ga K "NoUnit")) (.ref (He.ga K "MarketError")) = some true
  tup_RESERVED : ∀ S, Rep K S (.ref (He.ga K "RESERVED")) (.tup ((["house", "outside", "money"] : List Str).map .str))
  o_BadAmount : OexC K (He.ga K "BadAmount")
  i_BadAmount : PySem.W.findIn K (.ref (He.ga K "BadAmount")) "__init__" = some (some (.ref (He.ma K (He.ga K "BadAmount") "__init__")))
  t_BadAmount : PySem.W.typeIn K (.ref (He.ma K (He.ga K "BadAmount") "__init__")) = some (.type "function")
  x_BadAmount : XfC K (He.ga K "BadAmount")
  o_BadUnit : OexC K (He.ga K "BadUnit")
  i_BadUnit : PySem.W.findIn K (.ref (He.ga K "BadUnit")) "__init__" = some (some (.ref (He.ma K (He.ga K "BadUnit") "__init__")))
  t_BadUnit : PySem.W.typeIn K (.ref (He.ma K (He.ga K "BadUnit") "__init__")) = some (.type "function")
  x_BadUnit : XfC K (He.ga K "BadUnit")
  o_BadPool : OexC K (He.ga K "BadPool")
  i_BadPool : PySem.W.findIn K (.ref (He.ga K "BadPool")) "__init__" = some (some (.ref (He.ma K (He.ga K "BadPool") "__init__")))
  t_BadPool : PySem.W.typeIn K (.ref (He.ma K (He.ga K "BadPool") "__init__")) = some (.type "function")
  x_BadPool : XfC K (He.ga K "BadPool")
  cm_Pool_read : ClX.CRead K (He.ga K "Pool") (.type "type") ∧ ClX.CMet K (He.ga K "Pool") (.type "type") "read" (He.ma K (He.ga K "Pool") "read") (He5.wf K (He.ga K "Pool") "classmethod" "read")
  eq_Pool : DC.EqC K (He.ga K "Pool") (He.ma K (He.ga K "Pool") "__eq__")
  sm : SmK K
  d_Fwall : ∃ fd, FunD K "_wall" "_wall" (defArgs s_Fwall) (defBody s_Fwall) (defScope s_Fwall) [] [] (He.ga K "_wall") fd
  d_BadAmount_init : ∃ fd, FunD K "__init__" "BadAmount.__init__" (defArgs s_BadAmount_init) (defBody s_BadAmount_init) (defScope s_BadAmount_init) [] [] (He.ma K (He.ga K "BadAmount") "__init__") fd
  d_BadUnit_init : ∃ fd, FunD K "__init__" "BadUnit.__init__" (defArgs s_BadUnit_init) (defBody s_BadUnit_init) (defScope s_BadUnit_init) [] [] (He.ma K (He.ga K "BadUnit") "__init__") fd
  d_Fis_name : ∃ fd, FunD K "is_name" "is_name" (defArgs s_Fis_name) (defBody s_Fis_name) (defScope s_Fis_name) [] [] (He.ga K "is_name") fd
  d_Fis_member : ∃ fd, FunD K "is_member" "is_member" (defArgs s_Fis_member) (defBody s_Fis_member) (defScope s_Fis_member) [] [] (He.ga K "is_member") fd
  d_Fis_good : ∃ fd, FunD K "is_good" "is_good" (defArgs s_Fis_good) (defBody s_Fis_good) (defScope s_Fis_good) [] [] (He.ga K "is_good") fd
  d_Fis_whole : ∃ fd, FunD K "is_whole" "is_whole" (defArgs s_Fis_whole) (defBody s_Fis_whole) (defScope s_Fis_whole) [] [] (He.ga K "is_whole") fd
  d_Fis_count : ∃ fd, FunD K "is_count" "is_count" (defArgs s_Fis_count) (defBody s_Fis_count) (defScope s_Fis_count) [] [] (He.ga K "is_count") fd
  d_Fis_numeral : ∃ fd, FunD K "is_numeral" "is_numeral" (defArgs s_Fis_numeral) (defBody s_Fis_numeral) (defScope s_Fis_numeral) [] [] (He.ga K "is_numeral") fd
  d_BadPool_init : ∃ fd, FunD K "__init__" "BadPool.__init__" (defArgs s_BadPool_init) (defBody s_BadPool_init) (defScope s_BadPool_init) [] [] (He.ma K (He.ga K "BadPool") "__init__") fd
  d_Pool_init : ∃ fd, FunD K "__init__" "Pool.__init__" (defArgs s_Pool_init) (defBody s_Pool_init) (defScope s_Pool_init) [] [] (He.ma K (He.ga K "Pool") "__init__") fd
  d_Pool_ask : ∃ fd, FunD K "ask" "Pool.ask" (defArgs s_Pool_ask) (defBody s_Pool_ask) (defScope s_Pool_ask) [] [] (He.ma K (He.ga K "Pool") "ask") fd
  d_Pool_bid : ∃ fd, FunD K "bid" "Pool.bid" (defArgs s_Pool_bid) (defBody s_Pool_bid) (defScope s_Pool_bid) [] [] (He.ma K (He.ga K "Pool") "bid") fd
  d_Pool_sold : ∃ fd, FunD K "sold" "Pool.sold" (defArgs s_Pool_sold) (defBody s_Pool_sold) (defScope s_Pool_sold) [.int 1] [] (He.ma K (He.ga K "Pool") "sold") fd
  d_Pool_bought : ∃ fd, FunD K "bought" "Pool.bought" (defArgs s_Pool_bought) (defBody s_Pool_bought) (defScope s_Pool_bought) [.int 1] [] (He.ma K (He.ga K "Pool") "bought") fd
  d_Pool_asks : ∃ fd, FunD K "asks" "Pool.asks" (defArgs s_Pool_asks) (defBody s_Pool_asks) (defScope s_Pool_asks) [] [] (He.ma K (He.ga K "Pool") "asks") fd
  d_Pool_bids : ∃ fd, FunD K "bids" "Pool.bids" (defArgs s_Pool_bids) (defBody s_Pool_bids) (defScope s_Pool_bids) [] [] (He.ma K (He.ga K "Pool") "bids") fd
  d_Pool_joined : ∃ fd, FunD K "joined" "Pool.joined" (defArgs s_Pool_joined) (defBody s_Pool_joined) (defScope s_Pool_joined) [] [] (He.ma K (He.ga K "Pool") "joined") fd
  d_Pool_left : ∃ fd, FunD K "left" "Pool.left" (defArgs s_Pool_left) (defBody s_Pool_left) (defScope s_Pool_left) [] [] (He.ma K (He.ga K "Pool") "left") fd
  d_Pool_eq : ∃ fd, FunD K "__eq__" "Pool.__eq__" (defArgs s_Pool_eq) (defBody s_Pool_eq) (defScope s_Pool_eq) [] [] (He.ma K (He.ga K "Pool") "__eq__") fd
  d_Pool_str : ∃ fd, FunD K "__str__" "Pool.__str__" (defArgs s_Pool_str) (defBody s_Pool_str) (defScope s_Pool_str) [] [] (He.ma K (He.ga K "Pool") "__str__") fd
  d_Pool_read : ∃ fd, FunD K "read" "Pool.read" (defArgs s_Pool_read) (defBody s_Pool_read) (defScope s_Pool_read) [] [] (He5.wf K (He.ga K "Pool") "classmethod" "read") fd
  d_Fchanged_by : ∃ fd, FunD K "changed_by" "changed_by" (defArgs s_Fchanged_by) (defBody s_Fchanged_by) (defScope s_Fchanged_by) [] [] (He.ga K "changed_by") fd
  d_Fafter : ∃ fd, FunD K "after" "after" (defArgs s_Fafter) (defBody s_Fafter) (defScope s_Fafter) [] [] (He.ga K "after") fd
  d_Fcheck_count : ∃ fd, FunD K "check_count" "check_count" (defArgs s_Fcheck_count) (defBody s_Fcheck_count) (defScope s_Fcheck_count) [] [] (He.ga K "check_count") fd
  d_Fis_pool_numeral : ∃ fd, FunD K "is_pool_numeral" "is_pool_numeral" (defArgs s_Fis_pool_numeral) (defBody s_Fis_pool_numeral) (defScope s_Fis_pool_numeral) [] [] (He.ga K "is_pool_numeral") fd
  d_Llaw_start : ∃ fd, FunD K "_law_start" "_law_start" (defArgs s_Llaw_start) (defBody s_Llaw_start) (defScope s_Llaw_start) [] [] (He.ga K "_law_start") fd
  d_Llaw_draw : ∃ fd, FunD K "_law_draw" "_law_draw" (defArgs s_Llaw_draw) (defBody s_Llaw_draw) (defScope s_Llaw_draw) [] [] (He.ga K "_law_draw") fd
  d_Llaw_words : ∃ fd, FunD K "_law_words" "_law_words" (defArgs s_Llaw_words) (defBody s_Llaw_words) (defScope s_Llaw_words) [] [] (He.ga K "_law_words") fd
  d_Llaw_pool : ∃ fd, FunD K "_law_pool" "_law_pool" (defArgs s_Llaw_pool) (defBody s_Llaw_pool) (defScope s_Llaw_pool) [] [] (He.ga K "_law_pool") fd
  d_Llaw_is_word : ∃ fd, FunD K "_law_is_word" "_law_is_word" (defArgs s_Llaw_is_word) (defBody s_Llaw_is_word) (defScope s_Llaw_is_word) [] [] (He.ga K "_law_is_word") fd
  d_Llaw_parsed : ∃ fd, FunD K "_law_parsed" "_law_parsed" (defArgs s_Llaw_parsed) (defBody s_Llaw_parsed) (defScope s_Llaw_parsed) [] [] (He.ga K "_law_parsed") fd
  d_Llaw_read : ∃ fd, FunD K "_law_read" "_law_read" (defArgs s_Llaw_read) (defBody s_Llaw_read) (defScope s_Llaw_read) [] [] (He.ga K "_law_read") fd
  d_Llaw_spoilt : ∃ fd, FunD K "_law_spoilt" "_law_spoilt" (defArgs s_Llaw_spoilt) (defBody s_Llaw_spoilt) (defScope s_Llaw_spoilt) [] [] (He.ga K "_law_spoilt") fd
  d_Llaw_made : ∃ fd, FunD K "_law_made" "_law_made" (defArgs s_Llaw_made) (defBody s_Llaw_made) (defScope s_Llaw_made) [] [] (He.ga K "_law_made") fd
  d_Llaw_is_from : ∃ fd, FunD K "_law_is_from" "_law_is_from" (defArgs s_Llaw_is_from) (defBody s_Llaw_is_from) (defScope s_Llaw_is_from) [] [] (He.ga K "_law_is_from") fd
  d_Llaw_made_right : ∃ fd, FunD K "_law_made_right" "_law_made_right" (defArgs s_Llaw_made_right) (defBody s_Llaw_made_right) (defScope s_Llaw_made_right) [] [] (He.ga K "_law_made_right") fd
  d_Flaw : ∃ fd, FunD K "law" "law" (defArgs s_Flaw) (defBody s_Flaw) (defScope s_Flaw) [] [] (He.ga K "law") fd
theorem tx_of {K : PySem.W.Frag} {mg : Str → Option Value} {w : World} {h : Heap} (X : K.In h) (G : h.Ns mainGlobals mg) (y : SaysS fa fn ex K) : Tx K mg := by
  have c : He5.SaysA fa fn K := y.d
  have m : ex K = true := y.more
  obtain ⟨e0, m⟩ := Bool.and_eq_true_iff.mp m
  obtain ⟨e1, m⟩ := Bool.and_eq_true_iff.mp m
  obtain ⟨e2, m⟩ := Bool.and_eq_true_iff.mp m
  obtain ⟨e3, m⟩ := Bool.and_eq_true_iff.mp m
  obtain ⟨e4, m⟩ := Bool.and_eq_true_iff.mp m
  obtain ⟨e5, m⟩ := Bool.and_eq_true_iff.mp m
  obtain ⟨e6, m⟩ := Bool.and_eq_true_iff.mp m
  obtain ⟨e7, m⟩ := Bool.and_eq_true_iff.mp m
  obtain ⟨e8, m⟩ := Bool.and_eq_true_iff.mp m
  obtain ⟨e9, m⟩ := Bool.and_eq_true_iff.mp m
  obtain ⟨e10, m⟩ := Bool.and_eq_true_iff.mp m
  obtain ⟨e11, m⟩ := Bool.and_eq_true_iff.mp m
  obtain ⟨e12, m⟩ := Bool.and_eq_true_iff.mp m
  exact ⟨He.glo_ok X G (c.fact 0 (f := .glo "_wall") rfl),
    He.glo_ok X G (c.fact 1 (f := .glo "is_name") rfl),
    He.glo_ok X G (c.fact 2 (f := .glo "is_member") rfl),
    He.glo_ok X G (c.fact 3 (f := .glo "is_good") rfl),
    He.glo_ok X G (c.fact 4 (f := .glo "is_whole") rfl),
    He.glo_ok X G (c.fact 5 (f := .glo "is_count") rfl),
    He.glo_ok X G (c.fact 6 (f := .glo "is_numeral") rfl),
    He.glo_ok X G (c.fact 7 (f := .glo "changed_by") rfl),
    He.glo_ok X G (c.fact 8 (f := .glo "after") rfl),
    He.glo_ok X G (c.fact 9 (f := .glo "check_count") rfl),
    He.glo_ok X G (c.fact 10 (f := .glo "is_pool_numeral") rfl),
    He.glo_ok X G (c.fact 11 (f := .glo "_law_start") rfl),
    He.glo_ok X G (c.fact 12 (f := .glo "_law_draw") rfl),
    He.glo_ok X G (c.fact 13 (f := .glo "_law_words") rfl),
    He.glo_ok X G (c.fact 14 (f := .glo "_law_pool") rfl),
    He.glo_ok X G (c.fact 15 (f := .glo "_law_is_word") rfl),
    He.glo_ok X G (c.fact 16 (f := .glo "_law_parsed") rfl),
    He.glo_ok X G (c.fact 17 (f := .glo "_law_read") rfl),
    He.glo_ok X G (c.fact 18 (f := .glo "_law_spoilt") rfl),
    He.glo_ok X G (c.fact 19 (f := .glo "_law_made") rfl),
    He.glo_ok X G (c.fact 20 (f := .glo "_law_is_from") rfl),
    He.glo_ok X G (c.fact 21 (f := .glo "_law_made_right") rfl),
    He.glo_ok X G (c.fact 22 (f := .glo "law") rfl),
    He.glo_ok X G (c.fact 23 (f := .glo "MarketError") rfl),
    He.glo_ok X G (c.fact 24 (f := .glo "BadAmount") rfl),
    He.glo_ok X G (c.fact 25 (f := .glo "BadUnit") rfl),
    He.glo_ok X G (c.fact 26 (f := .glo "BadText") rfl),
    He.glo_ok X G (c.fact 27 (f := .glo "BadPool") rfl),
    He.glo_ok X G (c.fact 28 (f := .glo "NoUnit") rfl),
    He.glo_ok X G (c.fact 29 (f := .glo "Pool") rfl),
    He.free_ok X G (c.fact 30 (f := .free "abs") rfl),
    He.free_ok X G (c.fact 31 (f := .free "len") rfl),
    He.free_ok X G (c.fact 32 (f := .free "sum") rfl),
    He.free_ok X G (c.fact 33 (f := .free "all") rfl),
    He.free_ok X G (c.fact 34 (f := .free "isinstance") rfl),
    He.free_ok X G (c.fact 35 (f := .free "repr") rfl),
    He.free_ok X G (c.fact 36 (f := .free "range") rfl),
    He.free_ok X G (c.fact 37 (f := .free "int") rfl),
    He.free_ok X G (c.fact 38 (f := .free "str") rfl),
    He.free_ok X G (c.fact 39 (f := .free "bool") rfl),
    He.free_ok X G (c.fact 40 (f := .free "list") rfl),
    He.glo_ok X G (c.fact 41 (f := .glo "RESERVED") rfl),
    He.int_ok X G (c.fact 42 (f := .int "MOST_MONEY" 9999) rfl),
    He.int_ok X G (c.fact 43 (f := .int "MOST_STOCK" 99) rfl),
    He.int_ok X G (c.fact 44 (f := .int "MOST_DIGITS" 9) rfl),
    He.noat_ok (c.fact 45 (f := .noat "BadAmount" "given") rfl),
    He.noat_ok (c.fact 46 (f := .noat "BadUnit" "given") rfl),
    He.exc_ok (c.fact 47 (f := .exc "BadText") rfl),
    He.noat_ok (c.fact 48 (f := .noat "BadPool" "field") rfl),
    He.noat_ok (c.fact 49 (f := .noat "BadPool" "value") rfl),
    He.exc_ok (c.fact 50 (f := .exc "NoUnit") rfl),
    He.cls_ok (c.fact 51 (f := .cls "Pool") rfl),
    He.noat_ok (c.fact 52 (f := .noat "Pool" "money") rfl),
    He.noat_ok (c.fact 53 (f := .noat "Pool" "shares") rfl),
    He.noat_ok (c.fact 54 (f := .noat "Pool" "stock") rfl),
    He.noat_ok (c.fact 55 (f := .noat "Pool" "unit") rfl),
    He.meth_ok (c.fact 56 (f := .meth "Pool" "ask") rfl),
    He.meth_ok (c.fact 57 (f := .meth "Pool" "bid") rfl),
    He.meth_ok (c.fact 58 (f := .meth "Pool" "sold") rfl),
    He.meth_ok (c.fact 59 (f := .meth "Pool" "bought") rfl),
    He.meth_ok (c.fact 60 (f := .meth "Pool" "asks") rfl),
    He.meth_ok (c.fact 61 (f := .meth "Pool" "bids") rfl),
    He.meth_ok (c.fact 62 (f := .meth "Pool" "joined") rfl),
    He.meth_ok (c.fact 63 (f := .meth "Pool" "left") rfl),
    He.meth_ok (c.fact 64 (f := .meth "Pool" "__eq__") rfl),
    He.meth_ok (c.fact 65 (f := .meth "Pool" "__str__") rfl),
    He.mkr_ok (c.fact 66 (f := .mkr "Pool") rfl),
    He.exm_ok (c.fact 67 (f := .exm "BadAmount" "BadPool" false) rfl),
    He.exm_ok (c.fact 68 (f := .exm "BadAmount" "BadText" false) rfl),
    He.exm_ok (c.fact 69 (f := .exm "BadAmount" "BadUnit" false) rfl),
    He.exm_ok (c.fact 70 (f := .exm "BadAmount" "MarketError" true) rfl),
    He.exm_ok (c.fact 71 (f := .exm "BadPool" "BadPool" true) rfl),
    He.exm_ok (c.fact 72 (f := .exm "BadPool" "BadText" false) rfl),
    He.exm_ok (c.fact 73 (f := .exm "BadPool" "BadUnit" false) rfl),
    He.exm_ok (c.fact 74 (f := .exm "BadPool" "MarketError" true) rfl),
    He.exm_ok (c.fact 75 (f := .exm "BadText" "BadPool" false) rfl),
    He.exm_ok (c.fact 76 (f := .exm "BadText" "BadText" true) rfl),
    He.exm_ok (c.fact 77 (f := .exm "BadText" "BadUnit" false) rfl),
    He.exm_ok (c.fact 78 (f := .exm "BadText" "MarketError" true) rfl),
    He.exm_ok (c.fact 79 (f := .exm "BadUnit" "BadPool" false) rfl),
    He.exm_ok (c.fact 80 (f := .exm "BadUnit" "BadText" false) rfl),
    He.exm_ok (c.fact 81 (f := .exm "BadUnit" "BadUnit" true) rfl),
    He.exm_ok (c.fact 82 (f := .exm "BadUnit" "MarketError" true) rfl),
    He.exm_ok (c.fact 83 (f := .exm "NoUnit" "BadPool" false) rfl),
    He.exm_ok (c.fact 84 (f := .exm "NoUnit" "BadText" false) rfl),
    He.exm_ok (c.fact 85 (f := .exm "NoUnit" "BadUnit" false) rfl),
    He.exm_ok (c.fact 86 (f := .exm "NoUnit" "MarketError" true) rfl),
    tupB_ok e0,
    oexB_ok e1,
    (iniB_ok e2).1,
    (iniB_ok e2).2,
    xfB_ok e3,
    oexB_ok e4,
    (iniB_ok e5).1,
    (iniB_ok e5).2,
    xfB_ok e6,
    oexB_ok e7,
    (iniB_ok e8).1,
    (iniB_ok e8).2,
    xfB_ok e9,
    cmB_ok e10,
    eqB_ok (He.cls_ok (c.fact 51 (f := .cls "Pool") rfl)) e11,
    smB_ok e12,
    c.def_ 0 (d := dd_Fwall) rfl,
    c.def_ 1 (d := dd_BadAmount_init) rfl,
    c.def_ 2 (d := dd_BadUnit_init) rfl,
    c.def_ 3 (d := dd_Fis_name) rfl,
    c.def_ 4 (d := dd_Fis_member) rfl,
    c.def_ 5 (d := dd_Fis_good) rfl,
    c.def_ 6 (d := dd_Fis_whole) rfl,
    c.def_ 7 (d := dd_Fis_count) rfl,
    c.def_ 8 (d := dd_Fis_numeral) rfl,
    c.def_ 9 (d := dd_BadPool_init) rfl,
    c.def_ 10 (d := dd_Pool_init) rfl,
    c.def_ 11 (d := dd_Pool_ask) rfl,
    c.def_ 12 (d := dd_Pool_bid) rfl,
    c.def_ 13 (d := dd_Pool_sold) rfl,
    c.def_ 14 (d := dd_Pool_bought) rfl,
    c.def_ 15 (d := dd_Pool_asks) rfl,
    c.def_ 16 (d := dd_Pool_bids) rfl,
    c.def_ 17 (d := dd_Pool_joined) rfl,
    c.def_ 18 (d := dd_Pool_left) rfl,
    c.def_ 19 (d := dd_Pool_eq) rfl,
    c.def_ 20 (d := dd_Pool_str) rfl,
    c.def_ 21 (d := dd_Pool_read) rfl,
    c.def_ 22 (d := dd_Fchanged_by) rfl,
    c.def_ 23 (d := dd_Fafter) rfl,
    c.def_ 24 (d := dd_Fcheck_count) rfl,
    c.def_ 25 (d := dd_Fis_pool_numeral) rfl,
    c.def_ 26 (d := dd_Llaw_start) rfl,
    c.def_ 27 (d := dd_Llaw_draw) rfl,
    c.def_ 28 (d := dd_Llaw_words) rfl,
    c.def_ 29 (d := dd_Llaw_pool) rfl,
    c.def_ 30 (d := dd_Llaw_is_word) rfl,
    c.def_ 31 (d := dd_Llaw_parsed) rfl,
    c.def_ 32 (d := dd_Llaw_read) rfl,
    c.def_ 33 (d := dd_Llaw_spoilt) rfl,
    c.def_ 34 (d := dd_Llaw_made) rfl,
    c.def_ 35 (d := dd_Llaw_is_from) rfl,
    c.def_ 36 (d := dd_Llaw_made_right) rfl,
    c.def_ 37 (d := dd_Flaw) rfl⟩
end K24

namespace K24
open PySem PySem.Spec PyProof.Rows L2 DL
abbrev sg (x : Str) : List Nat := x.cps.toList
theorem sg_len (x : Str) : x.length = (sg x).length := TL.len_tl x
theorem sg_ext {x y : Str} (h : sg x = sg y) : x = y := TL.ext_tl h
theorem sg_app (x y : Str) : sg (x ++ y) = sg x ++ sg y := TL.tl_append x y
/-! ### names -/
def azB (x : Str) : Bool := (sg x).all fun c => decide (97 ≤ c ∧ c ≤ 122)
def nameB : D → Bool
  | .str x => decide (1 ≤ x.length ∧ x.length ≤ 8) && azB x
  | _ => false
def resB (d : D) : Bool := ([D.str "house", .str "outside", .str "money"]).any fun z => dEq z d
def goodB (d : D) : Bool := nameB d && !resB d
theorem resB_str (x : Str) : resB (.str x) = (decide (x = "house") || decide (x = "outside") || decide (x = "money")) := by
  have f : ∀ y : Str, dEq (.str y) (.str x) = decide (x = y) := fun y => by
    show (y == x) = _
    rw [Bool.eq_iff_iff]
    simp only [beq_iff_eq, decide_eq_true_eq]
    exact eq_comm
  show (dEq (.str "house") (.str x) || (dEq (.str "outside") (.str x) || (dEq (.str "money") (.str x) || false))) = _
  rw [f, f, f, Bool.or_false, Bool.or_assoc]
def goodS (x : Str) : Prop := 1 ≤ x.length ∧ x.length ≤ 8 ∧ (∀ c ∈ x.cps.toList, 97 ≤ c ∧ c ≤ 122) ∧ x ≠ "house" ∧ x ≠ "outside" ∧ x ≠ "money"
theorem good_iff {x : Str} : goodB (.str x) = true ↔ goodS x := by
  unfold goodB nameB azB goodS
  rw [resB_str]
  simp only [Bool.and_eq_true, decide_eq_true_eq, List.all_eq_true, Bool.not_eq_true', Bool.or_eq_false_iff, decide_eq_false_iff_not, and_assoc]
/-! ### texts -/
/-- a text of plain signs, not too long -/
def okT (n : Nat) (x : Str) : Prop := x.length ≤ n ∧ ∀ c ∈ sg x, c < 128
theorem okT.str {n : Nat} {x : Str} (h : okT n x) : PyData.strOk x = true := Array.all_eq_true_iff_forall_mem.mpr fun c hc => decide_eq_true (by have := h.2 c (Array.mem_toList_iff.mpr hc); omega)
theorem okT.up {n k : Nat} {x : Str} (h : okT n x) (l : n ≤ k) : okT k x := ⟨Nat.le_trans h.1 l, h.2⟩
theorem okT.app {n k : Nat} {x y : Str} (h : okT n x) (g : okT k y) : okT (n + k) (x ++ y) := by
  refine ⟨by rw [sg_len, sg_app, List.length_append, ← sg_len, ← sg_len]; exact Nat.add_le_add h.1 g.1, fun c hc => ?_⟩
  rw [sg_app] at hc
  exact (List.mem_append.mp hc).elim (h.2 c) (g.2 c)
theorem okT.cut {n : Nat} {x : Str} (h : okT n x) (lo hi : Option Int) : okT n (cutS x lo hi) := by
  refine ⟨Nat.le_trans (cutS_length x lo hi) h.1, fun c hc => h.2 c ?_⟩
  unfold cutS at hc
  exact List.mem_of_mem_drop (List.mem_of_mem_take hc)
section
variable {K : PySem.W.Frag} {k : D → Prop} {a b : Str}
theorem eqv_str (ha : PyData.strOk a = true) : PyData.eqv (.str a) (.str b) = decide (a = b) := by
  show (a == b) = _
  rw [Bool.eq_iff_iff]
  simp
theorem shp_str (ha : PyData.strOk a = true) : SeqAt.shaped (.str a) = true := by
  unfold SeqAt.shaped
  rw [show PyData.canLay0 (.str a) = true from ha]
  rfl
theorem rd_eqS (ha : PyData.strOk a = true) (hb : PyData.strOk b = true) (p : k (.bl (decide (a = b)))) : RD K (rEqD K) (.str a) (.str b) k := rd_eqD rfl rfl (shp_str ha) (shp_str hb) (by rw [eqv_str ha]; exact p)
theorem rd_neS (ha : PyData.strOk a = true) (hb : PyData.strOk b = true) (p : k (.bl (!decide (a = b)))) : RD K (rNeD K) (.str a) (.str b) k := rd_neD rfl rfl (shp_str ha) (shp_str hb) (by rw [eqv_str ha]; exact p)
theorem rd_inS {c : Nat} {z : Str} (p : k (.bl (decide (c ∈ z.cps.toList)))) : RD K (gIn K) (.str ⟨#[c]⟩) (.str z) k := RD.r (rd_val _ (fun _ => .bl _) p fun w v u Q s rx ry q => by
  obtain rfl := rx.str_inv
  obtain rfl := ry.str_inv
  exact ⟨c, z, rfl, rfl, q⟩)
theorem rd_niS {c : Nat} {z : Str} (p : k (.bl (!decide (c ∈ z.cps.toList)))) : RD K (gNi K) (.str ⟨#[c]⟩) (.str z) k := RD.r (rd_val _ (fun _ => .bl _) p fun w v u Q s rx ry q => by
  obtain rfl := rx.str_inv
  obtain rfl := ry.str_inv
  exact ⟨c, z, rfl, rfl, q⟩)
end
theorem mem_az (c : Nat) : c ∈ ("abcdefghijklmnopqrstuvwxyz" : Str).cps.toList ↔ 97 ≤ c ∧ c ≤ 122 := by
  rw [show ("abcdefghijklmnopqrstuvwxyz" : Str).cps.toList = [97, 98, 99, 100, 101, 102, 103, 104, 105, 106, 107, 108, 109, 110, 111, 112, 113, 114, 115, 116, 117, 118, 119, 120, 121, 122] by decide +kernel]
  simp only [List.mem_cons, List.not_mem_nil, or_false]
  omega
theorem mem_dg (c : Nat) : c ∈ ("0123456789" : Str).cps.toList ↔ 48 ≤ c ∧ c ≤ 57 := by
  rw [show ("0123456789" : Str).cps.toList = [48, 49, 50, 51, 52, 53, 54, 55, 56, 57] by decide +kernel]
  simp only [List.mem_cons, List.not_mem_nil, or_false]
  omega
/-! ### numerals -/
def dgB (l : List Nat) : Bool := l.all fun c => decide (48 ≤ c ∧ c ≤ 57)
def numB (w : Str) : Bool := !decide (sg w = []) && (dgB (sg w) && (decide (sg w = [48]) || !decide ((sg w).head? = some 48)))
def pnumB (w : Str) : Bool := !decide (sg w = []) && (dgB (sg w) && (!decide ((sg w).head? = some 48) && decide (w.length ≤ 9)))
def valS (w : Str) : Int := ((NumText.digitsVal (sg w) : Nat) : Int)
theorem pnum_and (w : Str) : (numB w && (!decide (w = "0") && decide (w.length ≤ 9))) = pnumB w := by
  have z : (w = "0") ↔ sg w = [48] := ⟨fun h => by rw [h]; decide +kernel, fun h => sg_ext (by rw [h]; decide +kernel)⟩
  unfold numB pnumB
  rw [Bool.eq_iff_iff]
  simp only [Bool.and_eq_true, Bool.or_eq_true, Bool.not_eq_true', decide_eq_false_iff_not, decide_eq_true_eq, z]
  constructor
  · rintro ⟨⟨h1, h2, h3⟩, h4, h5⟩
    exact ⟨h1, h2, h3.resolve_left h4, h5⟩
  · rintro ⟨h1, h2, h3, h4⟩
    exact ⟨⟨h1, h2, .inr h3⟩, fun e => h3 (by rw [e]; rfl), h4⟩
theorem pnum_int {w : Str} (h : pnumB w = true) : PySem.intText? w = some (valS w) ∧ w.length ≤ 9 := by
  unfold pnumB at h
  simp only [Bool.and_eq_true, Bool.not_eq_true', decide_eq_false_iff_not, decide_eq_true_eq] at h
  obtain ⟨h1, h2, h3, h4⟩ := h
  refine ⟨intText_digits (fun c hc => ?_) h1 (by omega), h4⟩
  have := List.all_eq_true.mp h2 c hc
  simpa using this
theorem numL_head {n : Nat} (h : 1 ≤ n) : (TL.numL n).head? ≠ some 48 := by
  induction (n) using Nat.strongRecOn with
  | _ n ih =>
    by_cases l : n < 10
    · rw [TL.numL_lt l]
      intro e
      have := Option.some.inj (show some (48 + n) = some 48 from e)
      omega
    · rw [TL.numL_step (by omega)]
      intro e
      refine ih (n / 10) (by omega) (by omega) ?_
      cases q : TL.numL (n / 10) with
      | nil => exact absurd q (TL.numL_ne _)
      | cons a r =>
        rw [q] at e
        exact e
theorem sg_num {i : Int} (h : 0 ≤ i) : sg (Str.ofString (toString i)) = TL.numL i.toNat := by
  obtain ⟨n, rfl⟩ : ∃ n : Nat, i = (n : Int) := ⟨i.toNat, by omega⟩
  exact TL.tl_num n
theorem pnum_num {i : Int} (h1 : 1 ≤ i) (h2 : i < 10 ^ 9) : pnumB (Str.ofString (toString i)) = true ∧ valS (Str.ofString (toString i)) = i := by
  have e := sg_num (i := i) (by omega)
  have l : (Str.ofString (toString i)).length ≤ 9 := by
    rw [sg_len, e]
    exact TL.numL_len (by decide) (by omega)
  refine ⟨?_, ?_⟩
  · unfold pnumB
    rw [e]
    simp only [Bool.and_eq_true, Bool.not_eq_true', decide_eq_false_iff_not, decide_eq_true_eq]
    refine ⟨TL.numL_ne _, List.all_eq_true.mpr fun c hc => ?_, numL_head (by omega), l⟩
    have := TL.numL_digits _ c hc
    simpa using this
  · unfold valS
    rw [e, TL.numL_val]
    omega
theorem okT_num {i : Int} (h1 : 0 ≤ i) (h2 : i < 10 ^ 9) : okT 9 (Str.ofString (toString i)) := by
  have e := sg_num h1
  refine ⟨by rw [sg_len, e]; exact TL.numL_len (by decide) (by omega), fun c hc => ?_⟩
  rw [e] at hc
  have := TL.numL_digits _ c hc
  omega
/-! ### words of a text -/
theorem sp1 : sg (" " : Str) = [32] := by decide +kernel
theorem sp_kind : (" " : Str).cps.all (· < 256) = true := by decide +kernel
theorem sp_ne : ((" " : Str).length == 0) = false := by decide +kernel
theorem split_sg (x : Str) : (Txt.split x " ").map sg = TL.spl [32] 0 [] (sg x) := by
  have h := TL.split_spl x " " (by rw [show TL.tl " " = [32] from sp1]; simp) (TL.kind_ok sp_kind)
  rw [show TL.tl " " = [32] from sp1] at h
  exact h
theorem spl_sum : ∀ (l acc : List Nat), ((TL.spl [32] 0 acc l).map List.length).sum + (TL.spl [32] 0 acc l).length = acc.length + l.length + 1 ∧ ∀ p ∈ TL.spl [32] 0 acc l, ∀ c ∈ p, c ∈ acc ∨ c ∈ l := by
  intro l
  induction l with
  | nil =>
    intro acc
    rw [TL.spl_nil]
    exact ⟨by simp, fun p hp c hc => .inl (by rw [List.mem_singleton.mp hp] at hc; exact hc)⟩
  | cons c r ih =>
    intro acc
    cases h : TL.pre [32] (c :: r) with
    | true =>
      rw [TL.spl_hit h]
      obtain ⟨i1, i2⟩ := ih []
      refine ⟨?_, fun p hp x hx => ?_⟩
      · simp only [List.length_cons, List.map_cons, List.sum_cons, List.length_nil] at i1 ⊢
        have e : ([32] : List Nat).length - 1 = 0 := rfl
        simp only [List.length_cons, List.length_nil, Nat.zero_add, Nat.sub_self] at *
        omega
      · rcases List.mem_cons.mp hp with e | e
        · rw [e] at hx
          exact .inl hx
        · rcases i2 p e x hx with z | z
          · cases z
          · exact .inr (List.mem_cons_of_mem _ z)
    | false =>
      rw [TL.spl_miss h]
      obtain ⟨i1, i2⟩ := ih (acc ++ [c])
      refine ⟨?_, fun p hp x hx => ?_⟩
      · rw [List.length_append] at i1
        simp only [List.length_cons, List.length_nil] at i1 ⊢
        omega
      · rcases i2 p hp x hx with z | z
        · rcases List.mem_append.mp z with z | z
          · exact .inl z
          · rw [(List.mem_singleton.mp z)]
            exact .inr List.mem_cons_self
        · exact .inr (List.mem_cons_of_mem _ z)
theorem le_sum : ∀ {l : List Nat} {x : Nat}, x ∈ l → x ≤ l.sum
  | a :: r, x, h => by
    rw [List.sum_cons]
    rcases List.mem_cons.mp h with h | h
    · omega
    · have := le_sum h
      omega
theorem split_ok {n : Nat} {x : Str} (h : okT n x) : ((Txt.split x " ").map (·.length)).sum + (Txt.split x " ").length = x.length + 1 ∧ 1 ≤ (Txt.split x " ").length ∧ ∀ w ∈ Txt.split x " ", okT n w := by
  have e := split_sg x
  obtain ⟨i1, i2⟩ := spl_sum (sg x) []
  rw [← e] at i1 i2
  rw [List.map_map, List.length_map] at i1
  have e2 : (List.length ∘ sg) = fun w : Str => w.length := funext fun w => (sg_len w).symm
  rw [e2] at i1
  have i1 : ((Txt.split x " ").map (·.length)).sum + (Txt.split x " ").length = x.length + 1 := by
    rw [sg_len x]
    simpa using i1
  refine ⟨i1, Nat.pos_of_ne_zero fun z => ?_, fun w hw => ⟨?_, fun c hc => ?_⟩⟩
  · have q : Txt.split x " " = [] := List.eq_nil_of_length_eq_zero z
    rw [q] at i1
    simp at i1
  · have l : w.length ≤ ((Txt.split x " ").map (·.length)).sum := le_sum (List.mem_map_of_mem hw)
    have p : 1 ≤ (Txt.split x " ").length := List.length_pos_of_mem hw
    have := h.1
    omega
  · rcases i2 (sg w) (List.mem_map_of_mem hw) c hc with z | z
    · cases z
    · exact h.2 c z
/-- what the text of a pool says -/
def wordsD (x : Str) : D := match Txt.split x " " with
  | [p, u, a, b, c] => if (decide (p = "pool") && (goodB (.str u) && (pnumB a && (pnumB b && pnumB c)))) = true then .tup [.str u, .int (valS a), .int (valS b), .int (valS c)] else .non
  | _ => .non
def parseD : D → D
  | .str x => wordsD x
  | _ => .non
def poolT (u : Str) (m s h : Int) : Str := "pool " ++ u ++ " " ++ Str.ofString (toString m) ++ " " ++ Str.ofString (toString s) ++ " " ++ Str.ofString (toString h)
theorem pool_words {u : Str} {m s h : Int} (g : goodS u) (m1 : 1 ≤ m) (m2 : m < 10 ^ 9) (s1 : 1 ≤ s) (s2 : s < 10 ^ 9) (h1 : 1 ≤ h) (h2 : h < 10 ^ 9) : wordsD (poolT u m s h) = .tup [.str u, .int m, .int s, .int h] := by
  have sp : Txt.split (poolT u m s h) " " = [("pool" : Str), u, Str.ofString (toString m), Str.ofString (toString s), Str.ofString (toString h)] := by
    have j : poolT u m s h = Txt.join " " [("pool" : Str), u, Str.ofString (toString m), Str.ofString (toString s), Str.ofString (toString h)] := by
      refine sg_ext ?_
      rw [TL.join_eq, show sg (Str.join " " _) = TL.tl (Str.join " " _) from rfl, TL.tl_join]
      unfold poolT
      simp only [sg_app, List.map_cons, List.map_nil, TL.joinL, show TL.tl (" " : Str) = [32] from sp1, sp1, show sg ("pool " : Str) = [112, 111, 111, 108, 32] by decide +kernel, show TL.tl ("pool" : Str) = [112, 111, 111, 108] by decide +kernel]
      simp [sg, TL.tl]
    rw [j]
    refine TL.split_join (s := 32) (S := []) sp1 sp_kind (by simp) fun p hp => ?_
    have nm : ∀ i : Int, 1 ≤ i → 32 ∉ TL.tl (Str.ofString (toString i)) := fun i hi => by
      rw [show TL.tl (Str.ofString (toString i)) = TL.numL i.toNat from sg_num (by omega)]
      exact TL.numL_free (by omega)
    simp only [List.mem_cons, List.not_mem_nil, or_false] at hp
    rcases hp with rfl | rfl | rfl | rfl | rfl
    · decide +kernel
    · intro z
      have := (g.2.2.1 32 z).1
      omega
    · exact nm m m1
    · exact nm s s1
    · exact nm h h1
  unfold wordsD
  rw [sp]
  show (if (decide (("pool" : Str) = "pool") && _) = true then _ else _) = _
  obtain ⟨a1, a2⟩ := pnum_num m1 m2
  obtain ⟨b1, b2⟩ := pnum_num s1 s2
  obtain ⟨c1, c2⟩ := pnum_num h1 h2
  rw [good_iff.mpr g, a1, b1, c1, a2, b2, c2]
  rw [if_pos (by decide)]
end K24

namespace K24
open PySem PySem.Spec PyProof.Rows L2 DL
variable {prg : Program} {wd : World} {K : PySem.W.Frag} {mg : Str → Option Value} {bs : Heap}
theorem nlt1 {c d : Nat} (h : d ≤ c) : ¬ (([c] : List Nat) < [d]) := by
  intro z
  rw [List.cons_lt_cons_iff] at z
  rcases z with z | ⟨_, z⟩
  · omega
  · exact absurd z (List.lt_irrefl _)
local macro_rules | `(tactic| walk_at "px") => `(tactic| first | exact List.not_mem_nil | (show _ ∉ ([0] : List Nat); decide) | (show _ ∉ ([] : List Nat); decide) | fail)
local macro_rules | `(tactic| walk_at "s") => `(tactic| with_reducible first
  | refine ws_seq ?_ | refine ws_if ?_ | refine ws_next ?_ | refine ws_ret ?_ | refine ws_retN ?_ | refine ws_asg (by walk_at "px") ?_ | refine ws_par (by walk_at "px") (by walk_at "px") ?_
  | refine w_var (by with_unfolding_all rfl) ?_ | refine w_int ?_ | refine w_bl ?_ | refine w_non ?_ | refine w_str ?_ | refine w_dnew ?_ | refine w_ty ?_
  | refine w_op ?_ | refine w_un ?_ | refine w_fld ?_ | refine w_xf ?_ | refine wt_test ?_ | refine wt_B ?_ | refine wt_yes ?_ | refine wt_and ?_ | refine wt_or ?_ | refine wt_not ?_ | refine w_andV ?_ | refine w_orV ?_ | refine w_notV ?_ | refine w_ifE ?_ | refine w_chain ?_
  | refine wa_nil ?_ | refine wa_cons ?_ | refine w_tup ?_ | refine w_lst ?_ | refine w_slice ?_ | refine wp_no ?_ | refine wp_int ?_
  | refine w_cd repL_nil ?_ | refine w_md repL_nil ?_ | refine w_mk repL_nil ?_ | refine w_co repL_nil ⟨_, by with_unfolding_all rfl⟩ ?_ | refine w_lenO (by with_unfolding_all rfl) ?_ | refine w_call ?_
  | refine rd_add ?_ | refine rd_sub ?_ | refine rd_lt ?_ | refine rd_le ?_ | refine rd_gt ?_ | refine rd_ge ?_ | refine rd_ltS ?_ | refine rd_leS ?_ | refine rd_gtS ?_ | refine rd_geS ?_ | refine rd_isN ?_ | refine rd_notN ?_ | refine rd_eqI ?_ | refine rd_neI ?_
  | refine wg_tup rfl ?_ | refine wgs_cons ?_ | refine wg_name (by walk_at "px") (by simp) ?_ | refine wgs_nil ?_
  | refine ru_neg ?_ | refine ⟨(by show List.length _ ≤ 100000; simp), ?_⟩
  | refine rc_abs ?_ | refine rc_int1 ?_ | refine rc_min2 ?_ | refine rc_max2 ?_
  | refine ⟨_, rfl, ?_⟩ | fail)
local macro_rules | `(tactic| walk_at "go") => `(tactic| repeat' walk_at "s")

theorem sc_BadAmount_init : FnScope ["self", "given"] ["self", "given"] (defScope s_BadAmount_init) := ⟨rfl, rfl, rfl, by decide +kernel, rfl, by decide +kernel, by decide +kernel⟩
theorem ok_BadAmount_init (T : Tx K mg) : ∃ fd, FnOk prg wd K mg bs (L2.CX prg wd) 1 (He.ma K (He.ga K "BadAmount") "__init__") fd ["self", "given"] (spIni K ["given"]) ∧ L2.Binds K fd ["self", "given"] [] := by
  obtain ⟨fd, F0⟩ := T.d_BadAmount_init
  refine ⟨fd, F0.ok sc_BadAmount_init (fun vs H Q E h => ?_) (fun cdv A outer s H vs Q E hr h => ?_), F0.bindsN fun _ _ _ _ _ _ us hl => match us, hl with | [_, _], _ => rfl⟩
  · obtain ⟨a, C, y, rfl, _⟩ := h
    rfl
  · refine ⟨_, PSs.nox (pss_one (ps_ost (f := "given") (pv 0) (pv 1))), ?_⟩
    obtain ⟨a, C, y, rfl, oc, no, hH, q⟩ := h
    exact ⟨_, rfl, _, rfl, a, C, rfl, oc, no, .inl ⟨hH, q⟩⟩
theorem sc_BadUnit_init : FnScope ["self", "given"] ["self", "given"] (defScope s_BadUnit_init) := ⟨rfl, rfl, rfl, by decide +kernel, rfl, by decide +kernel, by decide +kernel⟩
theorem ok_BadUnit_init (T : Tx K mg) : ∃ fd, FnOk prg wd K mg bs (L2.CX prg wd) 1 (He.ma K (He.ga K "BadUnit") "__init__") fd ["self", "given"] (spIni K ["given"]) ∧ L2.Binds K fd ["self", "given"] [] := by
  obtain ⟨fd, F0⟩ := T.d_BadUnit_init
  refine ⟨fd, F0.ok sc_BadUnit_init (fun vs H Q E h => ?_) (fun cdv A outer s H vs Q E hr h => ?_), F0.bindsN fun _ _ _ _ _ _ us hl => match us, hl with | [_, _], _ => rfl⟩
  · obtain ⟨a, C, y, rfl, _⟩ := h
    rfl
  · refine ⟨_, PSs.nox (pss_one (ps_ost (f := "given") (pv 0) (pv 1))), ?_⟩
    obtain ⟨a, C, y, rfl, oc, no, hH, q⟩ := h
    exact ⟨_, rfl, _, rfl, a, C, rfl, oc, no, .inl ⟨hH, q⟩⟩
theorem sc_BadPool_init : FnScope ["self", "field", "value"] ["self", "field", "value"] (defScope s_BadPool_init) := ⟨rfl, rfl, rfl, by decide +kernel, rfl, by decide +kernel, by decide +kernel⟩
theorem ok_BadPool_init (T : Tx K mg) : ∃ fd, FnOk prg wd K mg bs (L2.CX prg wd) 1 (He.ma K (He.ga K "BadPool") "__init__") fd ["self", "field", "value"] (spIni K ["field", "value"]) ∧ L2.Binds K fd ["self", "field", "value"] [] := by
  obtain ⟨fd, F0⟩ := T.d_BadPool_init
  refine ⟨fd, F0.ok sc_BadPool_init (fun vs H Q E h => ?_) (fun cdv A outer s H vs Q E hr h => ?_), F0.bindsN fun _ _ _ _ _ _ us hl => match us, hl with | [_, _, _], _ => rfl⟩
  · obtain ⟨a, C, y, z, rfl, _⟩ := h
    rfl
  · refine ⟨_, PSs.nox (pss_cons (ps_ost (f := "field") (pv 0) (pv 1)) (pss_one (ps_ost (f := "value") (pv 0) (pv 2)))), ?_⟩
    obtain ⟨a, C, y, z, rfl, oc, no, no2, hH, q⟩ := h
    refine ⟨_, rfl, _, rfl, a, C, rfl, oc, no, .inl ⟨hH, fun dx n ne => ⟨_, rfl, _, rfl, a, C, rfl, oc, no2, .inr ⟨dx, [("field", y)], upd_same, ?_, ?_, ?_⟩⟩⟩⟩
    · rw [upd_ne ne]
      exact upd_same
    · show 1 ≤ 900
      decide
    · exact q dx n ne
/-- a value of a built-in kind -/
def wholeD : D → Bool
  | .int _ => true
  | _ => false
def c_Fis_whole : CD := ⟨fun ds k => ∃ v m, ds = [v] ∧ TyB v m ∧ k (.ret (.sh (.bl (wholeD v)))), by
  rintro ds k k' h ⟨v, m, e, t, q⟩
  exact ⟨v, m, e, t, h _ q⟩⟩
theorem sc_Fis_whole : FnScope ["value"] ["value"] (defScope s_Fis_whole) := ⟨rfl, rfl, rfl, by decide +kernel, rfl, by decide +kernel, by decide +kernel⟩
theorem ok_Fis_whole (T : Tx K mg) : ∃ fd, DC.FnG prg wd K mg bs (L2.CX prg wd) 1 (He.ga K "is_whole") fd ["value"] (toSp K 1 c_Fis_whole.con) ∧ L2.Binds K fd ["value"] [] ∧ PySem.W.keepIn K (.ref (He.ga K "is_whole")) = true := by
  obtain ⟨fd, F0⟩ := T.d_Fis_whole
  refine ⟨fd, def_D (N := ["value"]) F0 sc_Fis_whole rfl ?_, F0.bindsN fun _ _ _ _ _ _ us hl => match us, hl with | [_], _ => rfl, F0.kp⟩
  intro cdv A fr s H E ds kk gd room hc hl
  have hu := room.units
  have hu7 := room70 room
  have sc := sc_Fis_whole
  refine ⟨_, (pss_one (ps_ret (pe_and (pe_callB call_isi (by rfl) T.n_isinstance (by decide +kernel) (pa_cons (pv 0) (pa_cons (pe_bltn (by rfl) T.n_int (by decide +kernel) (show RelV (.ty "int") (.type "int") from rfl)) pa_nil))) (pe_one (pe_not (pe_callB call_isi (by rfl) T.n_isinstance (by decide +kernel) (pa_cons (pv 0) (pa_cons (pe_bltn (by rfl) T.n_bool (by decide +kernel) (show RelV (.ty "bool") (.type "bool") from rfl)) pa_nil)))))))), ?_⟩
  try dsimp only [L2.cxOf]
  obtain ⟨v, m, rfl, ty, q⟩ := hc
  walk_at "go"
  refine rc_isInt ⟨m, ty⟩ ?_
  walk_at "go"
  refine if_b (fun h => ?_) (fun h => ?_)
  · walk_at "go"
    refine rc_isBool ⟨m, ty⟩ ?_
    refine ⟨_, rfl, ?_⟩
    cases ty <;> first | exact q | cases h
  · cases ty <;> first | exact q | cases h
def countD : D → Bool
  | .int i => decide (0 ≤ i)
  | _ => false
def c_Fis_count : CD := ⟨fun ds k => ∃ v m, ds = [v] ∧ TyB v m ∧ k (.ret (.sh (.bl (countD v)))), by
  rintro ds k k' h ⟨v, m, e, t, q⟩
  exact ⟨v, m, e, t, h _ q⟩⟩
theorem sc_Fis_count : FnScope ["value"] ["value"] (defScope s_Fis_count) := ⟨rfl, rfl, rfl, by decide +kernel, rfl, by decide +kernel, by decide +kernel⟩
theorem ok_Fis_count (T : Tx K mg) : ∃ fd, DC.FnG prg wd K mg bs (L2.CX prg wd) 2 (He.ga K "is_count") fd ["value"] (toSp K 1 c_Fis_count.con) ∧ L2.Binds K fd ["value"] [] ∧ PySem.W.keepIn K (.ref (He.ga K "is_count")) = true := by
  obtain ⟨fd, F0⟩ := T.d_Fis_count
  obtain ⟨_, F_Fis_whole, b_Fis_whole, k_Fis_whole⟩ := ok_Fis_whole (prg := prg) (wd := wd) (bs := bs) T
  refine ⟨fd, def_D (N := ["value"]) F0 sc_Fis_count rfl ?_, F0.bindsN fun _ _ _ _ _ _ us hl => match us, hl with | [_], _ => rfl, F0.kp⟩
  intro cdv A fr s H E ds kk gd room hc hl
  have hu := room.units
  have hu7 := room70 room
  have sc := sc_Fis_count
  refine ⟨_, (pss_one (ps_ret (pe_and (DC.pe_callG F_Fis_whole gd (room.mono (by decide)) (by rfl) T.g_is_whole k_Fis_whole b_Fis_whole .nil (fun σ => passAt (takes_of rfl rfl rfl rfl) σ) (pa_cons (pv 0) pa_nil)) (pe_one (pe_cmpR o_ge (pv 0) pe_int (nomark _)))))), ?_⟩
  try dsimp only [L2.cxOf]
  obtain ⟨v, m, rfl, ty, q⟩ := hc
  walk_at "go"
  refine ⟨rfl, v, m, rfl, ty, _, .sh _, _, rfl, ?_⟩
  refine if_b (fun h => ?_) (fun h => ?_)
  · cases ty <;> first | cases h | skip
    walk_at "go"
    exact q
  · cases ty <;> first | exact q | cases h
def c_Fcheck_count : CD := ⟨fun ds k => ∃ v m, ds = [v] ∧ TyB v m ∧ if countD v = true then k (.ret (.sh .non)) else k (.err "BadAmount" [("given", v)]), by
  rintro ds k k' h ⟨v, m, e, t, q⟩
  refine ⟨v, m, e, t, ?_⟩
  by_cases c : countD v = true
  · rw [if_pos c] at q ⊢
    exact h _ q
  · rw [if_neg c] at q ⊢
    exact h _ q⟩
theorem sc_Fcheck_count : FnScope ["count"] ["count"] (defScope s_Fcheck_count) := ⟨rfl, rfl, rfl, by decide +kernel, rfl, by decide +kernel, by decide +kernel⟩
theorem ok_Fcheck_count (T : Tx K mg) : ∃ fd, DC.FnG prg wd K mg bs (L2.CX prg wd) 3 (He.ga K "check_count") fd ["count"] (toSp K 1 c_Fcheck_count.con) ∧ L2.Binds K fd ["count"] [] ∧ PySem.W.keepIn K (.ref (He.ga K "check_count")) = true := by
  obtain ⟨fd, F0⟩ := T.d_Fcheck_count
  obtain ⟨_, F_Fis_count, b_Fis_count, k_Fis_count⟩ := ok_Fis_count (prg := prg) (wd := wd) (bs := bs) T
  obtain ⟨_, F_BadAmount_init, b_BadAmount_init⟩ := ok_BadAmount_init (prg := prg) (wd := wd) (bs := bs) T
  refine ⟨fd, def_D (N := ["count"]) F0 sc_Fcheck_count rfl ?_, F0.bindsN fun _ _ _ _ _ _ us hl => match us, hl with | [_], _ => rfl, F0.kp⟩
  intro cdv A fr s H E ds kk gd room hc hl
  have hu := room.units
  have hu7 := room70 room
  have sc := sc_Fcheck_count
  refine ⟨_, (pss_one (ps_if (pt_not (pt_val (DC.pe_callG F_Fis_count gd (room.mono (by decide)) (by rfl) T.g_is_count k_Fis_count b_Fis_count .nil (fun σ => passAt (takes_of rfl rfl rfl rfl) σ) (pa_cons (pv 0) pa_nil)))) (pss_one (ps_raise rfl (takes_of rfl rfl rfl rfl) (pmk_oex T.o_BadAmount T.i_BadAmount T.t_BadAmount F_BadAmount_init (room.mono (by decide)) b_BadAmount_init .nil passL (by rfl) T.g_BadAmount (pa_cons (pv 0) pa_nil)))) pss_nil)), ?_⟩
  try dsimp only [L2.cxOf]
  obtain ⟨v, m, rfl, ty, q⟩ := hc
  walk_at "go"
  refine ⟨rfl, v, m, rfl, ty, _, .sh _, _, rfl, ?_⟩
  refine if_nb (fun h => ?_) (fun h => ?_)
  · rw [if_neg (by rw [h]; decide)] at q
    refine ws_raise1 (c := "BadAmount") (f := "given") ?_
    walk_at "go"
    exact ⟨rfl, T.o_BadAmount, T.no_BadAmount_given, q⟩
  · rw [if_pos h] at q
    walk_at "go"
    exact q
def smallD : D → Prop
  | .str x => x.length ≤ 20000
  | _ => True
def c_Fis_name : CD := ⟨fun ds k => ∃ v t, ds = [v] ∧ TyB v t ∧ smallD v ∧ k (.ret (.sh (.bl (nameB v)))), by
  rintro ds k k' h ⟨v, t, e, ty, s, q⟩
  exact ⟨v, t, e, ty, s, h _ q⟩⟩
theorem lt1 (c d : Nat) : decide ((([c] : List Nat)) < [d]) = decide (c < d) := by
  rw [Bool.eq_iff_iff]
  simp only [decide_eq_true_eq, List.cons_lt_cons_iff, List.lt_irrefl, and_false, or_false]
theorem sc_Fis_name : FnScope ["value", "sign"] ["value"] (defScope s_Fis_name) := ⟨rfl, rfl, rfl, by decide +kernel, rfl, by decide +kernel, by decide +kernel⟩
theorem ok_Fis_name (T : Tx K mg) : ∃ fd, DC.FnG prg wd K mg bs (L2.CX prg wd) 1 (He.ga K "is_name") fd ["value"] (toSp K 1 c_Fis_name.con) ∧ L2.Binds K fd ["value"] [] ∧ PySem.W.keepIn K (.ref (He.ga K "is_name")) = true := by
  obtain ⟨fd, F0⟩ := T.d_Fis_name
  refine ⟨fd, def_D (N := ["value", "sign"]) F0 sc_Fis_name rfl ?_, F0.bindsN fun _ _ _ _ _ _ us hl => match us, hl with | [_], _ => rfl, F0.kp⟩
  intro cdv A fr s H E ds kk gd room hc hl
  have hu := room.units
  have hu7 := room70 room
  have sc := sc_Fis_name
  refine ⟨_, (pss_one (ps_ret (pe_and (pe_callB call_isi (by rfl) T.n_isinstance (by decide +kernel) (pa_cons (pv 0) (pa_cons (pe_bltn (by rfl) T.n_str (by decide +kernel) (show RelV (.ty "str") (.type "str") from rfl)) pa_nil))) (pe_and (pe_chain o_le o_le pe_int (pe_callB call_len (by rfl) T.n_len (by decide +kernel) (pa_cons (pv 0) pa_nil)) pe_int) (pe_one (pe_callB (cr_all rfl) (by rfl) T.n_all (by decide +kernel) (pa_cons (pe_lc (own := [("sign", 1)]) (g := (gName 1)) (tt := tYes) (by rfl) sc.nd (pi_str (pv 0)) (blkOk_by (own := [("sign", 1)]) (N := ["value", "sign"]) (sc := defScope s_Fis_name) (by decide +kernel)) (fun _ _ _ _ _ => (pg_name (i := 1) sc.nd rfl (Or.inl rfl))) (fun _ _ _ _ _ => pts_nil) (fun _ _ _ _ _ => (pe_chain o_le o_le pe_str (pv 1) pe_str))) pa_nil))))))), ?_⟩
  try dsimp only [L2.cxOf]
  obtain ⟨v, t, rfl, ty, sm, q⟩ := hc
  walk_at "go"
  refine rc_isStr ⟨t, ty⟩ ?_
  refine ⟨_, rfl, ?_⟩
  refine if_b (fun z => ?_) (fun z => ?_)
  rotate_left
  · have e : nameB v = false := by cases ty <;> first | rfl | cases z
    rw [e] at q
    exact q
  obtain ⟨x, rfl⟩ : ∃ x, v = .str x := by cases ty <;> first | exact ⟨_, rfl⟩ | cases z
  have sm : x.length ≤ 20000 := sm
  have en : nameB (.str x) = (decide (1 ≤ x.length ∧ x.length ≤ 8) && azB x) := rfl
  rw [en] at q
  walk_at "go"
  refine rc_lenS (by omega) ?_
  walk_at "go"
  refine if_dec (fun a1 => ?_) (fun a1 => ?_)
  rotate_left
  · rw [decide_eq_false (fun z => a1 (by omega)), Bool.false_and] at q
    exact ⟨_, rfl, q⟩
  walk_at "go"
  refine if_dec (fun a2 => ?_) (fun a2 => ?_)
  rotate_left
  · rw [decide_eq_false (fun z => a2 (by omega)), Bool.false_and] at q
    exact q
  rw [decide_eq_true (by omega), Bool.true_and] at q
  walk_at "go"
  refine w_lc (sl := [1]) (by intro i hi; cases hi) (by simp) ?_
  refine wi_str ?_
  walk_at "go"
  refine ⟨by rw [List.length_map, Array.length_toList]; show x.length ≤ 90000; omega, fun i acc ρ => acc = (((sg x).take i).map fun c => decide (97 ≤ c ∧ c ≤ 122)).map .bl ∧ ρ = [some (.sh (.str x)), none], ⟨rfl, rfl⟩, ?_, ?_⟩
  · rintro i d acc ρ2 hd ⟨rfl, rfl⟩
    refine wg_name (by walk_at "px") (by simp) ?_
    walk_at "go"
    rw [List.getElem?_map] at hd
    obtain ⟨c, hc1, hc2⟩ := Option.map_eq_some_iff.mp hd
    subst hc2
    rw [if_pos rfl]
    have et : (sg x).take (i + 1) = (sg x).take i ++ [c] := by rw [List.take_add_one, show (sg x)[i]? = some c from hc1]; rfl
    walk_at "go"
    rw [show decide ((⟨#[c]⟩ : Str).cps.toList < (Str.ofString "a").cps.toList) = decide (c < 97) from lt1 c 97]
    by_cases b1 : c < 97
    · rw [decide_eq_true b1, if_neg (by decide)]
      refine ⟨?_, rfl⟩
      rw [et, List.map_append, List.map_append]
      simp [show ¬ 97 ≤ c by omega]
    · rw [decide_eq_false b1, if_pos (by decide)]
      walk_at "go"
      rw [show decide ((Str.ofString "z").cps.toList < (⟨#[c]⟩ : Str).cps.toList) = decide (122 < c) from lt1 122 c]
      refine ⟨?_, rfl⟩
      rw [et, List.map_append, List.map_append]
      by_cases b2 : 122 < c
      · simp [b2, show ¬ c ≤ 122 by omega]
      · simp [b2, show c ≤ 122 by omega, show 97 ≤ c by omega]
  · rintro acc ρ2 ⟨rfl, rfl⟩
    walk_at "go"
    refine rc_all (.lst _) ?_
    rw [List.length_map, List.take_length, List.all_map]
    exact q
def c_Fis_member : CD := ⟨fun ds k => ∃ v t, ds = [v] ∧ TyB v t ∧ smallD v ∧ k (.ret (.sh (.bl (goodB v)))), by
  rintro ds k k' h ⟨v, t, e, ty, s, q⟩
  exact ⟨v, t, e, ty, s, h _ q⟩⟩
theorem sc_Fis_member : FnScope ["value"] ["value"] (defScope s_Fis_member) := ⟨rfl, rfl, rfl, by decide +kernel, rfl, by decide +kernel, by decide +kernel⟩
theorem ok_Fis_member (T : Tx K mg) : ∃ fd, DC.FnG prg wd K mg bs (L2.CX prg wd) 2 (He.ga K "is_member") fd ["value"] (toSp K 1 c_Fis_member.con) ∧ L2.Binds K fd ["value"] [] ∧ PySem.W.keepIn K (.ref (He.ga K "is_member")) = true := by
  obtain ⟨fd, F0⟩ := T.d_Fis_member
  obtain ⟨_, F_Fis_name, b_Fis_name, k_Fis_name⟩ := ok_Fis_name (prg := prg) (wd := wd) (bs := bs) T
  have c_RESERVED := T.g_RESERVED
  refine ⟨fd, def_D (N := ["value"]) F0 sc_Fis_member rfl ?_, F0.bindsN fun _ _ _ _ _ _ us hl => match us, hl with | [_], _ => rfl, F0.kp⟩
  intro cdv A fr s H E ds kk gd room hc hl
  have hu := room.units
  have hu7 := room70 room
  have sc := sc_Fis_member
  refine ⟨_, (pss_one (ps_ret (pe_and (DC.pe_callG F_Fis_name gd (room.mono (by decide)) (by rfl) T.g_is_name k_Fis_name b_Fis_name .nil (fun σ => passAt (takes_of rfl rfl rfl rfl) σ) (pa_cons (pv 0) pa_nil)) (pe_one (pe_cmpR o_notIn (pv 0) (pe_glob (by rfl) c_RESERVED (show RelV (.ref _) (.ref _) from rfl)) (by rfl)))))), ?_⟩
  try dsimp only [L2.cxOf]
  obtain ⟨v, t, rfl, ty, sm, q⟩ := hc
  have tR := T.tup_RESERVED
  walk_at "go"
  refine ⟨rfl, v, t, rfl, ty, sm, _, .sh _, _, rfl, ?_⟩
  have eg : goodB v = (nameB v && !resB v) := rfl
  rw [eg] at q
  refine if_b (fun z => ?_) (fun z => ?_)
  rotate_left
  · rw [z, Bool.false_and] at q
    exact q
  rw [z, Bool.true_and] at q
  obtain ⟨x, rfl⟩ : ∃ x, v = .str x := by cases ty <;> first | exact ⟨_, rfl⟩ | cases z
  walk_at "go"
  refine w_glob tR ?_
  refine rd_ni (.inr rfl) rfl rfl ?_
  exact q
def c_Fis_good : CD := ⟨fun ds k => ∃ v t, ds = [v] ∧ TyB v t ∧ smallD v ∧ k (.ret (.sh (.bl (goodB v)))), by
  rintro ds k k' h ⟨v, t, e, ty, s, q⟩
  exact ⟨v, t, e, ty, s, h _ q⟩⟩
theorem sc_Fis_good : FnScope ["value"] ["value"] (defScope s_Fis_good) := ⟨rfl, rfl, rfl, by decide +kernel, rfl, by decide +kernel, by decide +kernel⟩
theorem ok_Fis_good (T : Tx K mg) : ∃ fd, DC.FnG prg wd K mg bs (L2.CX prg wd) 3 (He.ga K "is_good") fd ["value"] (toSp K 1 c_Fis_good.con) ∧ L2.Binds K fd ["value"] [] ∧ PySem.W.keepIn K (.ref (He.ga K "is_good")) = true := by
  obtain ⟨fd, F0⟩ := T.d_Fis_good
  obtain ⟨_, F_Fis_member, b_Fis_member, k_Fis_member⟩ := ok_Fis_member (prg := prg) (wd := wd) (bs := bs) T
  refine ⟨fd, def_D (N := ["value"]) F0 sc_Fis_good rfl ?_, F0.bindsN fun _ _ _ _ _ _ us hl => match us, hl with | [_], _ => rfl, F0.kp⟩
  intro cdv A fr s H E ds kk gd room hc hl
  have hu := room.units
  have hu7 := room70 room
  have sc := sc_Fis_good
  refine ⟨_, (pss_one (ps_ret (DC.pe_callG F_Fis_member gd (room.mono (by decide)) (by rfl) T.g_is_member k_Fis_member b_Fis_member .nil (fun σ => passAt (takes_of rfl rfl rfl rfl) σ) (pa_cons (pv 0) pa_nil)))), ?_⟩
  try dsimp only [L2.cxOf]
  obtain ⟨v, t, rfl, ty, sm, q⟩ := hc
  walk_at "go"
  exact ⟨rfl, v, t, rfl, ty, sm, _, .sh _, q⟩
def c_Fis_numeral : CD := ⟨fun ds k => ∃ w, ds = [.str w] ∧ okT 20000 w ∧ k (.ret (.sh (.bl (numB w)))), by
  rintro ds k k' h ⟨v, e, ty, q⟩
  exact ⟨v, e, ty, h _ q⟩⟩
theorem sg_nil {w : Str} : w = "" ↔ sg w = [] := ⟨fun h => by rw [h]; decide +kernel, fun h => sg_ext (by rw [h]; decide +kernel)⟩
theorem sg_zero {w : Str} : w = "0" ↔ sg w = [48] := ⟨fun h => by rw [h]; decide +kernel, fun h => sg_ext (by rw [h]; decide +kernel)⟩
theorem sc_Fis_numeral : FnScope ["word", "sign"] ["word"] (defScope s_Fis_numeral) := ⟨rfl, rfl, rfl, by decide +kernel, rfl, by decide +kernel, by decide +kernel⟩
theorem ok_Fis_numeral (T : Tx K mg) : ∃ fd, DC.FnG prg wd K mg bs (L2.CX prg wd) 1 (He.ga K "is_numeral") fd ["word"] (toSp K 1 c_Fis_numeral.con) ∧ L2.Binds K fd ["word"] [] ∧ PySem.W.keepIn K (.ref (He.ga K "is_numeral")) = true := by
  obtain ⟨fd, F0⟩ := T.d_Fis_numeral
  refine ⟨fd, def_D (N := ["word", "sign"]) F0 sc_Fis_numeral rfl ?_, F0.bindsN fun _ _ _ _ _ _ us hl => match us, hl with | [_], _ => rfl, F0.kp⟩
  intro cdv A fr s H E ds kk gd room hc hl
  have hu := room.units
  have hu7 := room70 room
  have sc := sc_Fis_numeral
  refine ⟨_, (pss_cons (ps_if (PW.pt (pw_or (pt_cmpR (op_eqD hu) (pv 0) pe_str (nomark _)) (pw_or1 (pt_not (pt_val (pe_callB (cr_all rfl) (by rfl) T.n_all (by decide +kernel) (pa_cons (pe_lc (own := [("sign", 1)]) (g := (gName 1)) (tt := tYes) (by rfl) sc.nd (pi_str (pv 0)) (blkOk_by (own := [("sign", 1)]) (N := ["word", "sign"]) (sc := defScope s_Fis_numeral) (by decide +kernel)) (fun _ _ _ _ _ => (pg_name (i := 1) sc.nd rfl (Or.inl rfl))) (fun _ _ _ _ _ => pts_nil) (fun _ _ _ _ _ => (pe_cmpR (o_inK rfl) (pv 1) pe_str (by rfl)))) pa_nil))))))) (pss_one (ps_ret pe_bl)) pss_nil)
  (pss_one (ps_ret (pe_or (pe_cmpR (op_eqD hu) (pv 0) pe_str (nomark _)) (pe_one (pe_cmpR (op_neD hu) (pe_ix ix_seq (pv 0) pe_int (fun _ _ => rfl)) pe_str (nomark _))))))), ?_⟩
  try dsimp only [L2.cxOf]
  obtain ⟨w, rfl, ok, q⟩ := hc
  have so := ok.str
  have ln := ok.1
  unfold numB at q
  walk_at "go"
  refine rd_eqS so (by decide +kernel) ?_
  refine ⟨_, rfl, ?_⟩
  by_cases c1 : w = ""
  · rw [decide_eq_true c1, if_pos rfl]
    rw [decide_eq_true (sg_nil.mp c1)] at q
    rw [if_pos rfl]
    walk_at "go"
    exact q
  rw [decide_eq_false c1, if_neg (by decide)]
  have c2 : sg w ≠ [] := fun z => c1 (sg_nil.mpr z)
  rw [decide_eq_false c2, Bool.not_false, Bool.true_and] at q
  walk_at "go"
  refine w_lc (sl := [1]) (by intro i hi; cases hi) (by simp) ?_
  refine wi_str ?_
  walk_at "go"
  refine ⟨by rw [List.length_map, Array.length_toList]; show w.length ≤ 90000; omega, fun i acc ρ => acc = (((sg w).take i).map fun c => decide (48 ≤ c ∧ c ≤ 57)).map .bl ∧ ρ = [some (.sh (.str w)), none], ⟨rfl, rfl⟩, ?_, ?_⟩
  · rintro i d acc ρ2 hd ⟨rfl, rfl⟩
    refine wg_name (by walk_at "px") (by simp) ?_
    walk_at "go"
    rw [List.getElem?_map] at hd
    obtain ⟨c, hc1, hc2⟩ := Option.map_eq_some_iff.mp hd
    subst hc2
    rw [if_pos rfl]
    have et : (sg w).take (i + 1) = (sg w).take i ++ [c] := by rw [List.take_add_one, show (sg w)[i]? = some c from hc1]; rfl
    walk_at "go"
    refine rd_inS ?_
    refine ⟨?_, rfl⟩
    rw [et, List.map_append, List.map_append]
    simp only [mem_dg]
    rfl
  · rintro acc ρ2 ⟨rfl, rfl⟩
    walk_at "go"
    refine rc_all (.lst _) ?_
    rw [List.length_map, List.take_length, List.all_map]
    refine ⟨_, rfl, ?_⟩
    have ed : (sg w).all (id ∘ fun c => decide (48 ≤ c ∧ c ≤ 57)) = dgB (sg w) := rfl
    rw [show w.cps.toList = sg w from rfl, ed]
    cases hd : dgB (sg w) with
    | false =>
      rw [hd] at q
      rw [if_pos (by decide)]
      walk_at "go"
      exact q
    | true =>
      rw [hd, Bool.true_and] at q
      rw [if_neg (by decide)]
      walk_at "go"
      refine rd_eqS so (by decide +kernel) ?_
      refine ⟨_, rfl, ?_⟩
      have ez : decide (w = "0") = decide (sg w = [48]) := by
        rw [Bool.eq_iff_iff]
        simp only [decide_eq_true_eq]
        exact sg_zero
      rw [ez]
      by_cases c3 : sg w = [48]
      · rw [decide_eq_true c3] at q ⊢
        rw [if_pos rfl]
        exact q
      · rw [decide_eq_false c3] at q ⊢
        rw [if_neg (by decide)]
        obtain ⟨c, r, hr⟩ : ∃ c r, sg w = c :: r := by
          cases h : sg w with
          | nil => exact absurd h c2
          | cons c r => exact ⟨c, r, rfl⟩
        walk_at "go"
        refine rd_ixS (c := c) (by omega) (by rw [show w.cps.toList = c :: r from hr]; exact atI_nat (j := 0) rfl) ?_
        walk_at "go"
        have hc7 : c < 128 := ok.2 c (by rw [hr]; exact List.mem_cons_self)
        refine rd_neS (Array.all_eq_true_iff_forall_mem.mpr fun x hx => decide_eq_true (by
          obtain rfl : x = c := by simpa using hx
          omega)) (by decide +kernel) ?_
        have e1 : decide ((⟨#[c]⟩ : Str) = "0") = decide ((sg w).head? = some 48) := by
          rw [Bool.eq_iff_iff, hr]
          simp only [decide_eq_true_eq, List.head?_cons, Option.some.injEq]
          constructor
          · intro h
            have := congrArg sg h
            rw [show sg ("0" : Str) = [48] by decide +kernel] at this
            exact List.head_eq_of_cons_eq this
          · intro h
            refine sg_ext ?_
            rw [show sg ("0" : Str) = [48] by decide +kernel, h]
        rw [e1]
        exact q
def c_Fis_pool_numeral : CD := ⟨fun ds k => ∃ w, ds = [.str w] ∧ okT 20000 w ∧ k (.ret (.sh (.bl (pnumB w)))), by
  rintro ds k k' h ⟨v, e, ty, q⟩
  exact ⟨v, e, ty, h _ q⟩⟩
theorem sc_Fis_pool_numeral : FnScope ["word"] ["word"] (defScope s_Fis_pool_numeral) := ⟨rfl, rfl, rfl, by decide +kernel, rfl, by decide +kernel, by decide +kernel⟩
theorem ok_Fis_pool_numeral (T : Tx K mg) : ∃ fd, DC.FnG prg wd K mg bs (L2.CX prg wd) 2 (He.ga K "is_pool_numeral") fd ["word"] (toSp K 1 c_Fis_pool_numeral.con) ∧ L2.Binds K fd ["word"] [] ∧ PySem.W.keepIn K (.ref (He.ga K "is_pool_numeral")) = true := by
  obtain ⟨fd, F0⟩ := T.d_Fis_pool_numeral
  obtain ⟨_, F_Fis_numeral, b_Fis_numeral, k_Fis_numeral⟩ := ok_Fis_numeral (prg := prg) (wd := wd) (bs := bs) T
  obtain ⟨_, c_MOST_DIGITS⟩ := T.i_MOST_DIGITS
  refine ⟨fd, def_D (N := ["word"]) F0 sc_Fis_pool_numeral rfl ?_, F0.bindsN fun _ _ _ _ _ _ us hl => match us, hl with | [_], _ => rfl, F0.kp⟩
  intro cdv A fr s H E ds kk gd room hc hl
  have hu := room.units
  have hu7 := room70 room
  have sc := sc_Fis_pool_numeral
  refine ⟨_, (pss_one (ps_ret (pe_and (DC.pe_callG F_Fis_numeral gd (room.mono (by decide)) (by rfl) T.g_is_numeral k_Fis_numeral b_Fis_numeral .nil (fun σ => passAt (takes_of rfl rfl rfl rfl) σ) (pa_cons (pv 0) pa_nil)) (pe_and (pe_cmpR (op_neD hu) (pv 0) pe_str (nomark _)) (pe_one (pe_cmpR o_le (pe_callB call_len (by rfl) T.n_len (by decide +kernel) (pa_cons (pv 0) pa_nil)) (pe_glob (by rfl) c_MOST_DIGITS (show RelV (.int 9) (.int 9 _) from ⟨_, rfl⟩)) (nomark _))))))), ?_⟩
  try dsimp only [L2.cxOf]
  obtain ⟨w, rfl, ok, q⟩ := hc
  have ln := ok.1
  rw [← pnum_and] at q
  walk_at "go"
  refine ⟨rfl, w, rfl, ok, _, .sh _, _, rfl, ?_⟩
  refine if_b (fun z => ?_) (fun z => ?_)
  rotate_left
  · rw [z] at q
    exact q
  rw [z, Bool.true_and] at q
  walk_at "go"
  refine rd_neS ok.str (by decide +kernel) ?_
  refine ⟨_, rfl, ?_⟩
  refine if_b (fun z => ?_) (fun z => ?_)
  rotate_left
  · rw [z] at q
    exact q
  rw [z, Bool.true_and] at q
  walk_at "go"
  refine rc_lenS (by omega) ?_
  walk_at "go"
  rw [show decide ((w.length : Int) ≤ 9) = decide (w.length ≤ 9) by rw [Bool.eq_iff_iff]; simp only [decide_eq_true_eq]; omega]
  exact q
end K24

namespace K24
open PySem PySem.Spec PyProof.Rows L2 DL
variable {prg : Program} {wd : World} {K : PySem.W.Frag} {mg : Str → Option Value} {bs : Heap}
local macro_rules | `(tactic| walk_at "px") => `(tactic| first | exact List.not_mem_nil | (show _ ∉ ([0] : List Nat); decide) | (show _ ∉ ([] : List Nat); decide) | fail)
local macro_rules | `(tactic| walk_at "s") => `(tactic| with_reducible first
  | refine ws_seq ?_ | refine ws_if ?_ | refine ws_next ?_ | refine ws_ret ?_ | refine ws_retN ?_ | refine ws_asg (by walk_at "px") ?_ | refine ws_par (by walk_at "px") (by walk_at "px") ?_
  | refine w_var (by with_unfolding_all rfl) ?_ | refine w_int ?_ | refine w_bl ?_ | refine w_non ?_ | refine w_str ?_ | refine w_dnew ?_ | refine w_ty ?_ | refine w_fun ?_
  | refine w_split ?_ | refine w_op ?_ | refine w_un ?_ | refine w_fld ?_ | refine w_xf ?_ | refine wt_test ?_ | refine wt_B ?_ | refine wt_yes ?_ | refine wt_and ?_ | refine wt_or ?_ | refine wt_not ?_ | refine w_andV ?_ | refine w_orV ?_ | refine w_notV ?_ | refine w_ifE ?_ | refine w_chain ?_
  | refine wa_nil ?_ | refine wa_cons ?_ | refine w_tup ?_ | refine w_lst ?_ | refine w_slice ?_ | refine wp_no ?_ | refine wp_int ?_
  | refine w_cd repL_nil ?_ | refine w_md repL_nil ?_ | refine w_mk repL_nil ?_ | refine w_co repL_nil ⟨_, by with_unfolding_all rfl⟩ ?_ | refine w_lenO (by with_unfolding_all rfl) ?_ | refine w_call ?_
  | refine rd_add ?_ | refine rd_sub ?_ | refine rd_lt ?_ | refine rd_le ?_ | refine rd_gt ?_ | refine rd_ge ?_ | refine rd_ltS ?_ | refine rd_leS ?_ | refine rd_gtS ?_ | refine rd_geS ?_ | refine rd_isN ?_ | refine rd_notN ?_ | refine rd_eqI ?_ | refine rd_neI ?_
  | refine wg_tup rfl ?_ | refine wgs_cons ?_ | refine wg_name (by walk_at "px") (by simp) ?_ | refine wgs_nil ?_
  | refine ru_neg ?_ | refine ⟨(by show List.length _ ≤ 100000; simp), ?_⟩
  | refine rc_abs ?_ | refine rc_int1 ?_ | refine rc_min2 ?_ | refine rc_max2 ?_
  | refine ⟨_, rfl, ?_⟩ | fail)
local macro_rules | `(tactic| walk_at "go") => `(tactic| repeat' walk_at "s")

def fitB (v : D) (most : Int) : Bool := match v with
  | .int i => decide (1 ≤ i ∧ i ≤ most)
  | _ => false
def initO (x a b c : D) : Out := if goodB x = false then .err "BadUnit" [("given", x)] else if fitB a 9999 = false then .err "BadPool" [("value", a), ("field", .str "money")]
  else if fitB b 99 = false then .err "BadPool" [("value", b), ("field", .str "stock")] else if fitB c 9999 = false then .err "BadPool" [("value", c), ("field", .str "shares")] else .ret (.sh .non)
def initM (x a b c : D) : M := if (goodB x && (fitB a 9999 && (fitB b 99 && fitB c 9999))) = true then .obj "Pool" [("unit", .sh x), ("money", .sh a), ("stock", .sh b), ("shares", .sh c)] else .obj "Pool" []
def c_Pool_init : CO := ⟨fun m ds k => ∃ x a b c t1 t2 t3 t4, m = .obj "Pool" [] ∧ ds = [x, a, b, c] ∧ TyB x t1 ∧ TyB a t2 ∧ TyB b t3 ∧ TyB c t4 ∧ smallD x ∧ k (initO x a b c) (initM x a b c), by
  rintro m ds k k' h ⟨x, a, b, c, t1, t2, t3, t4, e1, e2, y1, y2, y3, y4, s, q⟩
  exact ⟨x, a, b, c, t1, t2, t3, t4, e1, e2, y1, y2, y3, y4, s, h _ _ q⟩⟩
theorem init_ok {x a b c : D} (h1 : goodB x = true) (h2 : fitB a 9999 = true) (h3 : fitB b 99 = true) (h4 : fitB c 9999 = true) : initO x a b c = .ret (.sh .non) ∧ initM x a b c = .obj "Pool" [("unit", .sh x), ("money", .sh a), ("stock", .sh b), ("shares", .sh c)] := by
  unfold initO initM
  rw [h1, h2, h3, h4]
  exact ⟨rfl, rfl⟩
theorem sc_Pool_init : FnScope ["self", "unit", "money", "stock", "shares", "field", "value", "most"] ["self", "unit", "money", "stock", "shares"] (defScope s_Pool_init) := ⟨rfl, rfl, rfl, by decide +kernel, rfl, by decide +kernel, by decide +kernel⟩
theorem ok_Pool_init (T : Tx K mg) : ∃ fd, DC.FnG prg wd K mg bs (L2.CX prg wd) 4 (He.ma K (He.ga K "Pool") "__init__") fd ["self", "unit", "money", "stock", "shares"] (toSp K 5 c_Pool_init.con) ∧ L2.Binds K fd ["self", "unit", "money", "stock", "shares"] [] ∧ PySem.W.keepIn K (.ref (He.ma K (He.ga K "Pool") "__init__")) = true := by
  obtain ⟨fd, F0⟩ := T.d_Pool_init
  obtain ⟨_, F_Fis_good, b_Fis_good, k_Fis_good⟩ := ok_Fis_good (prg := prg) (wd := wd) (bs := bs) T
  obtain ⟨_, F_Fis_whole, b_Fis_whole, k_Fis_whole⟩ := ok_Fis_whole (prg := prg) (wd := wd) (bs := bs) T
  obtain ⟨_, F_BadPool_init, b_BadPool_init⟩ := ok_BadPool_init (prg := prg) (wd := wd) (bs := bs) T
  obtain ⟨_, F_BadUnit_init, b_BadUnit_init⟩ := ok_BadUnit_init (prg := prg) (wd := wd) (bs := bs) T
  obtain ⟨_, c_MOST_MONEY⟩ := T.i_MOST_MONEY
  obtain ⟨_, c_MOST_STOCK⟩ := T.i_MOST_STOCK
  refine ⟨fd, def_O (N := ["self", "unit", "money", "stock", "shares", "field", "value", "most"]) F0 sc_Pool_init rfl ?_, F0.bindsN fun _ _ _ _ _ _ us hl => match us, hl with | [_, _, _, _, _], _ => rfl, F0.kp⟩
  intro cdv A fr s H E v0 m0 ds kk gd room hc hl
  have hu := room.units
  have hu7 := room70 room
  have sc := sc_Pool_init
  refine ⟨_, (pss_cons (ps_if (pt_not (pt_val (DC.pe_callG F_Fis_good gd (room.mono (by decide)) (by rfl) T.g_is_good k_Fis_good b_Fis_good .nil (fun σ => passAt (takes_of rfl rfl rfl rfl) σ) (pa_cons (pv 1) pa_nil)))) (pss_one (ps_raise rfl (takes_of rfl rfl rfl rfl) (pmk_oex T.o_BadUnit T.i_BadUnit T.t_BadUnit F_BadUnit_init (room.mono (by decide)) b_BadUnit_init .nil passL (by rfl) T.g_BadUnit (pa_cons (pv 1) pa_nil)))) pss_nil)
  (pss_cons (ps_for (passes_of rfl) rfl (pi_tup (pe_tup (pa_cons (pe_tup (pa_cons pe_str (pa_cons (pv 2) (pa_cons (pe_glob (by rfl) c_MOST_MONEY (show RelV (.int 9999) (.int 9999 _) from ⟨_, rfl⟩)) pa_nil)))) (pa_cons (pe_tup (pa_cons pe_str (pa_cons (pv 3) (pa_cons (pe_glob (by rfl) c_MOST_STOCK (show RelV (.int 99) (.int 99 _) from ⟨_, rfl⟩)) pa_nil)))) (pa_cons (pe_tup (pa_cons pe_str (pa_cons (pv 4) (pa_cons (pe_glob (by rfl) c_MOST_MONEY (show RelV (.int 9999) (.int 9999 _) from ⟨_, rfl⟩)) pa_nil)))) pa_nil))))) (pg_tup (by rfl) (pgs_cons (pg_name (i := 5) sc.nd rfl (Or.inl rfl)) (pgs_cons (pg_name (i := 6) sc.nd rfl (Or.inl rfl)) (pgs_cons (pg_name (i := 7) sc.nd rfl (Or.inl rfl)) pgs_nil)))) (pss_one (ps_if (PW.pt (pw_or (pt_not (pt_val (DC.pe_callG F_Fis_whole gd (room.mono (by decide)) (by rfl) T.g_is_whole k_Fis_whole b_Fis_whole .nil (fun σ => passAt (takes_of rfl rfl rfl rfl) σ) (pa_cons (pv 6) pa_nil)))) (pw_or1 (pt_not (pt_chain o_le o_le pe_int (pv 6) (pv 7)))))) (pss_one (ps_raise rfl (takes_of rfl rfl rfl rfl) (pmk_oex T.o_BadPool T.i_BadPool T.t_BadPool F_BadPool_init (room.mono (by decide)) b_BadPool_init .nil passL (by rfl) T.g_BadPool (pa_cons (pv 5) (pa_cons (pv 6) pa_nil))))) pss_nil)))
  (pss_cons (ps_fld (pv 0) (pv 1) rfl)
  (pss_cons (ps_fld (pv 0) (pv 2) rfl)
  (pss_cons (ps_fld (pv 0) (pv 3) rfl)
  (pss_one (ps_fld (pv 0) (pv 4) rfl))))))), ?_⟩
  try dsimp only [L2.cxOf]
  have cP := T.c_Pool
  have nu := T.no_Pool_unit
  have nm := T.no_Pool_money
  have ns := T.no_Pool_stock
  have nh := T.no_Pool_shares
  obtain ⟨x, a, b, c, t1, t2, t3, t4, rfl, rfl, y1, y2, y3, y4, sm, q⟩ := hc
  walk_at "go"
  refine ⟨rfl, x, t1, rfl, y1, sm, _, .sh _, _, rfl, ?_⟩
  refine if_nb (fun g => ?_) (fun g => ?_)
  · have e : initO x a b c = .err "BadUnit" [("given", x)] ∧ initM x a b c = .obj "Pool" [] := by
      unfold initO initM
      rw [g]
      exact ⟨rfl, rfl⟩
    rw [e.1, e.2] at q
    refine ws_raise1 (c := "BadUnit") (f := "given") ?_
    walk_at "go"
    exact ⟨rfl, T.o_BadUnit, T.no_BadUnit_given, _, rfl, q⟩
  walk_at "go"
  refine ws_for (sl := [5, 6, 7]) ?_
  refine wi_tup ?_
  walk_at "go"
  refine ⟨fun i ρ => (1 ≤ i → fitB a 9999 = true) ∧ (2 ≤ i → fitB b 99 = true) ∧ (3 ≤ i → fitB c 9999 = true) ∧ ∃ f v w, ρ = [some (.obj "Pool" []), some (.sh x), some (.sh a), some (.sh b), some (.sh c), f, v, w], ⟨fun h => by omega, fun h => by omega, fun h => by omega, _, _, _, rfl⟩, ?_, ?_⟩
  · rintro i d ρ2 hd ⟨f1, f2, f3, f, v, w, rfl⟩
    have hd2 : ∃ y z w t, d = .tup [.str y, z, .int w] ∧ TyB z t ∧ (fitB z w = false → kk (.err "BadPool" [("value", z), ("field", .str y)]) (.obj "Pool" [])) ∧ (fitB z w = true → (1 ≤ i + 1 → fitB a 9999 = true) ∧ (2 ≤ i + 1 → fitB b 99 = true) ∧ (3 ≤ i + 1 → fitB c 9999 = true)) := by
      rcases i with _ | _ | _ | i
      · refine ⟨_, _, _, t2, (Option.some.inj hd).symm, y2, fun z => ?_, fun z => ⟨fun _ => z, fun h => by omega, fun h => by omega⟩⟩
        unfold initO initM at q
        rw [g, z] at q
        exact q
      · have g1 := f1 (by omega)
        refine ⟨_, _, _, t3, (Option.some.inj hd).symm, y3, fun z => ?_, fun z => ⟨fun _ => g1, fun _ => z, fun h => by omega⟩⟩
        unfold initO initM at q
        rw [g, g1, z] at q
        exact q
      · have g1 := f1 (by omega)
        have g2 := f2 (by omega)
        refine ⟨_, _, _, t4, (Option.some.inj hd).symm, y4, fun z => ?_, fun z => ⟨fun _ => g1, fun _ => g2, fun _ => z⟩⟩
        unfold initO initM at q
        rw [g, g1, g2, z] at q
        exact q
      · cases hd
    obtain ⟨y, z, w', t, rfl, ty, bad, good⟩ := hd2
    have out : fitB z w' = false → ∀ P : Post, WS (gxO K E v0 kk) (fun _ σ H => tMkO (He.ga K "BadPool") (spIni K ["field", "value"]) [] (tCons (tVar 5) (tCons (tVar 6) tNil)) σ H fun cls d H' => E cls d H') ([some (.obj "Pool" []), some (.sh x), some (.sh a), some (.sh b), some (.sh c), some (.sh (.str y)), some (.sh z), some (.sh (.int w'))]) P := fun fz P => by
      refine ws_raise2 (c := "BadPool") (f := "field") (g := "value") ?_
      walk_at "go"
      exact ⟨_, _, rfl, rfl, T.o_BadPool, T.no_BadPool_field, T.no_BadPool_value, _, rfl, bad fz⟩
    walk_at "go"
    refine ⟨rfl, z, t, rfl, ty, _, .sh _, _, rfl, ?_⟩
    refine if_nb (fun wz => ?_) (fun wz => ?_)
    · have fz : fitB z w' = false := by
        cases ty <;> first | rfl | cases wz
      exact out fz _
    obtain ⟨n, rfl⟩ : ∃ n, z = .int n := by cases ty <;> first | exact ⟨_, rfl⟩ | cases wz
    walk_at "go"
    refine if_dec (fun c1 => ?_) (fun c1 => ?_)
    · walk_at "go"
      refine if_ndec (fun c2 => ?_) (fun c2 => ?_)
      · exact out (decide_eq_false fun h => c2 h.2) _
      walk_at "go"
      obtain ⟨k1, k2, k3⟩ := good (decide_eq_true ⟨c1, c2⟩)
      exact ⟨k1, k2, k3, _, _, _, rfl⟩
    · refine ⟨_, rfl, ?_⟩
      exact out (decide_eq_false fun h => c1 h.1) _
  · rintro ρ2 ⟨f1, f2, f3, f, v, w, rfl⟩
    have g1 := f1 (by show 1 ≤ 3; decide)
    have g2 := f2 (by show 2 ≤ 3; decide)
    have g3 := f3 (by show 3 ≤ 3; decide)
    rw [(init_ok g g1 g2 g3).1, (init_ok g g1 g2 g3).2] at q
    show WS _ _ _ _
    walk_at "go"
    refine ws_fld (i := 0) ⟨_, rfl⟩ ?_
    walk_at "go"
    refine ⟨"Pool", _, rfl, cP, nu, by show 0 ≤ 900; decide, ?_⟩
    walk_at "go"
    refine ws_fld (i := 0) ⟨_, rfl⟩ ?_
    walk_at "go"
    refine ⟨"Pool", _, rfl, cP, nm, by show 1 ≤ 900; decide, ?_⟩
    walk_at "go"
    refine ws_fld (i := 0) ⟨_, rfl⟩ ?_
    walk_at "go"
    refine ⟨"Pool", _, rfl, cP, ns, by show 2 ≤ 900; decide, ?_⟩
    refine ws_fld (i := 0) ⟨_, rfl⟩ ?_
    walk_at "go"
    refine ⟨"Pool", _, rfl, cP, nh, by show 3 ≤ 900; decide, ?_⟩
    exact ⟨_, rfl, q⟩
def poolD (u : Str) (m s h : Int) : D := .obj "Pool" [("unit", .str u), ("money", .int m), ("stock", .int s), ("shares", .int h)]
theorem good_small {u : Str} (g : goodS u) : smallD (.str u) := Nat.le_trans g.2.1 (by decide)
def c_Fchanged_by : CD := ⟨fun ds k => ∃ u m s h a b c, ds = [poolD u m s h, .int a, .int b, .int c] ∧ goodS u ∧ k (.ret (.obj "Pool" [("unit", .sh (.str u)), ("money", .sh (.int (m + a))), ("stock", .sh (.int (s + b))), ("shares", .sh (.int (h + c)))])), by
  rintro ds k k' h ⟨u, m, s, sh, a, b, c, e, g, q⟩
  exact ⟨u, m, s, sh, a, b, c, e, g, h _ q⟩⟩
theorem one_ok {u : Str} (g : goodS u) : initO (.str u) (.int 1) (.int 1) (.int 1) = .ret (.sh .non) ∧ initM (.str u) (.int 1) (.int 1) (.int 1) = .obj "Pool" [("unit", .sh (.str u)), ("money", .sh (.int 1)), ("stock", .sh (.int 1)), ("shares", .sh (.int 1))] := init_ok (good_iff.mpr g) (by decide) (by decide) (by decide)
theorem sc_Fchanged_by : FnScope ["pool", "money", "stock", "shares", "other"] ["pool", "money", "stock", "shares"] (defScope s_Fchanged_by) := ⟨rfl, rfl, rfl, by decide +kernel, rfl, by decide +kernel, by decide +kernel⟩
theorem ok_Fchanged_by (T : Tx K mg) : ∃ fd, DC.FnG prg wd K mg bs (L2.CX prg wd) 6 (He.ga K "changed_by") fd ["pool", "money", "stock", "shares"] (toSp K 4 c_Fchanged_by.con) ∧ L2.Binds K fd ["pool", "money", "stock", "shares"] [] ∧ PySem.W.keepIn K (.ref (He.ga K "changed_by")) = true := by
  obtain ⟨fd, F0⟩ := T.d_Fchanged_by
  obtain ⟨_, F_Pool_init, b_Pool_init, k_Pool_init⟩ := ok_Pool_init (prg := prg) (wd := wd) (bs := bs) T
  refine ⟨fd, def_D (N := ["pool", "money", "stock", "shares", "other"]) F0 sc_Fchanged_by rfl ?_, F0.bindsN fun _ _ _ _ _ _ us hl => match us, hl with | [_, _, _, _], _ => rfl, F0.kp⟩
  intro cdv A fr s H E ds kk gd room hc hl
  have hu := room.units
  have hu7 := room70 room
  have sc := sc_Fchanged_by
  refine ⟨_, (pss_cons (ps_set (i := 4) sc.nd rfl (Or.inl rfl) (DC.pe_makeG T.k_Pool F_Pool_init gd (room.mono (by decide)) (by rfl) T.g_Pool b_Pool_init .nil (fun σ => passAt (takes_of rfl rfl rfl rfl) σ) (pa_cons (pe_fld (pv 0) rfl) (pa_cons pe_int (pa_cons pe_int (pa_cons pe_int pa_nil))))))
  (pss_cons (ps_fld (pv 4) (pe_op o_add (pe_fld (pv 0) rfl) (pv 1)) rfl)
  (pss_cons (ps_fld (pv 4) (pe_op o_add (pe_fld (pv 0) rfl) (pv 2)) rfl)
  (pss_cons (ps_fld (pv 4) (pe_op o_add (pe_fld (pv 0) rfl) (pv 3)) rfl)
  (pss_one (ps_ret (pv 4))))))), ?_⟩
  try dsimp only [L2.cxOf]
  have cP := T.c_Pool
  have nu := T.no_Pool_unit
  have nm := T.no_Pool_money
  have ns := T.no_Pool_stock
  have nh := T.no_Pool_shares
  obtain ⟨u, m, s, h, a, b, c, rfl, g, q⟩ := hc
  refine ws_seq ?_
  refine ws_asgO (by walk_at "px") (by show 4 < 5; decide) ?_
  refine wo_mk repL_nil (c := "Pool") ?_
  walk_at "go"
  refine ⟨_, _, _, rfl, cP, nu, rfl, ?_⟩
  walk_at "go"
  refine ⟨rfl, rfl, .str u, .int 1, .int 1, .int 1, _, _, _, _, rfl, rfl, .str _, .int _, .int _, .int _, good_small g, ?_⟩
  rw [(one_ok g).1, (one_ok g).2]
  refine ⟨rfl, rfl, ?_⟩
  walk_at "go"
  refine ws_fld (i := 4) ⟨_, rfl⟩ ?_
  walk_at "go"
  refine ⟨_, _, _, rfl, cP, nm, rfl, ?_⟩
  walk_at "go"
  refine ⟨"Pool", _, rfl, cP, nm, by show 4 ≤ 900; decide, ?_⟩
  walk_at "go"
  refine ws_fld (i := 4) ⟨_, rfl⟩ ?_
  walk_at "go"
  refine ⟨_, _, _, rfl, cP, ns, rfl, ?_⟩
  walk_at "go"
  refine ⟨"Pool", _, rfl, cP, ns, by show 4 ≤ 900; decide, ?_⟩
  walk_at "go"
  refine ws_fld (i := 4) ⟨_, rfl⟩ ?_
  walk_at "go"
  refine ⟨_, _, _, rfl, cP, nh, rfl, ?_⟩
  walk_at "go"
  refine ⟨"Pool", _, rfl, cP, nh, by show 4 ≤ 900; decide, ?_⟩
  exact ws_retV rfl q
def askD (m s : Int) : D := if s < 2 then .non else .int (-((-m) / (s - 1)))
def c_Pool_ask : CD := ⟨fun ds k => ∃ u m s h, ds = [poolD u m s h] ∧ 0 ≤ s ∧ s < 2 ^ 60 ∧ k (.ret (.sh (askD m s))), by
  rintro ds k k' h ⟨u, m, s, sh, e, g1, g2, q⟩
  exact ⟨u, m, s, sh, e, g1, g2, h _ q⟩⟩
theorem sc_Pool_ask : FnScope ["self"] ["self"] (defScope s_Pool_ask) := ⟨rfl, rfl, rfl, by decide +kernel, rfl, by decide +kernel, by decide +kernel⟩
theorem ok_Pool_ask (T : Tx K mg) : ∃ fd, DC.FnG prg wd K mg bs (L2.CX prg wd) 1 (He.ma K (He.ga K "Pool") "ask") fd ["self"] (toSp K 1 c_Pool_ask.con) ∧ L2.Binds K fd ["self"] [] ∧ PySem.W.keepIn K (.ref (He.ma K (He.ga K "Pool") "ask")) = true := by
  obtain ⟨fd, F0⟩ := T.d_Pool_ask
  refine ⟨fd, def_D (N := ["self"]) F0 sc_Pool_ask rfl ?_, F0.bindsN fun _ _ _ _ _ _ us hl => match us, hl with | [_], _ => rfl, F0.kp⟩
  intro cdv A fr s H E ds kk gd room hc hl
  have hu := room.units
  have hu7 := room70 room
  have sc := sc_Pool_ask
  refine ⟨_, (pss_cons (ps_if (pt_cmpR o_lt (pe_fld (pv 0) rfl) pe_int (nomark _)) (pss_one (ps_ret pe_non)) pss_nil)
  (pss_one (ps_ret (pe_un un_neg (pe_op op_fdivW (pe_un un_neg (pe_fld (pv 0) rfl)) (pe_op op_sub (pe_fld (pv 0) rfl) pe_int)))))), ?_⟩
  try dsimp only [L2.cxOf]
  have cP := T.c_Pool
  have nu := T.no_Pool_unit
  have nm := T.no_Pool_money
  have ns := T.no_Pool_stock
  have nh := T.no_Pool_shares
  obtain ⟨u, m, s, h, rfl, g1, g2, q⟩ := hc
  walk_at "go"
  refine ⟨_, _, _, rfl, cP, ns, rfl, ?_⟩
  walk_at "go"
  refine if_dec (fun c => ?_) (fun c => ?_)
  · walk_at "go"
    unfold askD at q
    rw [if_pos c] at q
    exact q
  · walk_at "go"
    refine ⟨_, _, _, rfl, cP, nm, rfl, ?_⟩
    walk_at "go"
    refine ⟨_, _, _, rfl, cP, ns, rfl, ?_⟩
    walk_at "go"
    refine rd_div (wide_div (b := 61) (by omega) (by omega) (by decide) (by decide)) ?_
    walk_at "go"
    unfold askD at q
    rw [if_neg c] at q
    exact q
def c_Fafter : CD := ⟨fun ds k => ∃ u m s h, ∃ L : List Int, ∃ st c, ds = [poolD u m s h, .lst (L.map .int), .int st, .int c] ∧ goodS u ∧ st.natAbs < 2 ^ 100 ∧ c.natAbs < 2 ^ 100 ∧ L.sum.natAbs < 2 ^ 1000 ∧
    if (L.length : Int) < c then k (.err "NoUnit" []) else k (.ret (.sh (poolD u (m + -st * L.sum) (s + st * c) (h + 0)))), by
  rintro ds k k' h ⟨u, m, s, sh, L, st, c, e, g, g1, g2, g3, q⟩
  refine ⟨u, m, s, sh, L, st, c, e, g, g1, g2, g3, ?_⟩
  split <;> rename_i z
  · rw [if_pos z] at q
    exact h _ q
  · rw [if_neg z] at q
    exact h _ q⟩
theorem frz_pool {u : Str} {m s h : Int} : Frz (.obj "Pool" [("unit", .sh (.str u)), ("money", .sh (.int m)), ("stock", .sh (.int s)), ("shares", .sh (.int h))]) (poolD u m s h) := .obj (.cons (.sh _) (.cons (.sh _) (.cons (.sh _) (.cons (.sh _) .nil))))
theorem sc_Fafter : FnScope ["pool", "prices", "step", "count"] ["pool", "prices", "step", "count"] (defScope s_Fafter) := ⟨rfl, rfl, rfl, by decide +kernel, rfl, by decide +kernel, by decide +kernel⟩
theorem ok_Fafter (T : Tx K mg) : ∃ fd, DC.FnG prg wd K mg bs (L2.CX prg wd) 7 (He.ga K "after") fd ["pool", "prices", "step", "count"] (toSp K 4 c_Fafter.con) ∧ L2.Binds K fd ["pool", "prices", "step", "count"] [] ∧ PySem.W.keepIn K (.ref (He.ga K "after")) = true := by
  obtain ⟨fd, F0⟩ := T.d_Fafter
  obtain ⟨_, F_Fchanged_by, b_Fchanged_by, k_Fchanged_by⟩ := ok_Fchanged_by (prg := prg) (wd := wd) (bs := bs) T
  refine ⟨fd, def_D (N := ["pool", "prices", "step", "count"]) F0 sc_Fafter rfl ?_, F0.bindsN fun _ _ _ _ _ _ us hl => match us, hl with | [_, _, _, _], _ => rfl, F0.kp⟩
  intro cdv A fr s H E ds kk gd room hc hl
  have hu := room.units
  have hu7 := room70 room
  have sc := sc_Fafter
  refine ⟨_, (pss_cons (ps_if (pt_cmpR o_lt (pe_callB call_len (by rfl) T.n_len (by decide +kernel) (pa_cons (pv 1) pa_nil)) (pv 3) (nomark _)) (pss_one (ps_raise rfl (takes_of rfl rfl rfl rfl) (DC.pmk_bare PySem.F.excBase_ValueError T.e_NoUnit.1 T.g_NoUnit T.e_NoUnit.2.1 (raises_own T.e_NoUnit.2.2.1 T.e_NoUnit.2.2.2) (by rfl)))) pss_nil)
  (pss_one (ps_ret (DC.pe_callG F_Fchanged_by gd (room.mono (by decide)) (by rfl) T.g_changed_by k_Fchanged_by b_Fchanged_by .nil (fun σ => passAt (takes_of rfl rfl rfl rfl) σ) (pa_cons (pv 0) (pa_cons (pe_op o_mul (pe_un un_neg (pv 2)) (pe_callB (cr_sum rfl) (by rfl) T.n_sum (by decide +kernel) (pa_cons (pv 1) pa_nil))) (pa_cons (pe_op o_mul (pv 2) (pv 3)) (pa_cons pe_int pa_nil)))))))), ?_⟩
  try dsimp only [L2.cxOf]
  obtain ⟨u, m, s, h, L, st, c, rfl, g, g1, g2, g3, q⟩ := hc
  walk_at "go"
  refine rc_lenL (.lst _) ?_
  walk_at "go"
  rw [List.length_map]
  refine if_dec (fun z => ?_) (fun z => ?_)
  · rw [if_pos z] at q
    exact ws_raise0 (c := "NoUnit") rfl q
  · rw [if_neg z] at q
    walk_at "go"
    refine rc_sum (.lst _) ?_
    walk_at "go"
    refine rd_mul (cmulW (a := 100) (b := 1000) (by omega) g3 (by decide)) ?_
    walk_at "go"
    refine rd_mul (cmulW (a := 100) (b := 100) g1 g2 (by decide)) ?_
    walk_at "go"
    exact ⟨rfl, u, m, s, h, _, _, _, rfl, g, _, frz_pool, q⟩
def asksL : Nat → Int → Int → List Int
  | 0, _, _ => []
  | n + 1, m, s => if s < 2 then [] else (-((-m) / (s - 1))) :: asksL n (m + -((-m) / (s - 1))) (s - 1)
def c_Pool_asks : CD := ⟨fun ds k => ∃ u m s h v t, ds = [poolD u m s h, v] ∧ goodS u ∧ 0 ≤ s ∧ s < 2 ^ 60 ∧ TyB v t ∧ (countD v = false → k (.err "BadAmount" [("given", v)])) ∧ ∀ c, v = .int c → 0 ≤ c → c ≤ 1000 ∧ k (.ret (.lst (((asksL c.toNat m s).map .int).map .sh))), by
  rintro ds k k' h ⟨u, m, s, sh, v, t, e, g, g1, g2, ty, q1, q2⟩
  exact ⟨u, m, s, sh, v, t, e, g, g1, g2, ty, fun z => h _ (q1 z), fun c ec c0 => ⟨(q2 c ec c0).1, h _ (q2 c ec c0).2⟩⟩⟩
theorem sc_Pool_asks : FnScope ["self", "count", "prices", "pool"] ["self", "count"] (defScope s_Pool_asks) := ⟨rfl, rfl, rfl, by decide +kernel, rfl, by decide +kernel, by decide +kernel⟩
theorem ok_Pool_asks (T : Tx K mg) : ∃ fd, DC.FnG prg wd K mg bs (L2.CX prg wd) 7 (He.ma K (He.ga K "Pool") "asks") fd ["self", "count"] (toSp K 2 c_Pool_asks.con) ∧ L2.Binds K fd ["self", "count"] [] ∧ PySem.W.keepIn K (.ref (He.ma K (He.ga K "Pool") "asks")) = true := by
  obtain ⟨fd, F0⟩ := T.d_Pool_asks
  obtain ⟨_, F_Fchanged_by, b_Fchanged_by, k_Fchanged_by⟩ := ok_Fchanged_by (prg := prg) (wd := wd) (bs := bs) T
  obtain ⟨_, F_Fcheck_count, b_Fcheck_count, k_Fcheck_count⟩ := ok_Fcheck_count (prg := prg) (wd := wd) (bs := bs) T
  obtain ⟨_, F_Pool_ask, b_Pool_ask, k_Pool_ask⟩ := ok_Pool_ask (prg := prg) (wd := wd) (bs := bs) T
  refine ⟨fd, def_D (N := ["self", "count", "prices", "pool"]) F0 sc_Pool_asks rfl ?_, F0.bindsN fun _ _ _ _ _ _ us hl => match us, hl with | [_, _], _ => rfl, F0.kp⟩
  intro cdv A fr s H E ds kk gd room hc hl
  have hu := room.units
  have hu7 := room70 room
  have sc := sc_Pool_asks
  refine ⟨_, (pss_cons (ps_expr (DC.pe_callG F_Fcheck_count gd (room.mono (by decide)) (by rfl) T.g_check_count k_Fcheck_count b_Fcheck_count .nil (fun σ => passAt (takes_of rfl rfl rfl rfl) σ) (pa_cons (pv 1) pa_nil)))
  (pss_cons (ps_set (i := 2) sc.nd rfl (Or.inl rfl) (pe_lst pa_nil))
  (pss_cons (ps_set (i := 3) sc.nd rfl (Or.inl rfl) (pv 0))
  (pss_cons (ps_while (passes_of rfl) (PW.pt (pw_and (pt_cmpR o_lt (pe_callB call_len (by rfl) T.n_len (by decide +kernel) (pa_cons (pv 2) pa_nil)) (pv 1) (nomark _)) (pw_and1 (pt_cmpR op_notN (DC.pe_methG0 (pv 3) T.c_Pool T.m_Pool_ask F_Pool_ask gd (room.mono (by decide)) b_Pool_ask .nil (fun σ => passAt (takes_of rfl rfl rfl rfl) σ)) pe_non (nomark _))))) (pss_cons (ps_expr (pe_bm PySem.F.plainAttrs_list PySem.F.slot_list_append PySem.F.type_list_append mt_append (pv 2) (pa_cons (DC.pe_methG0 (pv 3) T.c_Pool T.m_Pool_ask F_Pool_ask gd (room.mono (by decide)) b_Pool_ask .nil (fun σ => passAt (takes_of rfl rfl rfl rfl) σ)) pa_nil)))
    (pss_one (ps_set (i := 3) sc.nd rfl (Or.inl rfl) (DC.pe_callG F_Fchanged_by gd (room.mono (by decide)) (by rfl) T.g_changed_by k_Fchanged_by b_Fchanged_by .nil (fun σ => passAt (takes_of rfl rfl rfl rfl) σ) (pa_cons (pv 3) (pa_cons (DC.pe_methG0 (pv 3) T.c_Pool T.m_Pool_ask F_Pool_ask gd (room.mono (by decide)) b_Pool_ask .nil (fun σ => passAt (takes_of rfl rfl rfl rfl) σ)) (pa_cons (pe_un un_neg pe_int) (pa_cons pe_int pa_nil)))))))))
  (pss_one (ps_ret (pv 2))))))), ?_⟩
  try dsimp only [L2.cxOf]
  have cP := T.c_Pool
  have nu := T.no_Pool_unit
  have nm := T.no_Pool_money
  have ns := T.no_Pool_stock
  have nh := T.no_Pool_shares
  obtain ⟨u, m, s, h, v, t, rfl, g, g1, g2, ty, q1, q2⟩ := hc
  refine ws_seq ?_
  refine ws_drop ?_
  walk_at "go"
  refine ⟨rfl, v, t, rfl, ty, ?_⟩
  by_cases c1 : countD v = true
  rotate_left
  · rw [if_neg c1]
    exact q1 (by simpa using c1)
  rw [if_pos c1]
  obtain ⟨c, rfl, g3⟩ : ∃ c, v = .int c ∧ 0 ≤ c := by
    cases ty <;> first | cases c1 | exact ⟨_, rfl, of_decide_eq_true c1⟩
  obtain ⟨g4, q⟩ := q2 c rfl g3
  refine ⟨_, .sh _, ?_⟩
  refine ws_seq ?_
  refine ws_asgO (by walk_at "px") (by show 2 < 4; decide) ?_
  refine wo_lst ?_
  walk_at "go"
  refine ⟨rfl, ?_⟩
  walk_at "go"
  refine ws_while (fun n ρ => ∃ L m' s', asksL c.toNat m s = L ++ asksL n m' s' ∧ L.length + n = c.toNat ∧ 0 ≤ s' ∧ s' < 2 ^ 60 ∧ ρ = [some (.sh (poolD u m s h)), some (.sh (.int c)), some (.lst ((L.map .int).map .sh)), some (.sh (poolD u m' s' h))]) c.toNat ⟨[], m, s, rfl, by simp, g1, g2, rfl⟩ ?_
  rintro n ρ ⟨L, m', s', e1, e2, k1, k2, rfl⟩
  walk_at "go"
  have len : ((((L.map D.int).map M.sh).length : Nat) : Int) = L.length := by rw [List.length_map, List.length_map]
  refine if_dec (fun b => ?_) (fun b => ?_)
  · have nz : n ≠ 0 := by omega
    obtain ⟨n', rfl⟩ : ∃ n', n = n' + 1 := ⟨n - 1, by omega⟩
    walk_at "go"
    refine ⟨"Pool", _, rfl, rfl, rfl, ?_⟩
    walk_at "go"
    refine ⟨rfl, u, m', s', h, rfl, k1, k2, _, .sh _, ?_⟩
    walk_at "go"
    by_cases low : s' < 2
    · rw [show askD m' s' = .non from if_pos low]
      refine if_b (fun z => by cases z) (fun _ => ?_)
      have e3 : asksL (n' + 1) m' s' = [] := if_pos low
      rw [e3, List.append_nil] at e1
      rw [e1] at q
      show WS _ _ _ _
      exact ws_retV rfl q
    · rw [show askD m' s' = .int (-((-m') / (s' - 1))) from if_neg low]
      refine if_b (fun _ => ?_) (fun z => by cases z)
      have e3 : asksL (n' + 1) m' s' = (-((-m') / (s' - 1))) :: asksL n' (m' + -((-m') / (s' - 1))) (s' - 1) := if_neg low
      refine ws_seq ?_
      refine ws_append ⟨_, rfl⟩ ?_
      walk_at "go"
      refine ⟨"Pool", _, rfl, rfl, rfl, ?_⟩
      walk_at "go"
      refine ⟨rfl, u, m', s', h, rfl, k1, k2, _, .sh _, ?_⟩
      rw [show askD m' s' = .int (-((-m') / (s' - 1))) from if_neg low]
      refine ⟨_, rfl, by rw [List.length_map, List.length_map]; omega, ?_⟩
      walk_at "go"
      refine ⟨"Pool", _, rfl, rfl, rfl, ?_⟩
      walk_at "go"
      refine ⟨rfl, u, m', s', h, rfl, k1, k2, _, .sh _, ?_⟩
      rw [show askD m' s' = .int (-((-m') / (s' - 1))) from if_neg low]
      walk_at "go"
      refine ⟨rfl, u, m', s', h, _, _, _, rfl, g, _, frz_pool, ?_⟩
      refine ⟨n', by omega, L ++ [-((-m') / (s' - 1))], m' + -((-m') / (s' - 1)), s' - 1, ?_, ?_, by omega, by omega, ?_⟩
      · rw [e1, e3, List.append_assoc]
        rfl
      · rw [List.length_append]
        simp only [List.length_nil, List.length_cons]
        omega
      · rw [List.map_append, List.map_append, Int.add_zero]
        rfl
  · have n0 : n = 0 := by omega
    subst n0
    rw [show asksL 0 m' s' = [] from rfl, List.append_nil] at e1
    rw [e1] at q
    show WS _ _ _ _
    exact ws_retV rfl q
def c_Pool_sold : CD := ⟨fun ds k => ∃ u m s h v t, ds = [poolD u m s h, v] ∧ goodS u ∧ 0 ≤ s ∧ s < 2 ^ 60 ∧ TyB v t ∧ (countD v = false → k (.err "BadAmount" [("given", v)])) ∧ ∀ c, v = .int c → 0 ≤ c → c ≤ 1000 ∧ (asksL c.toNat m s).sum.natAbs < 2 ^ 1000 ∧
    if ((asksL c.toNat m s).length : Int) < c then k (.err "NoUnit" []) else k (.ret (.sh (poolD u (m + (asksL c.toNat m s).sum) (s - c) h))), by
  rintro ds k k' h ⟨u, m, s, sh, v, t, e, g, g1, g2, ty, q1, q2⟩
  refine ⟨u, m, s, sh, v, t, e, g, g1, g2, ty, fun z => h _ (q1 z), fun c ec c0 => ⟨(q2 c ec c0).1, (q2 c ec c0).2.1, ?_⟩⟩
  have q := (q2 c ec c0).2.2
  split <;> rename_i z
  · rw [if_pos z] at q
    exact h _ q
  · rw [if_neg z] at q
    exact h _ q⟩
theorem sc_Pool_sold : FnScope ["self", "count"] ["self", "count"] (defScope s_Pool_sold) := ⟨rfl, rfl, rfl, by decide +kernel, rfl, by decide +kernel, by decide +kernel⟩
theorem ok_Pool_sold (T : Tx K mg) : ∃ fd, DC.FnG prg wd K mg bs (L2.CX prg wd) 8 (He.ma K (He.ga K "Pool") "sold") fd ["self", "count"] (toSp K 2 c_Pool_sold.con) ∧ L2.Binds K fd ["self", "count"] [] ∧ PySem.W.keepIn K (.ref (He.ma K (He.ga K "Pool") "sold")) = true ∧ ∃ ds, Vals [.int 1] ds ∧ L2.Binds K fd ["self", "count"] ds := by
  obtain ⟨fd, F0⟩ := T.d_Pool_sold
  obtain ⟨_, F_Fafter, b_Fafter, k_Fafter⟩ := ok_Fafter (prg := prg) (wd := wd) (bs := bs) T
  obtain ⟨_, F_Pool_asks, b_Pool_asks, k_Pool_asks⟩ := ok_Pool_asks (prg := prg) (wd := wd) (bs := bs) T
  have ball : L2.Binds K fd ["self", "count"] [] := bind_all0 (F0.binds1 (ps := ["self", "count"]) 2 1 (by simp) (by rfl) fun _ _ _ _ _ _ _ us its h1 h2 => match us, its, h1, h2 with | [_, _], [_], _, _ => ⟨_, rfl, rfl⟩)
  refine ⟨fd, def_D (N := ["self", "count"]) F0 sc_Pool_sold rfl ?_, ball, F0.kp, F0.binds1 (ps := ["self", "count"]) 1 0 (by simp) (by rfl) fun _ _ _ _ _ _ _ us its h1 h2 => match us, its, h1, h2 with | [_], [_], _, _ => ⟨_, rfl, rfl⟩⟩
  intro cdv A fr s H E ds kk gd room hc hl
  have hu := room.units
  have hu7 := room70 room
  have sc := sc_Pool_sold
  refine ⟨_, (pss_one (ps_ret (DC.pe_callG F_Fafter gd (room.mono (by decide)) (by rfl) T.g_after k_Fafter b_Fafter .nil (fun σ => passAt (takes_of rfl rfl rfl rfl) σ) (pa_cons (pv 0) (pa_cons (DC.pe_methG (pv 0) T.c_Pool T.m_Pool_asks F_Pool_asks gd (room.mono (by decide)) b_Pool_asks .nil (fun σ => passAt (takes_of rfl rfl rfl rfl) σ) (pa_cons (pv 1) pa_nil)) (pa_cons (pe_un un_neg pe_int) (pa_cons (pv 1) pa_nil))))))), ?_⟩
  try dsimp only [L2.cxOf]
  have cP := T.c_Pool
  have nu := T.no_Pool_unit
  have nm := T.no_Pool_money
  have ns := T.no_Pool_stock
  have nh := T.no_Pool_shares
  obtain ⟨u, m, s, h, v, t, rfl, g, g1, g2, ty, q1, q2⟩ := hc
  walk_at "go"
  refine ⟨"Pool", _, rfl, rfl, rfl, ?_⟩
  walk_at "go"
  refine ⟨rfl, u, m, s, h, v, t, rfl, g, g1, g2, ty, fun z => q1 z, fun c ec c0 => ?_⟩
  subst ec
  obtain ⟨g4, g5, q⟩ := q2 c rfl c0
  refine ⟨g4, _, frz_lst, ?_⟩
  walk_at "go"
  refine ⟨rfl, u, m, s, h, asksL c.toNat m s, -1, c, rfl, g, by decide, by omega, g5, ?_⟩
  split <;> rename_i z
  · rw [if_pos z] at q
    exact q
  · rw [if_neg z] at q
    refine ⟨_, .sh _, ?_⟩
    rw [show m + -(-1) * (asksL c.toNat m s).sum = m + (asksL c.toNat m s).sum by omega, show s + -1 * c = s - c by omega, Int.add_zero]
    exact q
theorem strOk_of {u : Str} (g : goodS u) : PyData.strOk u = true := Array.all_eq_true_iff_forall_mem.mpr fun c hc => decide_eq_true (by have := (g.2.2.1 c (Array.mem_toList_iff.mpr hc)).2; omega)
theorem shaped_str {u : Str} (g : goodS u) : SeqAt.shaped (.str u) = true := by
  have e : PyData.canLay0 (.str u) = true := strOk_of g
  unfold SeqAt.shaped
  rw [e]
  rfl
def eqvP (u u' : Str) (m m' s s' h h' : Int) : Bool := (u == u') && (decide (m = m') && (decide (s = s') && decide (h = h')))
def c_Pool_eq : CD := ⟨fun ds k => ∃ u m s h y, ds = [poolD u m s h, y] ∧ ((∃ u' m' s' h', y = poolD u' m' s' h' ∧ goodS u ∧ goodS u' ∧ k (.ret (.sh (.bl (eqvP u u' m m' s s' h h'))))) ∨ ∃ xs, y = .tup xs ∧ k (.ret (.sh (.bl false)))), by
  rintro ds k k' f ⟨u, m, s, h, y, e, ⟨u', m', s', h', e2, g1, g2, q⟩ | ⟨xs, e2, q⟩⟩
  · exact ⟨u, m, s, h, y, e, .inl ⟨u', m', s', h', e2, g1, g2, f _ q⟩⟩
  · exact ⟨u, m, s, h, y, e, .inr ⟨xs, e2, f _ q⟩⟩⟩
theorem sc_Pool_eq : FnScope ["self", "other"] ["self", "other"] (defScope s_Pool_eq) := ⟨rfl, rfl, rfl, by decide +kernel, rfl, by decide +kernel, by decide +kernel⟩
theorem ok_Pool_eq (T : Tx K mg) : ∃ fd, DC.FnG prg wd K mg bs (L2.CX prg wd) 1 (He.ma K (He.ga K "Pool") "__eq__") fd ["self", "other"] (toSp K 2 c_Pool_eq.con) ∧ L2.Binds K fd ["self", "other"] [] ∧ PySem.W.keepIn K (.ref (He.ma K (He.ga K "Pool") "__eq__")) = true := by
  obtain ⟨fd, F0⟩ := T.d_Pool_eq
  refine ⟨fd, def_D (N := ["self", "other"]) F0 sc_Pool_eq rfl ?_, F0.bindsN fun _ _ _ _ _ _ us hl => match us, hl with | [_, _], _ => rfl, F0.kp⟩
  intro cdv A fr s H E ds kk gd room hc hl
  have hu := room.units
  have hu7 := room70 room
  have sc := sc_Pool_eq
  refine ⟨_, (pss_one (ps_ret (pe_and (pe_callB call_isi (by rfl) T.n_isinstance (by decide +kernel) (pa_cons (pv 1) (pa_cons (pe_glob (by rfl) T.g_Pool (show RelV (.ref _) (.ref _) from rfl)) pa_nil))) (pe_and (pe_cmpR (op_eqD hu) (pe_fld (pv 0) rfl) (pe_fld (pv 1) rfl) (nomark _)) (pe_and (pe_cmpR (op_eqD hu) (pe_fld (pv 0) rfl) (pe_fld (pv 1) rfl) (nomark _)) (pe_and (pe_cmpR (op_eqD hu) (pe_fld (pv 0) rfl) (pe_fld (pv 1) rfl) (nomark _)) (pe_one (pe_cmpR (op_eqD hu) (pe_fld (pv 0) rfl) (pe_fld (pv 1) rfl) (nomark _))))))))), ?_⟩
  try dsimp only [L2.cxOf]
  have cP := T.c_Pool
  have nu := T.no_Pool_unit
  have nm := T.no_Pool_money
  have ns := T.no_Pool_stock
  have nh := T.no_Pool_shares
  obtain ⟨u, m, s, h, y, rfl, ⟨u', m', s', h', rfl, gu, gu', q⟩ | ⟨xs, rfl, q⟩⟩ := hc
  rotate_left
  · walk_at "go"
    skip
    walk_at "go"
    refine rc_isOwnT (c := "Pool") T.eq_Pool ?_
    exact ⟨false, rfl, q⟩
  walk_at "go"
  refine rc_isOwn (c := "Pool") T.eq_Pool ?_
  refine ⟨true, rfl, ?_⟩
  rw [if_pos rfl]
  walk_at "go"
  refine ⟨_, _, _, rfl, cP, nu, rfl, ?_⟩
  walk_at "go"
  refine ⟨_, _, _, rfl, cP, nu, rfl, ?_⟩
  refine rd_eqD (p := .str u) (q := .str u') rfl rfl (shaped_str gu) (shaped_str gu') ?_
  have e0 : PyData.eqv (.str u) (.str u') = (u == u') := rfl
  rw [e0]
  unfold eqvP at q
  refine ⟨_, rfl, ?_⟩
  cases hb : (u == u') with
  | false =>
    rw [hb] at q
    exact q
  | true =>
    rw [hb, Bool.true_and] at q
    rw [if_pos rfl]
    walk_at "go"
    refine ⟨_, _, _, rfl, cP, nm, rfl, ?_⟩
    walk_at "go"
    refine ⟨_, _, _, rfl, cP, nm, rfl, ?_⟩
    walk_at "go"
    refine if_dec (fun e => ?_) (fun e => ?_)
    rotate_left
    · rw [decide_eq_false e, Bool.false_and] at q
      exact q
    rw [decide_eq_true e, Bool.true_and] at q
    walk_at "go"
    refine ⟨_, _, _, rfl, cP, ns, rfl, ?_⟩
    walk_at "go"
    refine ⟨_, _, _, rfl, cP, ns, rfl, ?_⟩
    walk_at "go"
    refine if_dec (fun e => ?_) (fun e => ?_)
    rotate_left
    · rw [decide_eq_false e, Bool.false_and] at q
      exact q
    rw [decide_eq_true e, Bool.true_and] at q
    walk_at "go"
    refine ⟨_, _, _, rfl, cP, nh, rfl, ?_⟩
    walk_at "go"
    refine ⟨_, _, _, rfl, cP, nh, rfl, ?_⟩
    walk_at "go"
    exact q
def strT (u : Str) (m s h : Int) : Str := Str.empty ++ "pool " ++ u ++ " " ++ Str.ofString (toString m) ++ " " ++ Str.ofString (toString s) ++ " " ++ Str.ofString (toString h)
theorem strT_eq (u : Str) (m s h : Int) : strT u m s h = poolT u m s h := by
  refine sg_ext ?_
  unfold strT poolT
  simp only [sg_app, show sg Str.empty = [] from rfl, List.nil_append]
def nOk (i : Int) : Prop := 0 ≤ i ∧ i < 10 ^ 9
theorem nOk.log {i : Int} (h : nOk i) : i.natAbs.log2 < 1920 := Nat.lt_of_lt_of_le (PySem.Flt.log2_lt_of (show 0 < 30 by decide) (by have := h.1; have := h.2; omega)) (by decide)
theorem okL (n : Nat) (x : Str) (h : (sg x).length ≤ n) : x.length ≤ n := by rw [sg_len]; exact h
def c_Pool_str : CD := ⟨fun ds k => ∃ u m s h, ds = [poolD u m s h] ∧ goodS u ∧ nOk m ∧ nOk s ∧ nOk h ∧ k (.ret (.sh (.str (poolT u m s h)))), by
  rintro ds k k' h ⟨u, m, s, sh, e, g, g1, g2, g3, q⟩
  exact ⟨u, m, s, sh, e, g, g1, g2, g3, h _ q⟩⟩
theorem sc_Pool_str : FnScope ["self"] ["self"] (defScope s_Pool_str) := ⟨rfl, rfl, rfl, by decide +kernel, rfl, by decide +kernel, by decide +kernel⟩
theorem ok_Pool_str (T : Tx K mg) : ∃ fd, DC.FnG prg wd K mg bs (L2.CX prg wd) 1 (He.ma K (He.ga K "Pool") "__str__") fd ["self"] (toSp K 1 c_Pool_str.con) ∧ L2.Binds K fd ["self"] [] ∧ PySem.W.keepIn K (.ref (He.ma K (He.ga K "Pool") "__str__")) = true := by
  obtain ⟨fd, F0⟩ := T.d_Pool_str
  refine ⟨fd, def_D (N := ["self"]) F0 sc_Pool_str rfl ?_, F0.bindsN fun _ _ _ _ _ _ us hl => match us, hl with | [_], _ => rfl, F0.kp⟩
  intro cdv A fr s H E ds kk gd room hc hl
  have hu := room.units
  have hu7 := room70 room
  have sc := sc_Pool_str
  refine ⟨_, (pss_one (ps_ret (pe_joined (L2.PJ.cons pe_str (L2.PJ.cons (pe_fmt (pe_fld (pv 0) rfl)) (L2.PJ.cons pe_str (L2.PJ.cons (pe_fmt (pe_fld (pv 0) rfl)) (L2.PJ.cons pe_str (L2.PJ.cons (pe_fmt (pe_fld (pv 0) rfl)) (L2.PJ.cons pe_str (L2.PJ.cons (pe_fmt (pe_fld (pv 0) rfl)) L2.PJ.nil))))))))))), ?_⟩
  try dsimp only [L2.cxOf]
  have cP := T.c_Pool
  have nu := T.no_Pool_unit
  have nm := T.no_Pool_money
  have ns := T.no_Pool_stock
  have nh := T.no_Pool_shares
  obtain ⟨u, m, s, h, rfl, g, g1, g2, g3, q⟩ := hc
  have lu : (sg u).length ≤ 8 := by rw [← sg_len]; exact g.2.1
  have lm : (sg (Str.ofString (toString m))).length ≤ 9 := by rw [← sg_len]; exact (okT_num g1.1 g1.2).1
  have ls : (sg (Str.ofString (toString s))).length ≤ 9 := by rw [← sg_len]; exact (okT_num g2.1 g2.2).1
  have lh : (sg (Str.ofString (toString h))).length ≤ 9 := by rw [← sg_len]; exact (okT_num g3.1 g3.2).1
  have sp : sg ("pool " : Str) = [112, 111, 111, 108, 32] := by decide +kernel
  rw [← strT_eq] at q
  refine ws_ret ?_
  refine w_joined ?_
  unfold WJ
  refine w_str ?_
  refine ⟨_, rfl, okL _ _ (by simp only [sg_app, List.length_append, sp, sp1, show sg Str.empty = [] from rfl, List.length_cons, List.length_nil]; omega), ?_⟩
  unfold WJ
  refine w_fmt ?_
  walk_at "go"
  refine ⟨_, _, _, rfl, cP, nu, rfl, ?_⟩
  refine .inl ⟨u, rfl, by have := g.2.1; omega, _, rfl, okL _ _ (by simp only [sg_app, List.length_append, sp, sp1, show sg Str.empty = [] from rfl, List.length_cons, List.length_nil]; omega), ?_⟩
  unfold WJ
  refine w_str ?_
  refine ⟨_, rfl, okL _ _ (by simp only [sg_app, List.length_append, sp, sp1, show sg Str.empty = [] from rfl, List.length_cons, List.length_nil]; omega), ?_⟩
  unfold WJ
  refine w_fmt ?_
  walk_at "go"
  refine ⟨_, _, _, rfl, cP, nm, rfl, ?_⟩
  refine .inr ⟨m, rfl, g1.log, _, rfl, okL _ _ (by simp only [sg_app, List.length_append, sp, sp1, show sg Str.empty = [] from rfl, List.length_cons, List.length_nil]; omega), ?_⟩
  unfold WJ
  refine w_str ?_
  refine ⟨_, rfl, okL _ _ (by simp only [sg_app, List.length_append, sp, sp1, show sg Str.empty = [] from rfl, List.length_cons, List.length_nil]; omega), ?_⟩
  unfold WJ
  refine w_fmt ?_
  walk_at "go"
  refine ⟨_, _, _, rfl, cP, ns, rfl, ?_⟩
  refine .inr ⟨s, rfl, g2.log, _, rfl, okL _ _ (by simp only [sg_app, List.length_append, sp, sp1, show sg Str.empty = [] from rfl, List.length_cons, List.length_nil]; omega), ?_⟩
  unfold WJ
  refine w_str ?_
  refine ⟨_, rfl, okL _ _ (by simp only [sg_app, List.length_append, sp, sp1, show sg Str.empty = [] from rfl, List.length_cons, List.length_nil]; omega), ?_⟩
  unfold WJ
  refine w_fmt ?_
  walk_at "go"
  refine ⟨_, _, _, rfl, cP, nh, rfl, ?_⟩
  refine .inr ⟨h, rfl, g3.log, _, rfl, okL _ _ (by simp only [sg_app, List.length_append, sp, sp1, show sg Str.empty = [] from rfl, List.length_cons, List.length_nil]; omega), ?_⟩
  exact q
end K24

namespace K24
open PySem PySem.Spec PyProof.Rows L2 DL
variable {prg : Program} {wd : World} {K : PySem.W.Frag} {mg : Str → Option Value} {bs : Heap}
local macro_rules | `(tactic| walk_at "px") => `(tactic| first | exact List.not_mem_nil | (show _ ∉ ([0] : List Nat); decide) | (show _ ∉ ([] : List Nat); decide) | fail)
local macro_rules | `(tactic| walk_at "s") => `(tactic| with_reducible first
  | refine ws_seq ?_ | refine ws_if ?_ | refine ws_next ?_ | refine ws_ret ?_ | refine ws_retN ?_ | refine ws_asg (by walk_at "px") ?_ | refine ws_par (by walk_at "px") (by walk_at "px") ?_
  | refine w_var (by with_unfolding_all rfl) ?_ | refine w_int ?_ | refine w_bl ?_ | refine w_non ?_ | refine w_str ?_ | refine w_dnew ?_ | refine w_ty ?_ | refine w_fun ?_
  | refine w_split ?_ | refine w_op ?_ | refine w_un ?_ | refine w_fld ?_ | refine w_xf ?_ | refine wt_test ?_ | refine wt_B ?_ | refine wt_yes ?_ | refine wt_and ?_ | refine wt_or ?_ | refine wt_not ?_ | refine w_andV ?_ | refine w_orV ?_ | refine w_notV ?_ | refine w_ifE ?_ | refine w_chain ?_
  | refine wa_nil ?_ | refine wa_cons ?_ | refine w_tup ?_ | refine w_lst ?_ | refine w_slice ?_ | refine wp_no ?_ | refine wp_int ?_
  | refine w_cd repL_nil ?_ | refine w_md repL_nil ?_ | refine w_mk repL_nil ?_ | refine w_co repL_nil ⟨_, by with_unfolding_all rfl⟩ ?_ | refine w_lenO (by with_unfolding_all rfl) ?_ | refine w_call ?_
  | refine rd_add ?_ | refine rd_sub ?_ | refine rd_lt ?_ | refine rd_le ?_ | refine rd_gt ?_ | refine rd_ge ?_ | refine rd_ltS ?_ | refine rd_leS ?_ | refine rd_gtS ?_ | refine rd_geS ?_ | refine rd_isN ?_ | refine rd_notN ?_ | refine rd_eqI ?_ | refine rd_neI ?_
  | refine wg_tup rfl ?_ | refine wgs_cons ?_ | refine wg_name (by walk_at "px") (by simp) ?_ | refine wgs_nil ?_
  | refine ru_neg ?_ | refine ⟨(by show List.length _ ≤ 100000; simp), ?_⟩
  | refine rc_abs ?_ | refine rc_int1 ?_ | refine rc_min2 ?_ | refine rc_max2 ?_
  | refine ⟨_, rfl, ?_⟩ | fail)
local macro_rules | `(tactic| walk_at "go") => `(tactic| repeat' walk_at "s")

def ownP (u : Str) (m s h : Int) : M := .obj "Pool" [("unit", .sh (.str u)), ("money", .sh (.int m)), ("stock", .sh (.int s)), ("shares", .sh (.int h))]
def okV : D → Prop
  | .str x => okT 20000 x
  | _ => True
def readO (v : D) : Out := match parseD v with
  | .tup [.str u, .int a, .int b, .int c] => .ret (ownP u a b c)
  | _ => .err "BadText" []
def c_Pool_read (K : PySem.W.Frag) : CD := ⟨fun ds k => ∃ v t, ds = [.fun_ (He.ga K "Pool"), v] ∧ TyB v t ∧ okV v ∧ k (readO v), by
  rintro ds k k' h ⟨v, t, e, ty, s, q⟩
  exact ⟨v, t, e, ty, s, h _ q⟩⟩
theorem read_none {v : D} (h : parseD v = .non) : readO v = .err "BadText" [] := by
  unfold readO
  rw [h]
theorem words_len {x : Str} (h : (Txt.split x " ").length ≠ 5) : wordsD x = .non := by
  unfold wordsD
  split
  · rename_i e
    rw [e] at h
    exact absurd rfl h
  · rfl
theorem words5 {x p u a b c : Str} (h : Txt.split x " " = [p, u, a, b, c]) : wordsD x = if (decide (p = "pool") && (goodB (.str u) && (pnumB a && (pnumB b && pnumB c)))) = true then .tup [.str u, .int (valS a), .int (valS b), .int (valS c)] else .non := by
  unfold wordsD
  rw [h]
theorem len5 {l : List Str} (h : l.length = 5) : ∃ p u a b c, l = [p, u, a, b, c] := match l, h with
  | [p, u, a, b, c], _ => ⟨p, u, a, b, c, rfl⟩
theorem sc_Pool_read : FnScope ["cls", "text", "words", "pool", "word"] ["cls", "text"] (defScope s_Pool_read) := ⟨rfl, rfl, rfl, by decide +kernel, rfl, by decide +kernel, by decide +kernel⟩
theorem ok_Pool_read (T : Tx K mg) : ∃ fd, DC.FnG prg wd K mg bs (L2.CX prg wd) 6 (He5.wf K (He.ga K "Pool") "classmethod" "read") fd ["cls", "text"] (toSp K 2 (c_Pool_read K).con) ∧ L2.Binds K fd ["cls", "text"] [] ∧ PySem.W.keepIn K (.ref (He5.wf K (He.ga K "Pool") "classmethod" "read")) = true := by
  obtain ⟨fd, F0⟩ := T.d_Pool_read
  obtain ⟨_, F_Fis_good, b_Fis_good, k_Fis_good⟩ := ok_Fis_good (prg := prg) (wd := wd) (bs := bs) T
  obtain ⟨_, F_Fis_pool_numeral, b_Fis_pool_numeral, k_Fis_pool_numeral⟩ := ok_Fis_pool_numeral (prg := prg) (wd := wd) (bs := bs) T
  obtain ⟨_, F_Pool_init, b_Pool_init, k_Pool_init⟩ := ok_Pool_init (prg := prg) (wd := wd) (bs := bs) T
  refine ⟨fd, def_D (N := ["cls", "text", "words", "pool", "word"]) F0 sc_Pool_read rfl ?_, F0.bindsN fun _ _ _ _ _ _ us hl => match us, hl with | [_, _], _ => rfl, F0.kp⟩
  intro cdv A fr s H E ds kk gd room hc hl
  have hu := room.units
  have hu7 := room70 room
  have sc := sc_Pool_read
  refine ⟨_, (pss_cons (ps_set (i := 2) sc.nd rfl (Or.inl rfl) (pe_ifExp (pt_val (pe_callB call_isi (by rfl) T.n_isinstance (by decide +kernel) (pa_cons (pv 1) (pa_cons (pe_bltn (by rfl) T.n_str (by decide +kernel) (show RelV (.ty "str") (.type "str") from rfl)) pa_nil)))) (pe_split (pv 1) pe_str) (pe_lst pa_nil)))
  (pss_cons (ps_if (PW.pt (pw_or (pt_cmpR (op_neD hu) (pe_callB call_len (by rfl) T.n_len (by decide +kernel) (pa_cons (pv 2) pa_nil)) pe_int (nomark _)) (pw_or (pt_cmpR (op_neD hu) (pe_ix ix_seq (pv 2) pe_int (fun _ _ => rfl)) pe_str (nomark _)) (pw_or1 (pt_not (pt_val (DC.pe_callG F_Fis_good gd (room.mono (by decide)) (by rfl) T.g_is_good k_Fis_good b_Fis_good .nil (fun σ => passAt (takes_of rfl rfl rfl rfl) σ) (pa_cons (pe_ix ix_seq (pv 2) pe_int (fun _ _ => rfl)) pa_nil)))))))) (pss_one (ps_raise rfl (takes_of rfl rfl rfl rfl) (DC.pmk_bare PySem.F.excBase_ValueError T.e_BadText.1 T.g_BadText T.e_BadText.2.1 (raises_own T.e_BadText.2.2.1 T.e_BadText.2.2.2) (by rfl)))) pss_nil)
  (pss_cons (ps_if (pt_not (pt_val (pe_callB (cr_all rfl) (by rfl) T.n_all (by decide +kernel) (pa_cons (pe_lc (own := [("word", 4)]) (g := (gName 4)) (tt := tYes) (by rfl) sc.nd (pi_list (pe_slice o_sl (pv 2) (po_some pe_int) po_none)) (blkOk_by (own := [("word", 4)]) (N := ["cls", "text", "words", "pool", "word"]) (sc := defScope s_Pool_read) (by decide +kernel)) (fun _ _ _ _ _ => (pg_name (i := 4) sc.nd rfl (Or.inl rfl))) (fun _ _ _ _ _ => pts_nil) (fun _ _ _ _ _ => (DC.pe_callG F_Fis_pool_numeral gd (room.mono (by decide)) (by rfl) T.g_is_pool_numeral k_Fis_pool_numeral b_Fis_pool_numeral .nil (fun σ => passAt takes0 σ) (pa_cons (pv 4) pa_nil)))) pa_nil)))) (pss_one (ps_raise rfl (takes_of rfl rfl rfl rfl) (DC.pmk_bare PySem.F.excBase_ValueError T.e_BadText.1 T.g_BadText T.e_BadText.2.1 (raises_own T.e_BadText.2.2.1 T.e_BadText.2.2.2) (by rfl)))) pss_nil)
  (pss_cons (ps_set (i := 3) sc.nd rfl (Or.inl rfl) (DC.pe_makeN T.k_Pool F_Pool_init gd (room.mono (by decide)) (pv 0) b_Pool_init .nil (fun σ => passAt (takes_of rfl rfl rfl rfl) σ) (pa_cons (pe_ix ix_seq (pv 2) pe_int (fun _ _ => rfl)) (pa_cons pe_int (pa_cons pe_int (pa_cons pe_int pa_nil))))))
  (pss_cons (ps_asg (pe_lc (own := [("word", 4)]) (g := (gName 4)) (tt := tYes) (by rfl) sc.nd (pi_list (pe_slice o_sl (pv 2) (po_some pe_int) po_none)) (blkOk_by (own := [("word", 4)]) (N := ["cls", "text", "words", "pool", "word"]) (sc := defScope s_Pool_read) (by decide +kernel)) (fun _ _ _ _ _ => (pg_name (i := 4) sc.nd rfl (Or.inl rfl))) (fun _ _ _ _ _ => pts_nil) (fun _ _ _ _ _ => (pe_callTy call_int_str (by rfl) T.n_int (by decide +kernel) (pa_cons (pv 4) pa_nil)))) (pg_lst (by rfl) (pgs_cons (DC.pg_fld (pv 3)) (pgs_cons (DC.pg_fld (pv 3)) (pgs_cons (DC.pg_fld (pv 3)) pgs_nil)))))
  (pss_one (ps_ret (pv 3)))))))), ?_⟩
  try dsimp only [L2.cxOf]
  have cP := T.c_Pool
  have nu := T.no_Pool_unit
  have nm := T.no_Pool_money
  have ns := T.no_Pool_stock
  have nh := T.no_Pool_shares
  obtain ⟨v, t, rfl, ty, ok, q⟩ := hc
  walk_at "go"
  refine rc_isStr ⟨t, ty⟩ ?_
  refine ⟨_, rfl, ?_⟩
  refine if_b (fun z => ?_) (fun z => ?_)
  rotate_left
  · have e : parseD v = .non := by cases ty <;> first | rfl | cases z
    rw [read_none e] at q
    walk_at "go"
    refine rc_lenL (.lst _) ?_
    walk_at "go"
    rw [if_pos (by decide)]
    rw [if_pos rfl]
    exact ws_raise0 (c := "BadText") rfl q
  obtain ⟨x, rfl⟩ : ∃ x, v = .str x := by cases ty <;> first | exact ⟨_, rfl⟩ | cases z
  have ok : okT 20000 x := ok
  have ln := ok.1
  obtain ⟨w1, w2, w3⟩ := split_ok ok
  have ep : parseD (.str x) = wordsD x := rfl
  refine w_split ?_
  walk_at "go"
  refine ⟨by omega, ?_⟩
  walk_at "go"
  refine ⟨sp_ne, ?_⟩
  show WS _ _ _ _
  walk_at "go"
  refine rc_lenL (.lst _) ?_
  walk_at "go"
  rw [List.length_map]
  refine if_ndec (fun c1 => ?_) (fun c1 => ?_)
  · rw [if_pos rfl]
    rw [read_none (ep.trans (words_len (by omega)))] at q
    exact ws_raise0 (c := "BadText") rfl q
  obtain ⟨p, u, a, b, c, e5⟩ := len5 (l := Txt.split x " ") (by omega)
  rw [e5] at w3 ⊢
  have e6 := words5 e5
  have op := w3 p (by simp)
  have ou := w3 u (by simp)
  have oa := w3 a (by simp)
  have ob := w3 b (by simp)
  have oc := w3 c (by simp)
  clear w3 w1 w2 c1
  walk_at "go"
  refine rd_ixL (.lst _) rfl ?_
  walk_at "go"
  refine rd_neS op.str (by decide +kernel) ?_
  refine ⟨_, rfl, ?_⟩
  refine if_ndec (fun c1 => ?_) (fun c1 => ?_)
  · rw [if_pos rfl]
    rw [decide_eq_false c1, Bool.false_and, if_neg (by decide)] at e6
    rw [read_none (ep.trans e6)] at q
    exact ws_raise0 (c := "BadText") rfl q
  rw [decide_eq_true c1, Bool.true_and] at e6
  walk_at "go"
  refine rd_ixL (.lst _) rfl ?_
  walk_at "go"
  refine ⟨rfl, .str u, _, rfl, .str _, ou.1, _, .sh _, _, rfl, ?_⟩
  cases gu : goodB (.str u) with
  | false =>
    rw [gu, Bool.false_and, if_neg (by decide)] at e6
    rw [read_none (ep.trans e6)] at q
    rw [if_pos (by decide)]
    exact ws_raise0 (c := "BadText") rfl q
  | true =>
  rw [gu, Bool.true_and] at e6
  rw [if_neg (by decide)]
  have gs := good_iff.mp gu
  walk_at "go"
  refine w_lc (sl := [4]) (by intro i hi; cases hi) (by simp) ?_
  refine wi_list ?_
  walk_at "go"
  refine rs_list (.lst _) ?_
  refine ⟨_, rfl, ?_⟩
  rw [show cutD (List.map D.str [p, u, a, b, c]) (some 2) none = [.str a, .str b, .str c] from rfl]
  refine ⟨by show 3 ≤ 90000; decide, fun i acc ρ => acc = ([pnumB a, pnumB b, pnumB c].take i).map .bl ∧ ρ = [some (.sh (.fun_ (He.ga K "Pool"))), some (.sh (.str x)), some (.sh (.lst (List.map D.str [p, u, a, b, c]))), none, none], ⟨rfl, rfl⟩, ?_, ?_⟩
  · rintro i d acc ρ2 hd ⟨rfl, rfl⟩
    have hd2 : ∃ w, d = .str w ∧ okT 20000 w ∧ (([pnumB a, pnumB b, pnumB c].take i).map D.bl) ++ [.bl (pnumB w)] = ([pnumB a, pnumB b, pnumB c].take (i + 1)).map D.bl := by
      rcases i with _ | _ | _ | i
      · exact ⟨a, (Option.some.inj hd).symm, oa, rfl⟩
      · exact ⟨b, (Option.some.inj hd).symm, ob, rfl⟩
      · exact ⟨c, (Option.some.inj hd).symm, oc, rfl⟩
      · cases hd
    obtain ⟨w, rfl, ow, et⟩ := hd2
    refine wg_name (by walk_at "px") (by simp) ?_
    walk_at "go"
    rw [if_pos rfl]
    walk_at "go"
    refine ⟨rfl, w, rfl, ow, _, .sh _, ?_⟩
    exact ⟨et, rfl⟩
  rintro acc ρ2 ⟨rfl, rfl⟩
  walk_at "go"
  refine rc_all (.lst _) ?_
  refine ⟨_, rfl, ?_⟩
  rw [show ([pnumB a, pnumB b, pnumB c].take [D.str a, .str b, .str c].length).all id = (pnumB a && (pnumB b && pnumB c)) by simp [List.all]]
  cases nn : (pnumB a && (pnumB b && pnumB c)) with
  | false =>
    rw [nn, if_neg (by decide)] at e6
    rw [read_none (ep.trans e6)] at q
    rw [if_pos (by decide)]
    exact ws_raise0 (c := "BadText") rfl q
  | true =>
  rw [nn, if_pos rfl] at e6
  rw [if_neg (by decide)]
  have er : readO (.str x) = .ret (ownP u (valS a) (valS b) (valS c)) := by
    unfold readO
    rw [ep, e6]
  rw [er] at q
  simp only [Bool.and_eq_true] at nn
  obtain ⟨na, nb, nc⟩ := nn
  refine ws_next ?_
  show WS _ _ _ _
  refine ws_seq ?_
  refine ws_asgO (by walk_at "px") (by show 3 < 5; decide) ?_
  refine wo_mkN repL_nil (c := "Pool") ?_
  refine w_var rfl ⟨rfl, ?_⟩
  walk_at "go"
  refine rd_ixL (.lst _) rfl ?_
  walk_at "go"
  refine ⟨rfl, rfl, .str u, .int 1, .int 1, .int 1, _, _, _, _, rfl, rfl, .str _, .int _, .int _, .int _, good_small gs, ?_⟩
  rw [(one_ok gs).1, (one_ok gs).2]
  refine ⟨rfl, rfl, ?_⟩
  refine ws_seq ?_
  refine ws_asgF ?_
  refine w_lc (sl := [4]) (by intro i hi; cases hi) (by simp) ?_
  refine wi_list ?_
  walk_at "go"
  refine rs_list (.lst _) ?_
  refine ⟨_, rfl, ?_⟩
  rw [show cutD (List.map D.str [p, u, a, b, c]) (some 2) none = [.str a, .str b, .str c] from rfl]
  refine ⟨by show 3 ≤ 90000; decide, fun i acc ρ => acc = ([valS a, valS b, valS c].take i).map .int ∧ ρ = [some (.sh (.fun_ (He.ga K "Pool"))), some (.sh (.str x)), some (.sh (.lst (List.map D.str [p, u, a, b, c]))), some (ownP u 1 1 1), none], ⟨rfl, rfl⟩, ?_, ?_⟩
  · rintro i d acc ρ2 hd ⟨rfl, rfl⟩
    have hd2 : ∃ w, d = .str w ∧ pnumB w = true ∧ (([valS a, valS b, valS c].take i).map D.int) ++ [.int (valS w)] = ([valS a, valS b, valS c].take (i + 1)).map D.int := by
      rcases i with _ | _ | _ | i
      · exact ⟨a, (Option.some.inj hd).symm, na, rfl⟩
      · exact ⟨b, (Option.some.inj hd).symm, nb, rfl⟩
      · exact ⟨c, (Option.some.inj hd).symm, nc, rfl⟩
      · cases hd
    obtain ⟨w, rfl, nw, et⟩ := hd2
    refine wg_name (by walk_at "px") (by simp) ?_
    walk_at "go"
    rw [if_pos rfl]
    walk_at "go"
    refine rc_intS (pnum_int nw).1 (by have := (pnum_int nw).2; omega) ?_
    exact ⟨et, rfl⟩
  rintro acc ρ2 ⟨rfl, rfl⟩
  refine wf_lst rfl ?_
  refine wfs_cons (wf_fld (i := 3) (c := "Pool") rfl cP nm (by show 4 ≤ 900; decide) ?_)
  refine wfs_cons (wf_fld (i := 3) (c := "Pool") rfl cP ns (by show 4 ≤ 900; decide) ?_)
  refine wfs_cons (wf_fld (i := 3) (c := "Pool") rfl cP nh (by show 4 ≤ 900; decide) ?_)
  refine wfs_nil ?_
  show WS _ _ _ _
  exact ws_retV rfl q
end K24

namespace K24
open PySem PySem.Spec PyProof.Rows L2 DL
variable {prg : Program} {wd : World} {K : PySem.W.Frag} {mg : Str → Option Value} {bs : Heap}
local macro_rules | `(tactic| walk_at "px") => `(tactic| first | exact List.not_mem_nil | (show _ ∉ ([0] : List Nat); decide) | (show _ ∉ ([] : List Nat); decide) | fail)
local macro_rules | `(tactic| walk_at "s") => `(tactic| with_reducible first
  | refine ws_seq ?_ | refine ws_if ?_ | refine ws_next ?_ | refine ws_ret ?_ | refine ws_retN ?_ | refine ws_asg (by walk_at "px") ?_ | refine ws_par (by walk_at "px") (by walk_at "px") ?_
  | refine w_var (by with_unfolding_all rfl) ?_ | refine w_int ?_ | refine w_bl ?_ | refine w_non ?_ | refine w_str ?_ | refine w_dnew ?_ | refine w_ty ?_
  | refine w_st (by with_unfolding_all rfl) (.inl ⟨rfl, rfl⟩) ?_ | refine w_st (by with_unfolding_all rfl) (.inr ⟨rfl, rfl⟩) ?_ | refine w_op ?_ | refine w_un ?_ | refine w_fld ?_ | refine w_xf ?_ | refine wt_test ?_ | refine wt_B ?_ | refine wt_yes ?_ | refine wt_and ?_ | refine wt_or ?_ | refine wt_not ?_ | refine w_andV ?_ | refine w_orV ?_ | refine w_notV ?_ | refine w_ifE ?_ | refine w_chain ?_
  | refine wa_nil ?_ | refine wa_cons ?_ | refine w_tup ?_ | refine w_lst ?_ | refine w_slice ?_ | refine wp_no ?_ | refine wp_int ?_
  | refine w_cd repL_nil ?_ | refine w_md repL_nil ?_ | refine w_mk repL_nil ?_ | refine w_co repL_nil ⟨_, by with_unfolding_all rfl⟩ ?_ | refine w_lenO (by with_unfolding_all rfl) ?_ | refine w_call ?_
  | refine rd_add ?_ | refine rd_sub ?_ | refine rd_lt ?_ | refine rd_le ?_ | refine rd_gt ?_ | refine rd_ge ?_ | refine rd_ltS ?_ | refine rd_leS ?_ | refine rd_gtS ?_ | refine rd_geS ?_ | refine rd_isN ?_ | refine rd_notN ?_ | refine rd_eqI ?_ | refine rd_neI ?_
  | refine wg_tup rfl ?_ | refine wgs_cons ?_ | refine wg_name (by walk_at "px") (by simp) ?_ | refine wgs_nil ?_
  | refine ru_neg ?_ | refine ⟨(by show List.length _ ≤ 100000; simp), ?_⟩
  | refine rc_abs ?_ | refine rc_int1 ?_ | refine rc_min2 ?_ | refine rc_max2 ?_
  | refine ⟨_, rfl, ?_⟩ | fail)
local macro_rules | `(tactic| walk_at "go") => `(tactic| repeat' walk_at "s")

theorem ws_mid {G : Gx} {t u : TS} {ρ : DL.Env} {P : Post} (Mid : DL.Env → Prop) (h : WS G t ρ { P with nx := Mid }) (h2 : ∀ ρ', Mid ρ' → WS G u ρ' P) : WS G (tSeq t u) ρ P := ws_seq fun w σ D o e m => h w σ D o e ⟨fun w' σ' ρ' hm l o' => m.nx w' σ' ρ' (h2 ρ' hm) l o', m.rt, m.bk, m.ct⟩
theorem bits_mono {x y : Int} (h0 : 0 ≤ x) (h1 : x ≤ y) : Builtin.Int.intBits x ≤ Builtin.Int.intBits y := by
  unfold Builtin.Int.intBits
  by_cases z : x = 0
  · subst z
    rw [if_pos (by rfl)]
    exact Nat.zero_le _
  · rw [if_neg (by simpa using z), if_neg (by simpa using (show y ≠ 0 by omega))]
    have l : x.natAbs ≤ y.natAbs := by omega
    have n : x.natAbs ≠ 0 := by omega
    exact Nat.succ_le_succ ((Nat.le_log2 (by omega)).mpr (Nat.le_trans (Nat.log2_self_le n) l))
theorem bits_le {x : Int} {n : Nat} (h0 : 0 ≤ x) (h1 : x < 2 ^ n) (hn : 0 < n) : Builtin.Int.intBits x ≤ n := by
  unfold Builtin.Int.intBits
  split
  · exact Nat.zero_le _
  · have z : x.natAbs.log2 < n := PySem.Flt.log2_lt_of hn (by
      have e : ((x.natAbs : Nat) : Int) < ((2 ^ n : Nat) : Int) := by
        rw [show ((2 ^ n : Nat) : Int) = 2 ^ n by norm_cast]
        omega
      exact_mod_cast e)
    omega
theorem five {x : Int} (h0 : 0 ≤ x) (h1 : x < 2 ^ 100) : CPowW x 5 := by
  have b := bits_le (n := 100) h0 h1 (by decide)
  refine ⟨by decide, ?_⟩
  omega
theorem cell_at {cs : List Int} {i : Int} (h0 : 0 ≤ i) (h1 : i < cs.length) : ∃ c, atI (cs.map D.int) i = some (.int c) := by
  obtain ⟨k, rfl⟩ : ∃ k : Nat, i = (k : Int) := ⟨i.toNat, by omega⟩
  have hk : k < cs.length := by omega
  exact ⟨cs[k], atI_nat (by rw [List.getElem?_map, List.getElem?_eq_getElem hk]; rfl)⟩
/-- a draw: below size, the state one older -/
def c_Llaw_draw : CO := ⟨fun m ds k => ∃ n size, m = .ex n ∧ ds = [.int size] ∧ 0 < size ∧ size < 2 ^ 60 ∧ n ≤ 1000000 ∧ ∀ i : Int, 0 ≤ i → i < size → k (.ret (.sh (.int i))) (.ex (n + 1)), by
  rintro m ds k k' h ⟨n, size, e1, e2, g1, g2, g3, q⟩
  exact ⟨n, size, e1, e2, g1, g2, g3, fun i a b => h _ _ (q i a b)⟩⟩
theorem sc_Llaw_draw : FnScope ["state", "size", "cell", "one", "digit"] ["state", "size"] (defScope s_Llaw_draw) := ⟨rfl, rfl, rfl, by decide +kernel, rfl, by decide +kernel, by decide +kernel⟩
theorem ok_Llaw_draw (T : Tx K mg) : ∃ fd, DC.FnG prg wd K mg bs (L2.CX prg wd) 1 (He.ga K "_law_draw") fd ["state", "size"] (toSp K 2 c_Llaw_draw.con) ∧ L2.Binds K fd ["state", "size"] [] ∧ PySem.W.keepIn K (.ref (He.ga K "_law_draw")) = true := by
  obtain ⟨fd, F0⟩ := T.d_Llaw_draw
  refine ⟨fd, def_O (N := ["state", "size", "cell", "one", "digit"]) F0 sc_Llaw_draw rfl ?_, F0.bindsN fun _ _ _ _ _ _ us hl => match us, hl with | [_, _], _ => rfl, F0.kp⟩
  intro cdv A fr s H E v0 m0 ds kk gd room hc hl
  have hu := room.units
  have hu7 := room70 room
  have sc := sc_Llaw_draw
  refine ⟨_, (pss_cons (ps_augS (pv 0) pe_int DL.get_list pe_int ip_add set_list)
  (pss_cons (ps_while (passes_of rfl) (PW.pt (pw_and (pt_cmpR (op_neD hu) (pe_ix ix_seq (pv 0) pe_int (fun _ _ => rfl)) (pe_lst pa_nil) (nomark _)) (pw_and1 (pt_cmpR (op_eqD hu) (pe_ix ix_seq (pe_ix ix_seq (pv 0) pe_int (fun _ _ => rfl)) pe_int (fun _ _ => rfl)) pe_int (nomark _))))) (pss_one (ps_asg (pe_slice o_sl (pe_ix ix_seq (pv 0) pe_int (fun _ _ => rfl)) (po_some pe_int) po_none) (pg_sub (pv 0) pe_int set_list))))
  (pss_cons (ps_if (pt_cmpR (op_neD hu) (pe_ix ix_seq (pv 0) pe_int (fun _ _ => rfl)) (pe_lst pa_nil) (nomark _)) (pss_cons (ps_set (i := 4) sc.nd rfl (Or.inl rfl) (pe_op op_mod (pe_callTy call_int1 (by rfl) T.n_int (by decide +kernel) (pa_cons (pe_ix ix_seq (pe_ix ix_seq (pv 0) pe_int (fun _ _ => rfl)) pe_int (fun _ _ => rfl)) pa_nil)) (pv 1)))
    (pss_cons (ps_asg (pe_op op_fdivW (pe_ix ix_seq (pe_ix ix_seq (pv 0) pe_int (fun _ _ => rfl)) pe_int (fun _ _ => rfl)) (pv 1)) (pg_sub (pe_ix ix_seq (pv 0) pe_int (fun _ _ => rfl)) pe_int set_list))
    (pss_one (ps_ret (pv 4))))) pss_nil)
  (pss_cons (ps_set (i := 2) sc.nd rfl (Or.inl rfl) (pe_op op_mod (pe_callTy call_int1 (by rfl) T.n_int (by decide +kernel) (pa_cons (pe_ix ix_seq (pe_ix ix_seq (pv 0) pe_int (fun _ _ => rfl)) (pe_op op_mod (pe_callTy call_int1 (by rfl) T.n_int (by decide +kernel) (pa_cons (pe_ix ix_seq (pv 0) pe_int (fun _ _ => rfl)) pa_nil)) (pe_callB call_len (by rfl) T.n_len (by decide +kernel) (pa_cons (pe_ix ix_seq (pv 0) pe_int (fun _ _ => rfl)) pa_nil))) (fun _ _ => rfl)) pa_nil)) pe_int))
  (pss_cons (ps_set (i := 3) sc.nd rfl (Or.inl rfl) (pe_op op_mod (pe_callTy call_int1 (by rfl) T.n_int (by decide +kernel) (pa_cons (pe_op o_pow (pe_op o_add (pe_op o_add (pe_op o_mul (pv 2) pe_int) (pe_op o_mul (pe_ix ix_seq (pv 0) pe_int (fun _ _ => rfl)) pe_int)) pe_int) pe_int) pa_nil)) pe_int))
  (pss_one (ps_ret (pe_op op_mod (pe_op op_fdivW (pe_op op_mod (pe_callTy call_int1 (by rfl) T.n_int (by decide +kernel) (pa_cons (pe_op o_pow (pe_op o_add (pe_op o_add (pe_op o_mul (pv 3) pe_int) (pe_op o_mul (pe_ix ix_seq (pv 0) pe_int (fun _ _ => rfl)) pe_int)) pe_int) pe_int) pa_nil)) pe_int) pe_int) (pv 1))))))))), ?_⟩
  try dsimp only [L2.cxOf]
  obtain ⟨n, size, rfl, rfl, g1, g2, g3, q⟩ := hc
  refine ws_open (i := 0) rfl fun m hx => ?_
  obtain ⟨bl, cs, k, rfl, k0, kn, cne, cl, bl63, b0, bb, cb⟩ := hx.st
  refine ws_seq ?_
  refine ws_stInc rfl ?_
  show WS _ _ _ _
  refine ws_mid (fun ρ => ∃ bl' : List Int, bl'.length ≤ 63 ∧ (∀ b ∈ bl', 0 ≤ b) ∧ (∀ b ∈ bl', Builtin.Int.intBits b ≤ 1048576) ∧ ρ = [some (StM bl' cs (k + 1)), some (.sh (.int size)), none, none, none]) ?_ ?_
  · refine ws_while (fun l ρ => ∃ bl' : List Int, bl'.length = l ∧ l ≤ 63 ∧ (∀ b ∈ bl', 0 ≤ b) ∧ (∀ b ∈ bl', Builtin.Int.intBits b ≤ 1048576) ∧ ρ = [some (StM bl' cs (k + 1)), some (.sh (.int size)), none, none, none]) bl.length ⟨bl, rfl, bl63, b0, bb, rfl⟩ ?_
    rintro l ρ ⟨bl', rfl, l63, b0', bb', rfl⟩
    refine wt_and ?_
    refine wt_test ?_
    refine w_stNe rfl ?_
    refine ⟨_, rfl, ?_⟩
    cases bl' with
    | nil => exact ⟨[], by decide, b0', bb', rfl⟩
    | cons b r =>
      rw [if_pos (show (!(b :: r).isEmpty) = true from rfl)]
      refine wt_test ?_
      refine w_op ?_
      refine w_st00 rfl ?_
      walk_at "go"
      refine if_dec (fun z => ?_) (fun z => ?_)
      · refine ws_stTail rfl ?_
        exact ⟨r.length, by rw [List.length_cons]; omega, r, rfl, by rw [List.length_cons] at l63; omega, fun x h => b0' x (List.mem_cons_of_mem _ h), fun x h => bb' x (List.mem_cons_of_mem _ h), rfl⟩
      · exact ⟨b :: r, l63, b0', bb', rfl⟩
  rintro ρ ⟨bl', l63, b0', bb', rfl⟩
  refine ws_seq ?_
  refine ws_if ?_
  refine wt_test ?_
  refine w_stNe rfl ?_
  refine ⟨_, rfl, ?_⟩
  cases bl' with
  | cons b r =>
    rw [if_pos (show (!(b :: r).isEmpty) = true from rfl)]
    have hb0 := b0' b List.mem_cons_self
    refine ws_seq ?_
    refine ws_asg (by walk_at "px") ?_
    refine w_op ?_
    refine w_call ?_
    refine wa_cons ?_
    refine w_st00 rfl ?_
    walk_at "go"
    refine rd_mod g1 ?_
    walk_at "go"
    refine ws_stHead (b := b) (bl := r) (cs := cs) (k := k + 1) ⟨_, rfl⟩ ?_
    refine w_op ?_
    refine w_st00 rfl ?_
    walk_at "go"
    refine rd_div (wide_div (b := 61) g1 (by omega) (by decide) (by decide)) ?_
    refine ⟨_, rfl, rfl, ?_⟩
    show WS _ _ _ _
    refine ws_ret ?_
    refine w_seal (i := 0) (n := n + 1) ?_
    walk_at "go"
    have q0 : 0 ≤ b / size := Int.ediv_nonneg hb0 (by omega)
    have q1 : b / size ≤ b := Int.ediv_le_self _ hb0
    refine ⟨⟨b / size :: r, cs, k + 1, rfl, by omega, by omega, cne, cl, l63, ?_, ?_, cb⟩, ?_⟩
    · intro x h
      rcases List.mem_cons.mp h with h | h
      · subst h
        exact q0
      · exact b0' x (List.mem_cons_of_mem _ h)
    · intro x h
      rcases List.mem_cons.mp h with h | h
      · subst h
        exact Nat.le_trans (bits_mono q0 q1) (bb' b List.mem_cons_self)
      · exact bb' x (List.mem_cons_of_mem _ h)
    · exact ⟨_, rfl, q _ (Int.emod_nonneg _ (by omega)) (Int.emod_lt_of_pos _ g1)⟩
  | nil =>
    rw [if_neg (show ¬ (!([] : List Int).isEmpty) = true by decide)]
    walk_at "go"
    have c0 : 0 < cs.length := Nat.pos_of_ne_zero fun z => cne (List.eq_nil_of_length_eq_zero z)
    refine rc_lenL (.lst _) ?_
    refine rd_mod (by rw [List.length_map]; omega) ?_
    rw [List.length_map]
    obtain ⟨c, hc⟩ := cell_at (cs := cs) (i := (k + 1) % (cs.length : Int)) (Int.emod_nonneg _ (by omega)) (Int.emod_lt_of_pos _ (by omega))
    refine rd_ixL (.lst _) hc ?_
    walk_at "go"
    refine rd_mod (by decide) ?_
    have e0 : 0 ≤ c % 2147483647 := Int.emod_nonneg _ (by decide)
    have e1 : c % 2147483647 < 2147483647 := Int.emod_lt_of_pos _ (by decide)
    generalize c % 2147483647 = cell at e0 e1
    walk_at "go"
    refine rd_mul (cmulW (a := 40) (b := 40) (by omega) (by decide) (by decide)) ?_
    walk_at "go"
    refine rd_mul (cmulW (a := 40) (b := 40) (by omega) (by decide) (by decide)) ?_
    walk_at "go"
    refine rd_pow (five (by omega) (by omega)) ?_
    walk_at "go"
    refine rd_mod (by decide) ?_
    generalize hone : (cell * 48271 + (k + 1) * 40692 + 7) ^ (5 : Int).toNat % 2147483647 = one
    have o0 : 0 ≤ one := by rw [← hone]; exact Int.emod_nonneg _ (by decide)
    have o1 : one < 2147483647 := by rw [← hone]; exact Int.emod_lt_of_pos _ (by decide)
    clear hone
    refine ws_ret ?_
    refine w_seal (i := 0) (n := n + 1) ?_
    walk_at "go"
    refine rd_mul (cmulW (a := 40) (b := 40) (by omega) (by decide) (by decide)) ?_
    walk_at "go"
    refine rd_mul (cmulW (a := 40) (b := 40) (by omega) (by decide) (by decide)) ?_
    walk_at "go"
    refine rd_pow (five (by omega) (by omega)) ?_
    walk_at "go"
    refine rd_mod (by decide) ?_
    walk_at "go"
    refine rd_div (wide_div (b := 5) (by decide) (by decide) (by decide) (by decide)) ?_
    walk_at "go"
    refine rd_mod g1 ?_
    exact ⟨_, rfl, ⟨[], cs, k + 1, rfl, by omega, by omega, cne, cl, by decide, b0', bb', cb⟩, _, rfl, q _ (Int.emod_nonneg _ (by omega)) (Int.emod_lt_of_pos _ g1)⟩
theorem six {i : Int} (h0 : 0 ≤ i) (h1 : i < 6) : ∃ v, atI [D.int 1, .int 3, .int 5, .int 7, .int 9, .int 11] i = some (.int v) ∧ (0 ≤ v ∧ v ≤ 11) := by
  obtain rfl | rfl | rfl | rfl | rfl | rfl : i = 0 ∨ i = 1 ∨ i = 2 ∨ i = 3 ∨ i = 4 ∨ i = 5 := by omega
  all_goals exact ⟨_, rfl, by decide, by decide⟩
def lettersS (x : Str) : Prop := 1 ≤ x.length ∧ x.length ≤ 8 ∧ ∀ c ∈ x.cps.toList, 97 ≤ c ∧ c ≤ 122
theorem letters_app {x y : Str} (h0 : 1 ≤ x.length + y.length) (h1 : x.length ≤ 7) (h2 : y.length ≤ 7) (hx : ∀ c ∈ x.cps.toList, 97 ≤ c ∧ c ≤ 122) (hy : ∀ c ∈ y.cps.toList, 97 ≤ c ∧ c ≤ 122) (h3 : x.length + y.length ≤ 8 := by omega) : lettersS (x ++ y) := by
  have e : TL.tl (x ++ y) = TL.tl x ++ TL.tl y := TL.tl_append x y
  have l : (x ++ y).length = x.length + y.length := by rw [TL.len_tl, TL.len_tl, TL.len_tl, e, List.length_append]
  refine ⟨by omega, by omega, fun c hc => ?_⟩
  have hc2 : c ∈ TL.tl (x ++ y) := hc
  rw [e] at hc2
  exact (List.mem_append.mp hc2).elim (hx c) (hy c)
theorem alpha {i : Int} (h0 : 0 ≤ i) (h1 : i < 26) : ∃ c, atI (("abcdefghijklmnopqrstuvwxyz" : Str).cps.toList) i = some c ∧ 97 ≤ c ∧ c ≤ 122 := by
  obtain ⟨k, rfl⟩ : ∃ k : Nat, i = (k : Int) := ⟨i.toNat, by omega⟩
  have hk : k < 26 := by omega
  have all : ∀ k : Fin 26, ("abcdefghijklmnopqrstuvwxyz" : Str).cps.toList[k.val]? = some (97 + k.val) := by decide +kernel
  exact ⟨97 + k, atI_nat (all ⟨k, hk⟩), by omega, by omega⟩
theorem join_flat : ∀ l : List (List Nat), TL.joinL [] l = l.flatten
  | [] => rfl
  | [a] => by simp [TL.joinL]
  | a :: b :: r => by
    have ih := join_flat (b :: r)
    show a ++ ([] ++ TL.joinL [] (b :: r)) = a ++ (b :: r).flatten
    rw [ih, List.nil_append]
theorem stem_ok {ws : List Str} (h : ∀ w ∈ ws, ∃ c, w = ⟨#[c]⟩ ∧ 97 ≤ c ∧ c ≤ 122) : (Txt.join "" ws).length = ws.length ∧ ∀ c ∈ (Txt.join "" ws).cps.toList, 97 ≤ c ∧ c ≤ 122 := by
  have e : TL.tl (Txt.join "" ws) = (ws.map TL.tl).flatten := by
    rw [TL.join_eq, TL.tl_join, show TL.tl "" = [] from rfl, join_flat]
  constructor
  · rw [TL.len_tl, e]
    clear e
    induction ws with
    | nil => rfl
    | cons w r ih =>
      obtain ⟨c, rfl, _⟩ := h w List.mem_cons_self
      rw [List.map_cons, List.flatten_cons, List.length_append, ih fun x hx => h x (List.mem_cons_of_mem _ hx), List.length_cons]
      show 1 + r.length = Nat.succ r.length
      omega
  · intro c hc
    have hc2 : c ∈ TL.tl (Txt.join "" ws) := hc
    rw [e] at hc2
    obtain ⟨l, hl, hm⟩ := List.mem_flatten.mp hc2
    obtain ⟨w, hw, rfl⟩ := List.mem_map.mp hl
    obtain ⟨c', rfl, k1, k2⟩ := h w hw
    obtain rfl : c = c' := by simpa [TL.tl] using hm
    exact ⟨k1, k2⟩
theorem stem_sum {ws : List Str} (h : ∀ w ∈ ws, ∃ c, w = ⟨#[c]⟩ ∧ 97 ≤ c ∧ c ≤ 122) : (ws.map (·.length)).sum = ws.length := by
  induction ws with
  | nil => rfl
  | cons w r ih =>
    obtain ⟨c, rfl, _⟩ := h w List.mem_cons_self
    rw [List.map_cons, List.sum_cons, ih fun x hx => h x (List.mem_cons_of_mem _ hx), List.length_cons]
    show 1 + r.length = Nat.succ r.length
    omega
def c_Llaw_words : CO := ⟨fun m ds k => ∃ n, m = .ex n ∧ ds = [.int 1] ∧ n ≤ 900000 ∧ ∀ w n', goodS w → n' ≤ n + 50 → k (.ret (.sh (.lst [.str w]))) (.ex n'), by
  rintro m ds k k' h ⟨n, e1, e2, g3, q⟩
  exact ⟨n, e1, e2, g3, fun w n' a b => h _ _ (q w n' a b)⟩⟩
theorem sc_Llaw_words : FnScope ["state", "count", "signs", "stem", "plan", "found", "k", "odd", "start", "stride", "sign", "word"] ["state", "count"] (defScope s_Llaw_words) := ⟨rfl, rfl, rfl, by decide +kernel, rfl, by decide +kernel, by decide +kernel⟩
theorem ok_Llaw_words (T : Tx K mg) : ∃ fd, DC.FnG prg wd K mg bs (L2.CX prg wd) 2 (He.ga K "_law_words") fd ["state", "count"] (toSp K 2 c_Llaw_words.con) ∧ L2.Binds K fd ["state", "count"] [] ∧ PySem.W.keepIn K (.ref (He.ga K "_law_words")) = true := by
  obtain ⟨fd, F0⟩ := T.d_Llaw_words
  obtain ⟨_, F_Llaw_draw, b_Llaw_draw, k_Llaw_draw⟩ := ok_Llaw_draw (prg := prg) (wd := wd) (bs := bs) T
  refine ⟨fd, def_O (N := ["state", "count", "signs", "stem", "plan", "found", "k", "odd", "start", "stride", "sign", "word"]) F0 sc_Llaw_words rfl ?_, F0.bindsN fun _ _ _ _ _ _ us hl => match us, hl with | [_, _], _ => rfl, F0.kp⟩
  intro cdv A fr s H E v0 m0 ds kk gd room hc hl
  have hu := room.units
  have hu7 := room70 room
  have sc := sc_Llaw_words
  refine ⟨_, (pss_cons (ps_set (i := 2) sc.nd rfl (Or.inr rfl) pe_str)
  (pss_cons (ps_set (i := 3) sc.nd rfl (Or.inl rfl) (pe_join pe_str (pe_lc (own := [("k", 6)]) (g := (gName 6)) (tt := tYes) (by rfl) sc.nd (pi_range1 (by rfl) T.n_range (pa_cons (DC.pe_callG F_Llaw_draw gd (room.mono (by decide)) (by rfl) T.g__law_draw k_Llaw_draw b_Llaw_draw .nil (fun σ => passAt (takes_of rfl rfl rfl rfl) σ) (pa_cons (pv 0) (pa_cons pe_int pa_nil))) pa_nil)) (blkOk_by (own := [("k", 6)]) (N := ["state", "count", "signs", "stem", "plan", "found", "k", "odd", "start", "stride", "sign", "word"]) (sc := defScope s_Llaw_words) (by decide +kernel)) (fun _ _ _ _ _ => (pg_name (i := 6) sc.nd rfl (Or.inl rfl))) (fun _ _ _ _ _ => pts_nil) (fun _ _ _ _ _ => (pe_ix (o_ixK rfl) (pv 2) (DC.pe_callG F_Llaw_draw gd (room.mono (by decide)) (by rfl) T.g__law_draw k_Llaw_draw b_Llaw_draw .nil (fun σ => passAt takes0 σ) (pa_cons (pv 0) (pa_cons pe_int pa_nil))) (fun _ _ => rfl))))))
  (pss_cons (ps_par (i := 8) (j := 9) (by rfl) sc.nd rfl rfl (by decide) rfl rfl (pa_cons (DC.pe_callG F_Llaw_draw gd (room.mono (by decide)) (by rfl) T.g__law_draw k_Llaw_draw b_Llaw_draw .nil (fun σ => passAt (takes_of rfl rfl rfl rfl) σ) (pa_cons (pv 0) (pa_cons pe_int pa_nil))) (pa_cons (pe_ix ix_seq (pe_lst (pa_cons pe_int (pa_cons pe_int (pa_cons pe_int (pa_cons pe_int (pa_cons pe_int (pa_cons pe_int pa_nil))))))) (DC.pe_callG F_Llaw_draw gd (room.mono (by decide)) (by rfl) T.g__law_draw k_Llaw_draw b_Llaw_draw .nil (fun σ => passAt (takes_of rfl rfl rfl rfl) σ) (pa_cons (pv 0) (pa_cons pe_int pa_nil))) (fun _ _ => rfl)) pa_nil)) (by rfl))
  (pss_cons (ps_set (i := 4) sc.nd rfl (Or.inl rfl) (DC.pe_callG F_Llaw_draw gd (room.mono (by decide)) (by rfl) T.g__law_draw k_Llaw_draw b_Llaw_draw .nil (fun σ => passAt (takes_of rfl rfl rfl rfl) σ) (pa_cons (pv 0) (pa_cons pe_int pa_nil))))
  (pss_cons (ps_set (i := 5) sc.nd rfl (Or.inl rfl) (pe_lst pa_nil))
  (pss_cons (ps_for (passes_of rfl) rfl (pi_range1 (by rfl) T.n_range (pa_cons (pv 1) pa_nil)) (pg_name (i := 6) sc.nd rfl (Or.inl rfl)) (pss_cons (ps_set (i := 10) sc.nd rfl (Or.inl rfl) (pe_ix ix_seq (pv 2) (pe_op op_mod (pe_callTy call_int1 (by rfl) T.n_int (by decide +kernel) (pa_cons (pe_op o_add (pv 8) (pe_op o_mul (pv 9) (pv 6))) pa_nil)) pe_int) (fun _ _ => rfl)))
    (pss_one (ps_expr (pe_bm PySem.F.plainAttrs_list PySem.F.slot_list_append PySem.F.type_list_append mt_append (pv 5) (pa_cons (pe_ix ix_seq (pe_lst (pa_cons (pv 10) (pa_cons (pe_op o_add (pv 3) (pv 10)) (pa_cons (pe_op o_add (pv 10) (pv 3)) (pa_cons (pe_ix ix_seq (pe_lst (pa_cons (pv 10) (pa_cons (pe_op o_add (pv 3) (pv 10)) pa_nil))) (pe_op op_mod (pv 6) pe_int) (fun _ _ => rfl)) pa_nil))))) (pv 4) (fun _ _ => rfl)) pa_nil))))))
  (pss_cons (ps_setLc (i := 7) (own := [("word", 11)]) (g := (gName 11))  (by rfl) sc.nd rfl rfl (sw_true rfl rfl rfl (by decide +kernel)) (pi_list (pv 5)) (blkOk_by (own := [("word", 11)]) (N := ["state", "count", "signs", "stem", "plan", "found", "k", "odd", "start", "stride", "sign", "word"]) (sc := defScope s_Llaw_words) (by decide +kernel)) (fun _ _ _ _ _ => (pg_name (i := 11) sc.nd rfl (Or.inl rfl))) (fun _ _ _ _ _ => (pts_one (pt_cmpR (o_inK rfl) (pv 11) (pe_lst (pa_cons pe_str (pa_cons pe_str (pa_cons pe_str pa_nil)))) (by rfl)))) (fun _ _ _ _ _ => (pv 11)))
  (pss_one (ps_ret (pe_ifExp (pt_cmpR (op_eqD hu) (pv 7) (pe_lst pa_nil) (nomark _)) (pv 5) (pe_callTy (o_list rfl) (by rfl) T.n_list (by decide +kernel) (pa_cons (pe_slice o_sl (pv 2) po_none (po_some (pv 1))) pa_nil)))))))))))), ?_⟩
  try dsimp only [L2.cxOf]
  have cP := T.c_Pool
  have nu := T.no_Pool_unit
  have nm := T.no_Pool_money
  have ns := T.no_Pool_stock
  have nh := T.no_Pool_shares
  obtain ⟨n, rfl, rfl, hn, q⟩ := hc
  refine ws_seq ?_
  walk_at "s"
  walk_at "s"
  refine ws_seq ?_
  refine ws_asg (by walk_at "px") ?_
  refine w_join ?_
  walk_at "go"
  refine w_lc (sl := [6]) (by intro i hi; obtain rfl : i = 0 := by simpa using hi
                              decide) (by simp) ?_
  refine wi_rng1 ?_
  walk_at "go"
  refine ⟨rfl, n, 8, rfl, rfl, by omega, by omega, by omega, fun c c0 c1 => ⟨_, .sh _, ?_⟩⟩
  walk_at "go"
  refine ⟨by omega, by rw [intsD_len]; omega, fun i acc ρ => ∃ ws : List Str, ∃ n', acc = ws.map .str ∧ ws.length = i ∧ (∀ w ∈ ws, ∃ c, w = ⟨#[c]⟩ ∧ 97 ≤ c ∧ c ≤ 122) ∧ n' ≤ n + 1 + i ∧ ρ = [some (.ex n'), some (.sh (.int 1)), some (.sh (.str "abcdefghijklmnopqrstuvwxyz")), none, none, none, none, none, none, none, none, none], ⟨[], n + 1, rfl, rfl, (fun w h => by cases h), by omega, rfl⟩, ?_, ?_⟩
  · rintro i d acc ρ2 hd ⟨ws, n', rfl, hl, hw, hn', rfl⟩
    obtain ⟨hi, rfl⟩ := intsD_get hd
    walk_at "go"
    rw [if_pos rfl]
    walk_at "go"
    refine ⟨rfl, n', 26, rfl, rfl, by omega, by omega, by omega, fun x x0 x1 => ⟨_, .sh _, ?_⟩⟩
    obtain ⟨ch, hch, cl, cu⟩ := alpha x0 x1
    refine rd_ixS (by decide) hch ?_
    refine ⟨ws ++ [⟨#[ch]⟩], n' + 1, ?_, ?_, ?_, by omega, rfl⟩
    · rw [List.map_append]
      rfl
    · rw [List.length_append, hl]
      rfl
    · intro w h
      rcases (List.mem_append.mp h) with h | h
      · exact hw w h
      · exact ⟨ch, by simpa using h, cl, cu⟩
  rintro acc ρ2 ⟨ws, n2, rfl, hl, hw, hn2, rfl⟩
  rw [intsD_len] at hl hn2
  obtain ⟨st1, st2⟩ := stem_ok hw
  have sum1 := stem_sum hw
  refine ⟨ws, .lst _, by rw [sum1]; simp only [show ("" : Str).length = 0 from rfl]; omega, ?_⟩
  generalize Txt.join "" ws = stem at st1 st2
  walk_at "go"
  refine ⟨rfl, n2, 26, rfl, rfl, by omega, by omega, by omega, fun sta sa0 sa1 => ⟨_, .sh _, ?_⟩⟩
  walk_at "go"
  refine ⟨rfl, n2 + 1, 6, rfl, rfl, by omega, by omega, by omega, fun x x0 x1 => ⟨_, .sh _, ?_⟩⟩
  obtain ⟨str, hstr, sb⟩ := six x0 x1
  refine rd_ixL (.lst _) hstr ?_
  walk_at "go"
  refine ⟨_, _, rfl, ?_⟩
  show WS _ _ _ _
  walk_at "go"
  refine ⟨rfl, n2 + 2, 4, rfl, rfl, by omega, by omega, by omega, fun pl p0 p1 => ⟨_, .sh _, ?_⟩⟩
  refine ws_seq ?_
  refine ws_asgO (by walk_at "px") (by show 5 < 12; decide) ?_
  refine wo_lst ?_
  walk_at "go"
  refine ⟨rfl, ?_⟩
  refine ws_seq ?_
  refine ws_for (sl := [6]) ?_
  refine wi_rng1 ?_
  walk_at "go"
  refine ⟨by omega, ?_⟩
  refine ⟨fun i ρ => ∃ fs : List Str, ∃ kk2 sg, fs.length = i ∧ (∀ w ∈ fs, lettersS w) ∧ ρ = [some (.ex (n2 + 3)), some (.sh (.int 1)), some (.sh (.str "abcdefghijklmnopqrstuvwxyz")), some (.sh (.str stem)), some (.sh (.int pl)), some (.lst ((fs.map .str).map .sh)), kk2, none, some (.sh (.int sta)), some (.sh (.int str)), sg, none], ⟨[], _, _, rfl, (fun w h => by cases h), rfl⟩, ?_, ?_⟩
  · rintro i d ρ2 hd ⟨fs, kk2, sg, hl, hf, rfl⟩
    obtain ⟨hi, rfl⟩ := intsD_get hd
    obtain rfl : i = 0 := by
      have : i < 1 := hi
      omega
    obtain rfl : fs = [] := List.eq_nil_of_length_eq_zero hl
    walk_at "go"
    refine rd_mul (cmulW (a := 10) (b := 10) (by omega) (by decide) (by decide)) ?_
    walk_at "go"
    refine rd_mod (by decide) ?_
    walk_at "go"
    obtain ⟨ch, hch, cl, cu⟩ := alpha (i := (sta + str * (0 + ((0 : Nat) : Int))) % 26) (by omega) (by omega)
    refine rd_ixS (by decide) hch ?_
    show WS _ _ _ _
    refine ws_append ⟨_, rfl⟩ ?_
    have sg1 : lettersS ⟨#[ch]⟩ := ⟨by show 1 ≤ 1; decide, by show 1 ≤ 8; decide, fun c hc => by
      obtain rfl : c = ch := by simpa using hc
      exact ⟨cl, cu⟩⟩
    have len1 : (⟨#[ch]⟩ : Str).length = 1 := rfl
    have a1 : lettersS (stem ++ ⟨#[ch]⟩) := letters_app (by rw [len1]; omega) (by omega) (by rw [len1]; omega) st2 sg1.2.2 (by rw [len1]; omega)
    have a2 : lettersS (⟨#[ch]⟩ ++ stem) := letters_app (by rw [len1]; omega) (by rw [len1]; omega) (by omega) sg1.2.2 st2 (by rw [len1]; omega)
    walk_at "go"
    refine rd_addS (by rw [len1]; omega) ?_
    walk_at "go"
    refine rd_addS (by rw [len1]; omega) ?_
    walk_at "go"
    refine rd_addS (by rw [len1]; omega) ?_
    walk_at "go"
    refine rd_mod (by decide) ?_
    refine rd_ixL (.lst _) (i := (0 + ((0 : Nat) : Int)) % 2) (d := .str ⟨#[ch]⟩) rfl ?_
    walk_at "go"
    obtain ⟨v, hv, lv⟩ : ∃ v, atI [D.str ⟨#[ch]⟩, .str (stem ++ ⟨#[ch]⟩), .str (⟨#[ch]⟩ ++ stem), .str ⟨#[ch]⟩] pl = some (.str v) ∧ lettersS v := by
      obtain rfl | rfl | rfl | rfl : pl = 0 ∨ pl = 1 ∨ pl = 2 ∨ pl = 3 := by omega
      · exact ⟨_, rfl, sg1⟩
      · exact ⟨_, rfl, a1⟩
      · exact ⟨_, rfl, a2⟩
      · exact ⟨_, rfl, sg1⟩
    refine rd_ixL (.lst _) hv ?_
    refine ⟨_, rfl, by show 0 ≤ 90000; decide, [v], _, _, rfl, ?_, rfl⟩
    intro w hw
    obtain rfl : w = v := by simpa using hw
    exact lv
  · rintro ρ2 ⟨fs, kk2, sg, hl, hf, rfl⟩
    rw [intsD_len] at hl
    obtain ⟨w, rfl⟩ : ∃ w, fs = [w] := by
      match fs, hl with
      | [w], _ => exact ⟨w, rfl⟩
    have lw := hf w List.mem_cons_self
    show WS _ _ _ _
    refine ws_letBe (i := 5) rfl frz_lst (by walk_at "px") ?_
    refine ws_seq ?_
    refine ws_asg (by walk_at "px") ?_
    refine w_lc (sl := [11]) (by intro i hi; obtain rfl : i = 0 := by simpa using hi
                                 decide) (by simp) ?_
    refine wi_list ?_
    walk_at "go"
    refine ⟨by simp, fun i acc ρ => acc = (if i = 0 then [] else if ([D.str "house", .str "outside", .str "money"].any fun z => dEq z (.str w)) = true then [D.str w] else []) ∧ ρ = [some (.ex (n2 + 3)), some (.sh (.int 1)), some (.sh (.str "abcdefghijklmnopqrstuvwxyz")), some (.sh (.str stem)), some (.sh (.int pl)), some (.sh (.lst [.str w])), kk2, none, some (.sh (.int sta)), some (.sh (.int str)), sg, none], ⟨rfl, rfl⟩, ?_, ?_⟩
    · rintro i d acc ρ2 hd ⟨rfl, rfl⟩
      obtain rfl : i = 0 := by
        match i, hd with
        | 0, _ => rfl
        | i + 1, hd => simp at hd
      obtain rfl : D.str w = d := Option.some.inj hd
      rw [if_pos rfl]
      walk_at "go"
      refine rd_in (.inl (.lst _)) rfl rfl ?_
      refine ⟨_, rfl, ?_⟩
      refine if_b (fun hb => ?_) (fun hb => ?_)
      · walk_at "go"
        refine ⟨?_, rfl⟩
        rw [if_neg (by decide), if_pos hb]
        rfl
      · refine ⟨?_, rfl⟩
        rw [if_neg (by decide), if_neg (by rw [hb]; decide)]
    · rintro acc ρ2 ⟨rfl, rfl⟩
      rw [if_neg (show ¬ ([w].map D.str).length = 0 by simp)]
      show WS _ _ _ _
      have sok : PyData.strOk w = true := Array.all_eq_true_iff_forall_mem.mpr fun c hc => decide_eq_true (by have := (lw.2.2 c (Array.mem_toList_iff.mpr hc)).2; omega)
      by_cases hb : ([D.str "house", .str "outside", .str "money"].any fun z => dEq z (.str w)) = true
      · rw [if_pos hb]
        walk_at "go"
        have cl : (PyData.list [.str w]).canLay0 = true := by
          show (PyData.strOk w && true) = true
          rw [sok]
          rfl
        refine rd_eqD (p := .list [.str w]) (q := .list []) rfl rfl (by unfold SeqAt.shaped; rw [cl]; rfl) rfl ?_
        refine ⟨_, rfl, ?_⟩
        rw [if_neg (show ¬ PyData.eqv (.list [.str w]) (.list []) = true by show ¬ false = true; decide)]
        walk_at "go"
        refine rs_str (by decide) ?_
        walk_at "go"
        refine rc_listS (by decide) ?_
        refine ⟨_, rfl, ?_⟩
        exact q "a" (n2 + 3) ⟨by decide, by decide, by decide, by decide, by decide, by decide⟩ (by omega)
      · rw [if_neg hb]
        walk_at "go"
        refine rd_eqD (p := .list []) (q := .list []) rfl rfl rfl rfl ?_
        refine ⟨_, rfl, ?_⟩
        rw [if_pos (show PyData.eqv (.list []) (.list []) = true by decide)]
        walk_at "go"
        refine q w (n2 + 3) ⟨lw.1, lw.2.1, lw.2.2, ?_, ?_, ?_⟩ (by omega)
        · rintro rfl
          exact hb (by decide)
        · rintro rfl
          exact hb (by decide)
        · rintro rfl
          exact hb (by decide)
theorem intBits_neg (c : Int) : Builtin.Int.intBits (-c) = Builtin.Int.intBits c := by
  unfold Builtin.Int.intBits
  rw [Int.natAbs_neg]
  by_cases z : c = 0
  · subst z
    rfl
  · have z1 : (c == 0) = false := beq_eq_false_iff_ne.mpr z
    have z2 : (-c == 0) = false := beq_eq_false_iff_ne.mpr (by omega)
    rw [z1, z2]
def c_Llaw_start : CD := ⟨fun ds k => ∃ ns : List Int, ds = [.rol (ns.map .int)] ∧ ns.length ≤ 63 ∧ (∀ z ∈ ns, Builtin.Int.intBits z ≤ 1048576) ∧ k (.ret (.ex 0)), by
  rintro ds k k' h ⟨ns, e, g1, g2, q⟩
  exact ⟨ns, e, g1, g2, h _ q⟩⟩
theorem sc_Llaw_start : FnScope ["script", "cell"] ["script"] (defScope s_Llaw_start) := ⟨rfl, rfl, rfl, by decide +kernel, rfl, by decide +kernel, by decide +kernel⟩
theorem ok_Llaw_start (T : Tx K mg) : ∃ fd, DC.FnG prg wd K mg bs (L2.CX prg wd) 1 (He.ga K "_law_start") fd ["script"] (toSp K 1 c_Llaw_start.con) ∧ L2.Binds K fd ["script"] [] ∧ PySem.W.keepIn K (.ref (He.ga K "_law_start")) = true := by
  obtain ⟨fd, F0⟩ := T.d_Llaw_start
  refine ⟨fd, def_D (N := ["script", "cell"]) F0 sc_Llaw_start rfl ?_, F0.bindsN fun _ _ _ _ _ _ us hl => match us, hl with | [_], _ => rfl, F0.kp⟩
  intro cdv A fr s H E ds kk gd room hc hl
  have hu := room.units
  have hu7 := room70 room
  have sc := sc_Llaw_start
  refine ⟨_, (pss_one (ps_ret (pe_lst (pa_cons (pe_lc (own := [("cell", 1)]) (g := (gName 1))  (by rfl) sc.nd (pi_list (pv 0)) (blkOk_by (own := [("cell", 1)]) (N := ["script", "cell"]) (sc := defScope s_Llaw_start) (by decide +kernel)) (fun _ _ _ _ _ => (pg_name (i := 1) sc.nd rfl (Or.inl rfl))) (fun _ _ _ _ _ => (pts_one (pt_cmpR o_ge (pe_callB call_abs (by rfl) T.n_abs (by decide +kernel) (pa_cons (pv 1) pa_nil)) (pe_op o_pow pe_int pe_int) (nomark _)))) (fun _ _ _ _ _ => (pe_callB call_abs (by rfl) T.n_abs (by decide +kernel) (pa_cons (pv 1) pa_nil)))) (pa_cons (pe_op o_add (pe_callTy (o_list rfl) (by rfl) T.n_list (by decide +kernel) (pa_cons (pv 0) pa_nil)) (pe_lst (pa_cons pe_int pa_nil))) (pa_cons pe_int pa_nil)))))), ?_⟩
  try dsimp only [L2.cxOf]
  obtain ⟨ns, rfl, z1, z2, q⟩ := hc
  refine ws_retO ?_
  refine wo_ex (k := 0) ?_
  refine wo_lst1 ?_
  refine wo_lc (sl := [1]) (by intro i hi; cases hi) (by simp) ?_
  refine wi_rol ?_
  walk_at "go"
  refine ⟨by rw [List.length_map]; omega, fun i acc ρ => ∃ bl : List Int, acc = bl.map .int ∧ bl.length ≤ i ∧ (∀ b ∈ bl, 0 ≤ b ∧ Builtin.Int.intBits b ≤ 1048576) ∧ ρ = [some (.sh (.rol (ns.map .int))), none], ⟨[], rfl, Nat.le_refl _, (fun b h => by cases h), rfl⟩, ?_, ?_⟩
  · rintro i d acc ρ2 hd ⟨bl, rfl, hl, hb, rfl⟩
    rw [List.getElem?_map] at hd
    obtain ⟨c, hc1, hc2⟩ := Option.map_eq_some_iff.mp hd
    subst hc2
    have cb := z2 c (List.mem_of_getElem? hc1)
    walk_at "go"
    refine rd_pow ⟨by decide, by decide⟩ ?_
    walk_at "go"
    refine if_dec (fun big => ?_) (fun _ => ?_)
    · walk_at "go"
      refine ⟨bl ++ [if c < 0 then -c else c], ?_, ?_, ?_, rfl⟩
      · rw [List.map_append]
        rfl
      · rw [List.length_append]
        simp only [List.length_nil, List.length_cons]
        omega
      · intro b hb2
        rcases List.mem_append.mp hb2 with h | h
        · exact hb b h
        · obtain rfl : b = if c < 0 then -c else c := by simpa using h
          split
          · refine ⟨by omega, ?_⟩
            rw [intBits_neg]
            exact cb
          · exact ⟨by omega, cb⟩
    · exact ⟨bl, rfl, by omega, hb, rfl⟩
  · rintro acc ρ2 ⟨bl, rfl, hl, hb, rfl⟩
    rw [List.length_map] at hl
    walk_at "go"
    refine rc_listL (.rol _) ?_
    walk_at "go"
    refine rd_addL (.lst _) (.lst _) (by rw [List.length_map]; simp only [List.length_cons, List.length_nil]; omega) ?_
    walk_at "go"
    refine ⟨by simp, ⟨bl, ns ++ [5], 0, ?_, by omega, by omega, by simp, ?_, by omega, fun b h => (hb b h).1, fun b h => (hb b h).2, ?_⟩, q⟩
    · rw [List.map_append, List.map_map]
      rfl
    · rw [List.length_append]
      simp only [List.length_nil, List.length_cons]
      omega
    · intro c h
      rcases (List.mem_append.mp h) with h | h
      · exact z2 c h
      · obtain rfl : c = 5 := by simpa using h
        decide +kernel
def tri (m s h : Int) : D := .tup [.int m, .int s, .int h]
theorem three {a b c : Int} {i : Int} (h0 : 0 ≤ i) (h1 : i < 3) (pa : 0 < a ∧ a ≤ 9999) (pb : 0 < b ∧ b ≤ 9999) (pc : 0 < c ∧ c ≤ 9999) (top : Int) (ha : a ≤ top) (hb : b ≤ top) (hc : c ≤ top) : ∃ v, atI [D.int a, .int b, .int c] i = some (.int v) ∧ 0 < v ∧ v ≤ 9999 ∧ v ≤ top := by
  obtain rfl | rfl | rfl : i = 0 ∨ i = 1 ∨ i = 2 := by omega
  · exact ⟨a, rfl, pa.1, pa.2, ha⟩
  · exact ⟨b, rfl, pb.1, pb.2, hb⟩
  · exact ⟨c, rfl, pc.1, pc.2, hc⟩
def c_Llaw_pool : CO := ⟨fun m ds k => ∃ n, m = .ex n ∧ ds = [] ∧ n ≤ 900000 ∧ ∀ a b c : Int, 1 ≤ a → a ≤ 9999 → 1 ≤ b → b ≤ 99 → 1 ≤ c → c ≤ 9999 → k (.ret (.sh (tri a b c))) (.ex (n + 6)), by
  rintro m ds k k' h ⟨n, e1, e2, g3, q⟩
  exact ⟨n, e1, e2, g3, fun a b c a1 a2 b1 b2 c1 c2 => h _ _ (q a b c a1 a2 b1 b2 c1 c2)⟩⟩
theorem sc_Llaw_pool : FnScope ["state", "money", "goods"] ["state"] (defScope s_Llaw_pool) := ⟨rfl, rfl, rfl, by decide +kernel, rfl, by decide +kernel, by decide +kernel⟩
theorem ok_Llaw_pool (T : Tx K mg) : ∃ fd, DC.FnG prg wd K mg bs (L2.CX prg wd) 2 (He.ga K "_law_pool") fd ["state"] (toSp K 1 c_Llaw_pool.con) ∧ L2.Binds K fd ["state"] [] ∧ PySem.W.keepIn K (.ref (He.ga K "_law_pool")) = true := by
  obtain ⟨fd, F0⟩ := T.d_Llaw_pool
  obtain ⟨_, F_Llaw_draw, b_Llaw_draw, k_Llaw_draw⟩ := ok_Llaw_draw (prg := prg) (wd := wd) (bs := bs) T
  refine ⟨fd, def_O (N := ["state", "money", "goods"]) F0 sc_Llaw_pool rfl ?_, F0.bindsN fun _ _ _ _ _ _ us hl => match us, hl with | [_], _ => rfl, F0.kp⟩
  intro cdv A fr s H E v0 m0 ds kk gd room hc hl
  have hu := room.units
  have hu7 := room70 room
  have sc := sc_Llaw_pool
  refine ⟨_, (pss_cons (ps_set (i := 1) sc.nd rfl (Or.inl rfl) (pe_op o_add pe_int (DC.pe_callG F_Llaw_draw gd (room.mono (by decide)) (by rfl) T.g__law_draw k_Llaw_draw b_Llaw_draw .nil (fun σ => passAt (takes_of rfl rfl rfl rfl) σ) (pa_cons (pv 0) (pa_cons (pe_ix ix_seq (pe_lst (pa_cons pe_int (pa_cons pe_int (pa_cons pe_int pa_nil)))) (DC.pe_callG F_Llaw_draw gd (room.mono (by decide)) (by rfl) T.g__law_draw k_Llaw_draw b_Llaw_draw .nil (fun σ => passAt (takes_of rfl rfl rfl rfl) σ) (pa_cons (pv 0) (pa_cons pe_int pa_nil))) (fun _ _ => rfl)) pa_nil)))))
  (pss_cons (ps_set (i := 2) sc.nd rfl (Or.inl rfl) (pe_op o_add pe_int (DC.pe_callG F_Llaw_draw gd (room.mono (by decide)) (by rfl) T.g__law_draw k_Llaw_draw b_Llaw_draw .nil (fun σ => passAt (takes_of rfl rfl rfl rfl) σ) (pa_cons (pv 0) (pa_cons (pe_ix ix_seq (pe_lst (pa_cons pe_int (pa_cons pe_int (pa_cons pe_int pa_nil)))) (DC.pe_callG F_Llaw_draw gd (room.mono (by decide)) (by rfl) T.g__law_draw k_Llaw_draw b_Llaw_draw .nil (fun σ => passAt (takes_of rfl rfl rfl rfl) σ) (pa_cons (pv 0) (pa_cons pe_int pa_nil))) (fun _ _ => rfl)) pa_nil)))))
  (pss_one (ps_ret (pe_tup (pa_cons (pv 1) (pa_cons (pv 2) (pa_cons (pe_op o_add pe_int (DC.pe_callG F_Llaw_draw gd (room.mono (by decide)) (by rfl) T.g__law_draw k_Llaw_draw b_Llaw_draw .nil (fun σ => passAt (takes_of rfl rfl rfl rfl) σ) (pa_cons (pv 0) (pa_cons (pe_ix ix_seq (pe_lst (pa_cons pe_int (pa_cons pe_int (pa_cons pe_int pa_nil)))) (DC.pe_callG F_Llaw_draw gd (room.mono (by decide)) (by rfl) T.g__law_draw k_Llaw_draw b_Llaw_draw .nil (fun σ => passAt (takes_of rfl rfl rfl rfl) σ) (pa_cons (pv 0) (pa_cons pe_int pa_nil))) (fun _ _ => rfl)) pa_nil)))) pa_nil)))))))), ?_⟩
  try dsimp only [L2.cxOf]
  obtain ⟨n, rfl, rfl, g, q⟩ := hc
  walk_at "go"
  refine ⟨rfl, n, 3, rfl, rfl, by omega, by omega, by omega, fun i i0 i1 => ⟨_, .sh _, ?_⟩⟩
  obtain ⟨v, hv, v0, v1, v2⟩ := three (a := 9) (b := 200) (c := 9999) i0 i1 (by omega) (by omega) (by omega) 9999 (by omega) (by omega) (by omega)
  refine rd_ixL (.lst _) hv ?_
  walk_at "go"
  refine ⟨rfl, n + 1, v, rfl, rfl, by omega, by omega, by omega, fun a a0 a1 => ⟨_, .sh _, ?_⟩⟩
  walk_at "go"
  refine ⟨rfl, n + 2, 3, rfl, rfl, by omega, by omega, by omega, fun i i0 i1 => ⟨_, .sh _, ?_⟩⟩
  obtain ⟨w, hw, w0, w1, w2⟩ := three (a := 3) (b := 15) (c := 99) i0 i1 (by omega) (by omega) (by omega) 99 (by omega) (by omega) (by omega)
  refine rd_ixL (.lst _) hw ?_
  walk_at "go"
  refine ⟨rfl, n + 3, w, rfl, rfl, by omega, by omega, by omega, fun b b0 b1 => ⟨_, .sh _, ?_⟩⟩
  walk_at "go"
  refine ⟨rfl, n + 4, 3, rfl, rfl, by omega, by omega, by omega, fun i i0 i1 => ⟨_, .sh _, ?_⟩⟩
  obtain ⟨x, hx, x0, x1, x2⟩ := three (a := 5) (b := 100) (c := 9999) i0 i1 (by omega) (by omega) (by omega) 9999 (by omega) (by omega) (by omega)
  refine rd_ixL (.lst _) hx ?_
  walk_at "go"
  refine ⟨rfl, n + 5, x, rfl, rfl, by omega, by omega, by omega, fun c c0 c1 => ⟨_, .sh _, ?_⟩⟩
  walk_at "go"
  exact (q (1 + a) (1 + b) (1 + c) (by omega) (by omega) (by omega) (by omega) (by omega) (by omega))
end K24

namespace K24
open PySem PySem.Spec PyProof.Rows L2 DL
/-! ### words put in, struck, changed about -/
def jl (ws : List Str) : Nat := (ws.map (·.length)).sum + ws.length
theorem jl_nil : jl [] = 0 := rfl
theorem jl_cons (w : Str) (ws : List Str) : jl (w :: ws) = w.length + 1 + jl ws := by
  unfold jl
  rw [List.map_cons, List.sum_cons, List.length_cons]
  omega
theorem jl_app (a b : List Str) : jl (a ++ b) = jl a + jl b := by
  unfold jl
  rw [List.map_append, List.sum_append, List.length_append]
  omega
theorem jl_cut (a : List Str) (i : Nat) : jl (a.take i) + jl (a.drop i) = jl a := by
  rw [← jl_app, List.take_append_drop]
theorem jl_mem {ws : List Str} {w : Str} (h : w ∈ ws) : w.length + 1 ≤ jl ws := by
  induction ws with
  | nil => cases h
  | cons a r ih =>
    rw [jl_cons]
    rcases List.mem_cons.mp h with h | h
    · subst h
      omega
    · have := ih h
      omega
theorem jl_erase (a : List Str) (i : Nat) : jl (a.eraseIdx i) ≤ jl a := by
  induction a generalizing i with
  | nil => exact Nat.le_refl _
  | cons w r ih =>
    cases i with
    | zero =>
      rw [List.eraseIdx_cons_zero, jl_cons]
      omega
    | succ i =>
      rw [List.eraseIdx_cons_succ, jl_cons, jl_cons]
      have := ih i
      omega
theorem jl_set (a : List Str) (i : Nat) (d : Str) : jl (a.set i d) ≤ jl a + d.length := by
  induction a generalizing i with
  | nil => exact Nat.le_add_right _ _
  | cons w r ih =>
    cases i with
    | zero =>
      rw [List.set_cons_zero, jl_cons, jl_cons]
      omega
    | succ i =>
      rw [List.set_cons_succ, jl_cons, jl_cons]
      have := ih i
      omega
def plainS (x : Str) : Prop := ∀ c ∈ sg x, c < 128
theorem join_ok : ∀ {ws : List Str}, (∀ w ∈ ws, plainS w) → (Txt.join " " ws).length ≤ jl ws ∧ plainS (Txt.join " " ws)
  | [], _ => ⟨by rw [sg_len, show sg (Txt.join " " []) = [] by rw [TL.join_eq, show sg (Str.join " " []) = TL.tl (Str.join " " []) from rfl, TL.tl_join]; rfl]; exact Nat.zero_le _, by
    intro c hc
    rw [show sg (Txt.join " " []) = [] by rw [TL.join_eq, show sg (Str.join " " []) = TL.tl (Str.join " " []) from rfl, TL.tl_join]; rfl] at hc
    cases hc⟩
  | [w], h => by
    have e : sg (Txt.join " " [w]) = sg w := by rw [TL.join_eq, show sg (Str.join " " [w]) = TL.tl (Str.join " " [w]) from rfl, TL.tl_join]; rfl
    refine ⟨?_, fun c hc => h w List.mem_cons_self c (by rw [← e]; exact hc)⟩
    rw [sg_len, e, ← sg_len, jl_cons]
    omega
  | w :: x :: r, h => by
    obtain ⟨i1, i2⟩ := join_ok (ws := x :: r) fun z hz => h z (List.mem_cons_of_mem _ hz)
    have e : sg (Txt.join " " (w :: x :: r)) = sg w ++ ([32] ++ sg (Txt.join " " (x :: r))) := by
      rw [TL.join_eq, show sg (Str.join " " (w :: x :: r)) = TL.tl (Str.join " " (w :: x :: r)) from rfl, TL.tl_join, TL.join_eq, show sg (Str.join " " (x :: r)) = TL.tl (Str.join " " (x :: r)) from rfl, TL.tl_join, show TL.tl (" " : Str) = [32] from sp1]
      rfl
    constructor
    · rw [sg_len, e, List.length_append, List.length_append, ← sg_len, ← sg_len, jl_cons]
      simp only [List.length_nil, List.length_cons]
      omega
    · intro c hc
      rw [e] at hc
      rcases (List.mem_append.mp hc) with hc | hc
      · exact h w List.mem_cons_self c hc
      · rcases (List.mem_append.mp hc) with hc | hc
        · rw [List.mem_singleton.mp hc]
          decide
        · exact i2 c hc
/-! ### lists of signs -/
theorem py_signs : ∀ L : List Nat, (D.lst (L.map fun c => .str ⟨#[c]⟩)).py = some (.list (L.map fun c => .str ⟨#[c]⟩)) := fun L => by
  have e : ∀ L : List Nat, D.pys (L.map fun c => .str ⟨#[c]⟩) = some (L.map fun c => .str ⟨#[c]⟩) := fun L => by
    induction L with
    | nil => rfl
    | cons c r ih =>
      rw [List.map_cons, (List.map_cons)]
      show (match D.py (.str ⟨#[c]⟩) with | some p => (D.pys (r.map fun c => .str ⟨#[c]⟩)).map (p :: ·) | none => none) = _
      rw [ih]
      rfl
  show (D.pys (L.map fun c => .str ⟨#[c]⟩)).map PyData.list = _
  rw [e]
  rfl
theorem shp_signs {L : List Nat} (h : ∀ c ∈ L, c < 128) : SeqAt.shaped (.list (L.map fun c => .str ⟨#[c]⟩)) = true := by
  have e1 : PyData.canLayAll0 (L.map fun c => .str ⟨#[c]⟩) = true := by
    induction L with
    | nil => rfl
    | cons c r ih =>
      rw [List.map_cons]
      show (PyData.strOk ⟨#[c]⟩ && PyData.canLayAll0 (r.map fun c => .str ⟨#[c]⟩)) = true
      rw [ih fun x hx => h x (List.mem_cons_of_mem _ hx), Bool.and_true]
      refine Array.all_eq_true_iff_forall_mem.mpr fun x hx => decide_eq_true ?_
      obtain rfl : x = c := by simpa using hx
      have := h x List.mem_cons_self
      omega
  have e2 : PyData.depthAll (L.map fun c => .str ⟨#[c]⟩) ≤ 1 := by
    clear e1 h
    induction L with
    | nil => exact Nat.zero_le _
    | cons c r ih =>
      rw [List.map_cons]
      show max (PyData.depth (.str ⟨#[c]⟩)) (PyData.depthAll (r.map fun c => .str ⟨#[c]⟩)) ≤ 1
      have : PyData.depth (.str ⟨#[c]⟩) ≤ 1 := by simp [PyData.depth]
      omega
  have e3 : PyData.canLay0 (.list (L.map fun c => .str ⟨#[c]⟩)) = true := e1
  have e4 : PyData.depth (.list (L.map fun c => .str ⟨#[c]⟩)) ≤ 64 := by
    simp only [PyData.depth]
    omega
  unfold SeqAt.shaped
  rw [e3, decide_eq_true e4]
  rfl
theorem eqv_signs (L : List Nat) : PyData.eqv (.list (L.map fun c => .str ⟨#[c]⟩)) (.list []) = decide (L = []) := by
  cases L with
  | nil => rfl
  | cons c r => rfl
theorem filt_all {p : Nat → Bool} : ∀ {l : List Nat}, decide (l.filter (fun c => !p c) = []) = l.all p := fun {l} => by
  rw [Bool.eq_iff_iff]
  simp only [decide_eq_true_eq, List.filter_eq_nil_iff, List.all_eq_true, Bool.not_eq_true', Bool.not_eq_false]
theorem filt_yes {p : Nat → Bool} {l : List Nat} {c : Nat} (h : p c = true) : (l ++ [c]).filter p = l.filter p ++ [c] := by
  rw [List.filter_append, List.filter_cons_of_pos h, List.filter_nil]
theorem filt_no {p : Nat → Bool} {l : List Nat} {c : Nat} (h : ¬ p c = true) : (l ++ [c]).filter p = l.filter p := by
  rw [List.filter_append, List.filter_cons_of_neg h, List.filter_nil, List.append_nil]
/-! ### what is shown -/
theorem strOk_iff {x : Str} : PyData.strOk x = true ↔ ∀ c ∈ sg x, c < 0x110000 := by
  unfold PyData.strOk
  rw [Array.all_eq_true_iff_forall_mem]
  constructor
  · intro h c hc
    have := h c (Array.mem_toList_iff.mp hc)
    simpa using this
  · intro h c hc
    have := h c (Array.mem_toList_iff.mpr hc)
    simpa using this
/-- it can be shown, in few signs -/
structure Shw (v : D) (p : PyData) : Prop where
  py : v.pyR = some p
  sh : p.showable = true
  dp : p.depth ≤ 60
  len : p.shown.length ≤ 1000
  ok : PyData.strOk p.shown = true
theorem shw_two {n : Str} {v : D} {p : PyData} (h : Shw v p) (ln : (reprText n).length ≤ 100) (ok : PyData.strOk (reprText n) = true) : (D.lst [.str n, v]).pyR = some (.list [.str n, p]) ∧ (PyData.list [.str n, p]).showable = true ∧ (PyData.list [.str n, p]).depth ≤ 64 ∧ (PyData.list [.str n, p]).shown.length ≤ 100000 ∧ PyData.strOk (PyData.list [.str n, p]).shown = true := by
  have e : sg (PyData.list [.str n, p]).shown = 91 :: (sg (reprText n) ++ ([44, 32] ++ (sg p.shown ++ [93]))) := by
    have e0 : (PyData.list [.str n, p]).shown = listText [reprText n, p.shown] := by simp only [PyData.shown, PyData.shownAll]
    rw [e0]
    show sg ((((("[" : Str) ++ ((if (0 : Nat) > 0 then ", " else "" : String) : Str) ++ reprText n) ++ ((if (0 + 1 : Nat) > 0 then ", " else "" : String) : Str) ++ p.shown)) ++ ("]" : Str)) = _
    rw [if_neg (by decide), if_pos (by decide)]
    simp only [sg_app, show sg ("[" : Str) = [91] by decide +kernel, show sg ("" : Str) = [] by decide +kernel, show sg (", " : Str) = [44, 32] by decide +kernel, show sg ("]" : Str) = [93] by decide +kernel, List.append_nil, List.append_assoc, List.cons_append, List.nil_append]
  refine ⟨?_, ?_, ?_, ?_, ?_⟩
  · show (match D.pyR (.str n) with | some p => (D.pysR [v]).map (p :: ·) | none => none).map PyData.list = _
    show ((D.pysR [v]).map (PyData.str n :: ·)).map PyData.list = _
    have : D.pysR [v] = some [p] := by
      show (match D.pyR v with | some p => (D.pysR []).map (p :: ·) | none => none) = _
      rw [h.py]
      rfl
    rw [this]
    rfl
  · show (true && (p.showable && true)) = true
    rw [h.sh]
    rfl
  · simp only [PyData.depth, PyData.depthAll]
    have := h.dp
    omega
  · rw [sg_len, e]
    simp only [List.length_cons, List.length_append, List.length_nil]
    rw [← sg_len, ← sg_len]
    have := h.len
    omega
  · refine strOk_iff.mpr fun c hc => ?_
    rw [e] at hc
    have h1 := strOk_iff.mp ok
    have h2 := strOk_iff.mp h.ok
    rcases List.mem_cons.mp hc with hc | hc
    · omega
    rcases (List.mem_append.mp hc) with hc | hc
    · exact h1 c hc
    rcases (List.mem_append.mp hc) with hc | hc
    · simp only [List.mem_cons, List.not_mem_nil, or_false] at hc
      omega
    rcases (List.mem_append.mp hc) with hc | hc
    · exact h2 c hc
    · simp only [List.mem_cons, List.not_mem_nil, or_false] at hc
      omega
end K24

namespace K24
open PySem PySem.Spec PyProof.Rows L2 DL
variable {prg : Program} {wd : World} {K : PySem.W.Frag} {mg : Str → Option Value} {bs : Heap}
local macro_rules | `(tactic| walk_at "px") => `(tactic| first | exact List.not_mem_nil | (show _ ∉ ([0] : List Nat); decide) | (show _ ∉ ([] : List Nat); decide) | fail)
local macro_rules | `(tactic| walk_at "s") => `(tactic| with_reducible first
  | refine ws_seq ?_ | refine ws_if ?_ | refine ws_next ?_ | refine ws_ret ?_ | refine ws_retN ?_ | refine ws_asg (by walk_at "px") ?_ | refine ws_par (by walk_at "px") (by walk_at "px") ?_
  | refine w_var (by with_unfolding_all rfl) ?_ | refine w_int ?_ | refine w_bl ?_ | refine w_non ?_ | refine w_str ?_ | refine w_dnew ?_ | refine w_ty ?_ | refine w_fun ?_
  | refine w_split ?_ | refine w_op ?_ | refine w_un ?_ | refine w_fld ?_ | refine w_xf ?_ | refine wt_test ?_ | refine wt_B ?_ | refine wt_yes ?_ | refine wt_and ?_ | refine wt_or ?_ | refine wt_not ?_ | refine w_andV ?_ | refine w_orV ?_ | refine w_notV ?_ | refine w_ifE ?_ | refine w_chain ?_
  | refine wa_nil ?_ | refine wa_cons ?_ | refine w_tup ?_ | refine w_lst ?_ | refine w_slice ?_ | refine wp_no ?_ | refine wp_int ?_
  | refine w_cd repL_nil ?_ | refine w_md repL_nil ?_ | refine w_mk repL_nil ?_ | refine w_co repL_nil ⟨_, by with_unfolding_all rfl⟩ ?_ | refine w_lenO (by with_unfolding_all rfl) ?_ | refine w_call ?_
  | refine rd_add ?_ | refine rd_sub ?_ | refine rd_lt ?_ | refine rd_le ?_ | refine rd_gt ?_ | refine rd_ge ?_ | refine rd_ltS ?_ | refine rd_leS ?_ | refine rd_gtS ?_ | refine rd_geS ?_ | refine rd_isN ?_ | refine rd_notN ?_ | refine rd_eqI ?_ | refine rd_neI ?_
  | refine wg_tup rfl ?_ | refine wgs_cons ?_ | refine wg_name (by walk_at "px") (by simp) ?_ | refine wgs_nil ?_
  | refine ru_neg ?_ | refine ⟨(by show List.length _ ≤ 100000; simp), ?_⟩
  | refine rc_abs ?_ | refine rc_int1 ?_ | refine rc_min2 ?_ | refine rc_max2 ?_
  | refine ⟨_, rfl, ?_⟩ | fail)
local macro_rules | `(tactic| walk_at "go") => `(tactic| repeat' walk_at "s")

def c_Llaw_is_word : CD := ⟨fun ds k => ∃ v t, ds = [v] ∧ TyB v t ∧ okV v ∧ k (.ret (.sh (.bl (goodB v)))), by
  rintro ds k k' h ⟨v, t, e, ty, s, q⟩
  exact ⟨v, t, e, ty, s, h _ q⟩⟩
theorem good_not {v : D} (h : nameB v = false) : goodB v = false := by
  unfold goodB
  rw [h]
  rfl
theorem sc_Llaw_is_word : FnScope ["thing", "sign"] ["thing"] (defScope s_Llaw_is_word) := ⟨rfl, rfl, rfl, by decide +kernel, rfl, by decide +kernel, by decide +kernel⟩
theorem ok_Llaw_is_word (T : Tx K mg) : ∃ fd, DC.FnG prg wd K mg bs (L2.CX prg wd) 1 (He.ga K "_law_is_word") fd ["thing"] (toSp K 1 c_Llaw_is_word.con) ∧ L2.Binds K fd ["thing"] [] ∧ PySem.W.keepIn K (.ref (He.ga K "_law_is_word")) = true := by
  obtain ⟨fd, F0⟩ := T.d_Llaw_is_word
  refine ⟨fd, def_D (N := ["thing", "sign"]) F0 sc_Llaw_is_word rfl ?_, F0.bindsN fun _ _ _ _ _ _ us hl => match us, hl with | [_], _ => rfl, F0.kp⟩
  intro cdv A fr s H E ds kk gd room hc hl
  have hu := room.units
  have hu7 := room70 room
  have sc := sc_Llaw_is_word
  refine ⟨_, (pss_cons (ps_if (PW.pt (pw_or (pt_not (pt_val (pe_callB call_isi (by rfl) T.n_isinstance (by decide +kernel) (pa_cons (pv 0) (pa_cons (pe_bltn (by rfl) T.n_str (by decide +kernel) (show RelV (.ty "str") (.type "str") from rfl)) pa_nil))))) (pw_or (pt_not (pt_chain o_le o_le pe_int (pe_callB call_len (by rfl) T.n_len (by decide +kernel) (pa_cons (pv 0) pa_nil)) pe_int)) (pw_or1 (pt_cmpR o_in (pv 0) (pe_lst (pa_cons pe_str (pa_cons pe_str (pa_cons pe_str pa_nil)))) (by rfl)))))) (pss_one (ps_ret pe_bl)) pss_nil)
  (pss_one (ps_ret (pe_cmpR (op_eqD hu) (pe_lc (own := [("sign", 1)]) (g := (gName 1))  (by rfl) sc.nd (pi_str (pv 0)) (blkOk_by (own := [("sign", 1)]) (N := ["thing", "sign"]) (sc := defScope s_Llaw_is_word) (by decide +kernel)) (fun _ _ _ _ _ => (pg_name (i := 1) sc.nd rfl (Or.inl rfl))) (fun _ _ _ _ _ => (pts_one (pt_cmpR (o_notInK rfl) (pv 1) pe_str (by rfl)))) (fun _ _ _ _ _ => (pv 1))) (pe_lst pa_nil) (nomark _))))), ?_⟩
  try dsimp only [L2.cxOf]
  obtain ⟨v, t, rfl, ty, ok, q⟩ := hc
  walk_at "go"
  refine rc_isStr ⟨t, ty⟩ ?_
  refine ⟨_, rfl, ?_⟩
  refine if_nb (fun z => ?_) (fun z => ?_)
  · have e : nameB v = false := by cases ty <;> first | rfl | cases z
    rw [good_not e] at q
    rw [if_pos rfl]
    walk_at "go"
    exact q
  obtain ⟨x, rfl⟩ : ∃ x, v = .str x := by cases ty <;> first | exact ⟨_, rfl⟩ | cases z
  have ok : okT 20000 x := ok
  have ln := ok.1
  have en : nameB (.str x) = (decide (1 ≤ x.length ∧ x.length ≤ 8) && azB x) := rfl
  have eg : goodB (.str x) = (nameB (.str x) && !resB (.str x)) := rfl
  walk_at "go"
  refine rc_lenS (by omega) ?_
  walk_at "go"
  refine if_dec (fun a1 => ?_) (fun a1 => ?_)
  rotate_left
  · rw [good_not (by rw [en, decide_eq_false (fun z => a1 (by omega)), Bool.false_and])] at q
    refine ⟨_, rfl, ?_⟩
    rw [if_pos (by decide)]
    rw [if_pos rfl]
    walk_at "go"
    exact q
  walk_at "go"
  refine if_ndec (fun a2 => ?_) (fun a2 => ?_)
  · rw [good_not (by rw [en, decide_eq_false (fun z => a2 (by omega)), Bool.false_and])] at q
    rw [if_pos rfl]
    walk_at "go"
    exact q
  have en : nameB (.str x) = azB x := by
    rw [en, decide_eq_true (by omega), Bool.true_and]
  walk_at "go"
  refine rd_in (.inl (.lst _)) rfl rfl ?_
  refine ⟨_, rfl, ?_⟩
  have er : ([D.str "house", .str "outside", .str "money"].any fun z => dEq z (.str x)) = resB (.str x) := rfl
  rw [er]
  cases hr : resB (.str x) with
  | true =>
    rw [hr, Bool.not_true, Bool.and_false] at eg
    rw [eg] at q
    rw [if_pos rfl]
    walk_at "go"
    exact q
  | false =>
  rw [hr, Bool.not_false, Bool.and_true, en] at eg
  rw [eg] at q
  rw [if_neg (by decide)]
  walk_at "go"
  refine w_lc (sl := [1]) (by intro i hi; cases hi) (by simp) ?_
  refine wi_str ?_
  walk_at "go"
  refine ⟨by rw [List.length_map, Array.length_toList]; show x.length ≤ 90000; omega, fun i acc ρ => acc = (((sg x).take i).filter fun c => !decide (97 ≤ c ∧ c ≤ 122)).map (fun c => .str ⟨#[c]⟩) ∧ ρ = [some (.sh (.str x)), none], ⟨rfl, rfl⟩, ?_, ?_⟩
  · rintro i d acc ρ2 hd ⟨rfl, rfl⟩
    refine wg_name (by walk_at "px") (by simp) ?_
    walk_at "go"
    rw [List.getElem?_map] at hd
    obtain ⟨c, hc1, hc2⟩ := Option.map_eq_some_iff.mp hd
    subst hc2
    have et : (sg x).take (i + 1) = (sg x).take i ++ [c] := by rw [List.take_add_one, show (sg x)[i]? = some c from hc1]; rfl
    refine rd_niS ?_
    refine ⟨_, rfl, ?_⟩
    have em : decide (c ∈ ("abcdefghijklmnopqrstuvwxyz" : Str).cps.toList) = decide (97 ≤ c ∧ c ≤ 122) := by
      rw [Bool.eq_iff_iff]
      simp only [decide_eq_true_eq]
      exact mem_az c
    rw [show decide (c ∈ (Str.ofString "abcdefghijklmnopqrstuvwxyz").cps.toList) = decide (97 ≤ c ∧ c ≤ 122) from em]
    cases hb : decide (97 ≤ c ∧ c ≤ 122) with
    | true =>
      rw [if_neg (by decide)]
      refine ⟨?_, rfl⟩
      rw [et, filt_no (by rw [hb]; decide)]
    | false =>
      rw [if_pos (by decide)]
      walk_at "go"
      refine ⟨?_, rfl⟩
      rw [et, filt_yes (by rw [hb]; rfl), List.map_append]
      rfl
  · rintro acc ρ2 ⟨rfl, rfl⟩
    walk_at "go"
    rw [(List.length_map ..), List.take_length]
    refine rd_eqD (py_signs _) (q := .list []) rfl (shp_signs fun c hc => ok.2 c (List.mem_filter.mp hc).1) rfl ?_
    rw [eqv_signs, filt_all]
    exact q
def c_Llaw_parsed : CD := ⟨fun ds k => ∃ v t, ds = [v] ∧ TyB v t ∧ okV v ∧ k (.ret (.sh (parseD v))), by
  rintro ds k k' h ⟨v, t, e, ty, s, q⟩
  exact ⟨v, t, e, ty, s, h _ q⟩⟩
theorem pnum_law {w : Str} {c : Nat} {r : List Nat} (h : sg w = c :: r) : pnumB w = (decide (w.length ≤ 9) && ((sg w).all (fun c => decide (48 ≤ c ∧ c ≤ 57)) && !decide (c = 48))) := by
  unfold pnumB dgB
  rw [h]
  rw [Bool.eq_iff_iff]
  simp only [List.head?_cons, Option.some.injEq, Bool.and_eq_true, Bool.not_eq_true', decide_eq_false_iff_not, decide_eq_true_eq]
  constructor
  · rintro ⟨_, h1, h2, h3⟩
    exact ⟨h3, h1, h2⟩
  · rintro ⟨h3, h1, h2⟩
    exact ⟨by simp, h1, h2, h3⟩
theorem sc_Llaw_parsed : FnScope ["text", "words", "word", "sign"] ["text"] (defScope s_Llaw_parsed) := ⟨rfl, rfl, rfl, by decide +kernel, rfl, by decide +kernel, by decide +kernel⟩
theorem ok_Llaw_parsed (T : Tx K mg) : ∃ fd, DC.FnG prg wd K mg bs (L2.CX prg wd) 2 (He.ga K "_law_parsed") fd ["text"] (toSp K 1 c_Llaw_parsed.con) ∧ L2.Binds K fd ["text"] [] ∧ PySem.W.keepIn K (.ref (He.ga K "_law_parsed")) = true := by
  obtain ⟨fd, F0⟩ := T.d_Llaw_parsed
  obtain ⟨_, F_Llaw_is_word, b_Llaw_is_word, k_Llaw_is_word⟩ := ok_Llaw_is_word (prg := prg) (wd := wd) (bs := bs) T
  refine ⟨fd, def_D (N := ["text", "words", "word", "sign"]) F0 sc_Llaw_parsed rfl ?_, F0.bindsN fun _ _ _ _ _ _ us hl => match us, hl with | [_], _ => rfl, F0.kp⟩
  intro cdv A fr s H E ds kk gd room hc hl
  have hu := room.units
  have hu7 := room70 room
  have sc := sc_Llaw_parsed
  refine ⟨_, (pss_cons (ps_if (pt_not (pt_val (pe_callB call_isi (by rfl) T.n_isinstance (by decide +kernel) (pa_cons (pv 0) (pa_cons (pe_bltn (by rfl) T.n_str (by decide +kernel) (show RelV (.ty "str") (.type "str") from rfl)) pa_nil))))) (pss_one (ps_ret pe_non)) pss_nil)
  (pss_cons (ps_set (i := 1) sc.nd rfl (Or.inl rfl) (pe_split (pv 0) pe_str))
  (pss_cons (ps_if (PW.pt (pw_or (pt_cmpR (op_neD hu) (pe_callB call_len (by rfl) T.n_len (by decide +kernel) (pa_cons (pv 1) pa_nil)) pe_int (nomark _)) (pw_or (pt_cmpR (op_neD hu) (pe_ix ix_seq (pv 1) pe_int (fun _ _ => rfl)) pe_str (nomark _)) (pw_or1 (pt_not (pt_val (DC.pe_callG F_Llaw_is_word gd (room.mono (by decide)) (by rfl) T.g__law_is_word k_Llaw_is_word b_Llaw_is_word .nil (fun σ => passAt (takes_of rfl rfl rfl rfl) σ) (pa_cons (pe_ix ix_seq (pv 1) pe_int (fun _ _ => rfl)) pa_nil)))))))) (pss_one (ps_ret pe_non)) pss_nil)
  (pss_cons (ps_for (passes_of rfl) rfl (pi_list (pe_slice o_sl (pv 1) (po_some pe_int) po_none)) (pg_name (i := 2) sc.nd rfl (Or.inl rfl)) (pss_one (ps_if (PW.pt (pw_or (pt_not (pt_chain o_le o_le pe_int (pe_callB call_len (by rfl) T.n_len (by decide +kernel) (pa_cons (pv 2) pa_nil)) pe_int)) (pw_or (pt_cmpR (op_neD hu) (pe_lc (own := [("sign", 3)]) (g := (gName 3))  (by rfl) sc.nd (pi_str (pv 2)) (blkOk_by (own := [("sign", 3)]) (N := ["text", "words", "word", "sign"]) (sc := defScope s_Llaw_parsed) (by decide +kernel)) (fun _ _ _ _ _ => (pg_name (i := 3) sc.nd rfl (Or.inl rfl))) (fun _ _ _ _ _ => (pts_one (pt_cmpR (o_notInK rfl) (pv 3) pe_str (by rfl)))) (fun _ _ _ _ _ => (pv 3))) (pe_lst pa_nil) (nomark _)) (pw_or1 (pt_cmpR (op_eqD hu) (pe_ix ix_seq (pv 2) pe_int (fun _ _ => rfl)) pe_str (nomark _)))))) (pss_one (ps_ret pe_non)) pss_nil)))
  (pss_one (ps_ret (pe_tup (pa_cons (pe_ix ix_seq (pv 1) pe_int (fun _ _ => rfl)) (pa_cons (pe_callTy call_int_str (by rfl) T.n_int (by decide +kernel) (pa_cons (pe_ix ix_seq (pv 1) pe_int (fun _ _ => rfl)) pa_nil)) (pa_cons (pe_callTy call_int_str (by rfl) T.n_int (by decide +kernel) (pa_cons (pe_ix ix_seq (pv 1) pe_int (fun _ _ => rfl)) pa_nil)) (pa_cons (pe_callTy call_int_str (by rfl) T.n_int (by decide +kernel) (pa_cons (pe_ix ix_seq (pv 1) pe_int (fun _ _ => rfl)) pa_nil)) pa_nil))))))))))), ?_⟩
  try dsimp only [L2.cxOf]
  have cP := T.c_Pool
  have nu := T.no_Pool_unit
  have nm := T.no_Pool_money
  have ns := T.no_Pool_stock
  have nh := T.no_Pool_shares
  obtain ⟨v, t, rfl, ty, ok, q⟩ := hc
  walk_at "go"
  refine rc_isStr ⟨t, ty⟩ ?_
  refine ⟨_, rfl, ?_⟩
  refine if_nb (fun z => ?_) (fun z => ?_)
  · have e : parseD v = .non := by cases ty <;> first | rfl | cases z
    rw [e] at q
    walk_at "go"
    exact q
  obtain ⟨x, rfl⟩ : ∃ x, v = .str x := by cases ty <;> first | exact ⟨_, rfl⟩ | cases z
  have ok : okT 20000 x := ok
  have ln := ok.1
  obtain ⟨w1, w2, w3⟩ := split_ok ok
  have ep : parseD (.str x) = wordsD x := rfl
  walk_at "go"
  refine ⟨by omega, ?_⟩
  walk_at "go"
  refine ⟨sp_ne, ?_⟩
  show WS _ _ _ _
  walk_at "go"
  refine rc_lenL (.lst _) ?_
  walk_at "go"
  rw [List.length_map]
  refine if_ndec (fun c1 => ?_) (fun c1 => ?_)
  · rw [if_pos rfl]
    rw [ep.trans (words_len (by omega))] at q
    walk_at "go"
    exact q
  obtain ⟨p, u, a, b, c, e5⟩ := len5 (l := Txt.split x " ") (by omega)
  rw [e5] at w3 ⊢
  have e6 := words5 e5
  have op := w3 p (by simp)
  have ou := w3 u (by simp)
  have oa := w3 a (by simp)
  have ob := w3 b (by simp)
  have oc := w3 c (by simp)
  clear w3 w1 w2 c1
  walk_at "go"
  refine rd_ixL (.lst _) rfl ?_
  walk_at "go"
  refine rd_neS op.str (by decide +kernel) ?_
  refine ⟨_, rfl, ?_⟩
  refine if_ndec (fun c1 => ?_) (fun c1 => ?_)
  · rw [if_pos rfl]
    rw [decide_eq_false c1, Bool.false_and, if_neg (by decide)] at e6
    rw [ep.trans e6] at q
    walk_at "go"
    exact q
  rw [decide_eq_true c1, Bool.true_and] at e6
  walk_at "go"
  refine rd_ixL (.lst _) rfl ?_
  walk_at "go"
  refine ⟨rfl, .str u, _, rfl, .str _, ou, _, .sh _, _, rfl, ?_⟩
  cases gu : goodB (.str u) with
  | false =>
    rw [gu, Bool.false_and, if_neg (by decide)] at e6
    rw [ep.trans e6] at q
    rw [if_pos (by decide)]
    walk_at "go"
    exact q
  | true =>
  rw [gu, Bool.true_and] at e6
  rw [if_neg (by decide)]
  refine ws_next ?_
  show WS _ _ _ _
  refine ws_seq ?_
  refine ws_for (sl := [2]) ?_
  refine wi_list ?_
  walk_at "go"
  refine rs_list (.lst _) ?_
  refine ⟨_, rfl, ?_⟩
  rw [show cutD (List.map D.str [p, u, a, b, c]) (some 2) none = [.str a, .str b, .str c] from rfl]
  refine ⟨fun i ρ => (1 ≤ i → pnumB a = true) ∧ (2 ≤ i → pnumB b = true) ∧ (3 ≤ i → pnumB c = true) ∧ ∃ wd, ρ = [some (.sh (.str x)), some (.sh (.lst (List.map D.str [p, u, a, b, c]))), wd, none], ⟨fun h => by omega, fun h => by omega, fun h => by omega, _, rfl⟩, ?_, ?_⟩
  · rintro i d ρ2 hd ⟨f1, f2, f3, wd, rfl⟩
    have hd2 : ∃ w, d = .str w ∧ okT 20000 w ∧ (pnumB w = false → wordsD x = .non) ∧ (pnumB w = true → (1 ≤ i + 1 → pnumB a = true) ∧ (2 ≤ i + 1 → pnumB b = true) ∧ (3 ≤ i + 1 → pnumB c = true)) := by
      rcases i with _ | _ | _ | i
      · refine ⟨a, (Option.some.inj hd).symm, oa, fun z => ?_, fun z => ⟨fun _ => z, fun h => by omega, fun h => by omega⟩⟩
        rw [e6, z]
        rfl
      · have g1 := f1 (by omega)
        refine ⟨b, (Option.some.inj hd).symm, ob, fun z => ?_, fun z => ⟨fun _ => g1, fun _ => z, fun h => by omega⟩⟩
        rw [e6, g1, z]
        rfl
      · have g1 := f1 (by omega)
        have g2 := f2 (by omega)
        refine ⟨c, (Option.some.inj hd).symm, oc, fun z => ?_, fun z => ⟨fun _ => g1, fun _ => g2, fun _ => z⟩⟩
        rw [e6, g1, g2, z]
        rfl
      · cases hd
    obtain ⟨w, rfl, ow, bad, good⟩ := hd2
    have lw := ow.1
    rw [ep] at q
    refine wg_name (by walk_at "px") (by simp) ?_
    walk_at "go"
    refine rc_lenS (by omega) ?_
    walk_at "go"
    refine if_dec (fun a1 => ?_) (fun a1 => ?_)
    rotate_left
    · have pf : pnumB w = false := by
        have z : sg w = [] := List.eq_nil_of_length_eq_zero (by rw [← sg_len]; omega)
        unfold pnumB
        rw [z]
        rfl
      rw [bad pf] at q
      refine ⟨_, rfl, ?_⟩
      rw [if_pos (by decide)]
      rw [if_pos rfl]
      walk_at "go"
      exact q
    obtain ⟨ch, r, hr⟩ : ∃ ch r, sg w = ch :: r := by
      cases h : sg w with
      | nil =>
        rw [sg_len, h] at a1
        exact absurd a1 (by decide)
      | cons ch r => exact ⟨ch, r, rfl⟩
    have pl := pnum_law hr
    walk_at "go"
    refine if_ndec (fun a2 => ?_) (fun a2 => ?_)
    · rw [decide_eq_false (fun z => a2 (by omega)), Bool.false_and] at pl
      rw [bad pl] at q
      rw [if_pos rfl]
      walk_at "go"
      exact q
    rw [decide_eq_true (by omega), Bool.true_and] at pl
    walk_at "go"
    refine w_lc (sl := [3]) (by intro i hi; cases hi) (by simp) ?_
    refine wi_str ?_
    walk_at "go"
    refine ⟨by rw [List.length_map, Array.length_toList]; show w.length ≤ 90000; omega, fun i acc ρ => acc = (((sg w).take i).filter fun c => !decide (48 ≤ c ∧ c ≤ 57)).map (fun c => .str ⟨#[c]⟩) ∧ ρ = [some (.sh (.str x)), some (.sh (.lst (List.map D.str [p, u, a, b, c]))), some (.sh (.str w)), none], ⟨rfl, rfl⟩, ?_, ?_⟩
    · rintro i d acc ρ2 hd ⟨rfl, rfl⟩
      refine wg_name (by walk_at "px") (by simp) ?_
      walk_at "go"
      rw [List.getElem?_map] at hd
      obtain ⟨c, hc1, hc2⟩ := Option.map_eq_some_iff.mp hd
      subst hc2
      have et : (sg w).take (i + 1) = (sg w).take i ++ [c] := by rw [List.take_add_one, show (sg w)[i]? = some c from hc1]; rfl
      refine rd_niS ?_
      refine ⟨_, rfl, ?_⟩
      have em : decide (c ∈ ("0123456789" : Str).cps.toList) = decide (48 ≤ c ∧ c ≤ 57) := by
        rw [Bool.eq_iff_iff]
        simp only [decide_eq_true_eq]
        exact mem_dg c
      rw [show decide (c ∈ (Str.ofString "0123456789").cps.toList) = decide (48 ≤ c ∧ c ≤ 57) from em]
      cases hb : decide (48 ≤ c ∧ c ≤ 57) with
      | true =>
        rw [if_neg (by decide)]
        refine ⟨?_, rfl⟩
        rw [et, filt_no (by rw [hb]; decide)]
      | false =>
        rw [if_pos (by decide)]
        walk_at "go"
        refine ⟨?_, rfl⟩
        rw [et, filt_yes (by rw [hb]; rfl), List.map_append]
        rfl
    rintro acc ρ2 ⟨rfl, rfl⟩
    walk_at "go"
    rw [(List.length_map ..), List.take_length]
    refine rd_neD (py_signs _) (q := .list []) rfl (shp_signs fun c hc => ow.2 c (List.mem_filter.mp hc).1) rfl ?_
    rw [eqv_signs, filt_all]
    refine ⟨_, rfl, ?_⟩
    cases ha : (sg w).all fun c => decide (48 ≤ c ∧ c ≤ 57) with
    | false =>
      rw [ha, Bool.false_and] at pl
      rw [bad pl] at q
      rw [if_pos (by decide)]
      rw [if_pos rfl]
      walk_at "go"
      exact q
    | true =>
    rw [ha, Bool.true_and] at pl
    rw [if_neg (by decide)]
    walk_at "go"
    refine rd_ixS (c := ch) (by omega) (by rw [show w.cps.toList = ch :: r from hr]; exact atI_nat (j := 0) rfl) ?_
    walk_at "go"
    have hc7 : ch < 128 := ow.2 ch (by rw [hr]; exact List.mem_cons_self)
    refine rd_eqS (Array.all_eq_true_iff_forall_mem.mpr fun z hz => decide_eq_true (by
      obtain rfl : z = ch := by simpa using hz
      omega)) (by decide +kernel) ?_
    have e1 : decide ((⟨#[ch]⟩ : Str) = "0") = decide (ch = 48) := by
      rw [Bool.eq_iff_iff]
      simp only [decide_eq_true_eq]
      constructor
      · intro h
        have := congrArg sg h
        rw [show sg ("0" : Str) = [48] by decide +kernel] at this
        exact List.head_eq_of_cons_eq this
      · intro h
        refine sg_ext ?_
        rw [show sg ("0" : Str) = [48] by decide +kernel, h]
    rw [show decide ((⟨#[ch]⟩ : Str) = Str.ofString "0") = decide (ch = 48) from e1]
    refine ⟨_, rfl, ?_⟩
    cases hz : decide (ch = 48) with
    | true =>
      rw [hz] at pl
      rw [bad pl] at q
      rw [if_pos rfl]
      walk_at "go"
      exact q
    | false =>
      rw [hz] at pl
      rw [if_neg (by decide)]
      walk_at "go"
      obtain ⟨k1, k2, k3⟩ := good pl
      exact ⟨k1, k2, k3, _, rfl⟩
  · rintro ρ2 ⟨f1, f2, f3, wd, rfl⟩
    have na := f1 (by show 1 ≤ 3; decide)
    have nb := f2 (by show 2 ≤ 3; decide)
    have nc := f3 (by show 3 ≤ 3; decide)
    rw [na, nb, nc] at e6
    rw [if_pos (by decide)] at e6
    rw [ep, e6] at q
    show WS _ _ _ _
    walk_at "go"
    refine rd_ixL (.lst _) rfl ?_
    walk_at "go"
    refine rd_ixL (.lst _) rfl ?_
    walk_at "go"
    refine rc_intS (pnum_int na).1 (by have := (pnum_int na).2; omega) ?_
    walk_at "go"
    refine rd_ixL (.lst _) rfl ?_
    walk_at "go"
    refine rc_intS (pnum_int nb).1 (by have := (pnum_int nb).2; omega) ?_
    walk_at "go"
    refine rd_ixL (.lst _) rfl ?_
    walk_at "go"
    refine rc_intS (pnum_int nc).1 (by have := (pnum_int nc).2; omega) ?_
    walk_at "go"
    exact q
end K24

namespace K24
open PySem PySem.Spec PyProof.Rows L2 DL
variable {prg : Program} {wd : World} {K : PySem.W.Frag} {mg : Str → Option Value} {bs : Heap}
local macro_rules | `(tactic| walk_at "px") => `(tactic| first | exact List.not_mem_nil | (show _ ∉ ([0] : List Nat); decide) | (show _ ∉ ([] : List Nat); decide) | fail)
local macro_rules | `(tactic| walk_at "s") => `(tactic| with_reducible first
  | refine ws_seq ?_ | refine ws_if ?_ | refine ws_next ?_ | refine ws_ret ?_ | refine ws_retN ?_ | refine ws_asg (by walk_at "px") ?_ | refine ws_par (by walk_at "px") (by walk_at "px") ?_
  | refine w_var (by with_unfolding_all rfl) ?_ | refine w_int ?_ | refine w_bl ?_ | refine w_non ?_ | refine w_str ?_ | refine w_dnew ?_ | refine w_ty ?_ | refine w_fun ?_
  | refine w_split ?_ | refine w_op ?_ | refine w_un ?_ | refine w_fld ?_ | refine w_xf ?_ | refine wt_test ?_ | refine wt_B ?_ | refine wt_yes ?_ | refine wt_and ?_ | refine wt_or ?_ | refine wt_not ?_ | refine w_andV ?_ | refine w_orV ?_ | refine w_notV ?_ | refine w_ifE ?_ | refine w_chain ?_
  | refine wa_nil ?_ | refine wa_cons ?_ | refine w_tup ?_ | refine w_lst ?_ | refine w_slice ?_ | refine wp_no ?_ | refine wp_int ?_
  | refine w_cd repL_nil ?_ | refine w_md repL_nil ?_ | refine w_mk repL_nil ?_ | refine w_co repL_nil ⟨_, by with_unfolding_all rfl⟩ ?_ | refine w_lenO (by with_unfolding_all rfl) ?_ | refine w_call ?_
  | refine rd_add ?_ | refine rd_sub ?_ | refine rd_lt ?_ | refine rd_le ?_ | refine rd_gt ?_ | refine rd_ge ?_ | refine rd_ltS ?_ | refine rd_leS ?_ | refine rd_gtS ?_ | refine rd_geS ?_ | refine rd_isN ?_ | refine rd_notN ?_ | refine rd_eqI ?_ | refine rd_neI ?_
  | refine wg_tup rfl ?_ | refine wgs_cons ?_ | refine wg_name (by walk_at "px") (by simp) ?_ | refine wgs_nil ?_
  | refine ru_neg ?_ | refine ⟨(by show List.length _ ≤ 100000; simp), ?_⟩
  | refine rc_abs ?_ | refine rc_int1 ?_ | refine rc_min2 ?_ | refine rc_max2 ?_
  | refine ⟨_, rfl, ?_⟩ | fail)
local macro_rules | `(tactic| walk_at "go") => `(tactic| repeat' walk_at "s")

def c_Llaw_read : CD := ⟨fun ds k => ∃ v t, ds = [v] ∧ TyB v t ∧ okV v ∧ k (.ret (.sh (parseD v))), by
  rintro ds k k' h ⟨v, t, e, ty, s, q⟩
  exact ⟨v, t, e, ty, s, h _ q⟩⟩
theorem parse_or (v : D) : parseD v = .non ∨ ∃ u a b c, parseD v = .tup [.str u, .int a, .int b, .int c] := by
  cases v with
  | str x =>
    show wordsD x = .non ∨ ∃ u a b c, wordsD x = .tup [.str u, .int a, .int b, .int c]
    unfold wordsD
    split
    · split
      · exact .inr ⟨_, _, _, _, rfl⟩
      · exact .inl rfl
    · exact .inl rfl
  | _ => exact .inl rfl
theorem read_some {v : D} {u : Str} {a b c : Int} (h : parseD v = .tup [.str u, .int a, .int b, .int c]) : readO v = .ret (ownP u a b c) := by
  unfold readO
  rw [h]
theorem sc_Llaw_read : FnScope ["text", "found"] ["text"] (defScope s_Llaw_read) := ⟨rfl, rfl, rfl, by decide +kernel, rfl, by decide +kernel, by decide +kernel⟩
theorem ok_Llaw_read (T : Tx K mg) : ∃ fd, DC.FnG prg wd K mg bs (L2.CX prg wd) 7 (He.ga K "_law_read") fd ["text"] (toSp K 1 c_Llaw_read.con) ∧ L2.Binds K fd ["text"] [] ∧ PySem.W.keepIn K (.ref (He.ga K "_law_read")) = true := by
  obtain ⟨fd, F0⟩ := T.d_Llaw_read
  obtain ⟨_, F_Pool_read, b_Pool_read, k_Pool_read⟩ := ok_Pool_read (prg := prg) (wd := wd) (bs := bs) T
  refine ⟨fd, def_D (N := ["text", "found"]) F0 sc_Llaw_read rfl ?_, F0.bindsN fun _ _ _ _ _ _ us hl => match us, hl with | [_], _ => rfl, F0.kp⟩
  intro cdv A fr s H E ds kk gd room hc hl
  have hu := room.units
  have hu7 := room70 room
  have sc := sc_Llaw_read
  refine ⟨_, (pss_one (DC.ps_tryC rfl rfl (takes_of rfl rfl rfl rfl) (fun W pn xe tk pw => (pss_cons (ps_set (i := 1) sc.nd rfl (Or.inl rfl) (DC.pe_cmethG (pe_glob (by rfl) T.g_Pool (show RelV (.ref _) (.ref _) from rfl)) T.cm_Pool_read.1 T.cm_Pool_read.2 F_Pool_read gd (room.mono (by decide)) b_Pool_read .nil (fun σ => passAt tk σ) (pa_cons (pv 0) pa_nil)))
     (pss_one (ps_ret (pe_tup (pa_cons (pe_fld (pv 1) rfl) (pa_cons (pe_fld (pv 1) rfl) (pa_cons (pe_fld (pv 1) rfl) (pa_cons (pe_fld (pv 1) rfl) pa_nil))))))))) (.plain ⟨rfl, by decide, .inl T.g_BadText⟩ (fun _ _ _ _ _ hz hf => (pss_one (ps_ret pe_non))) (.plain ⟨rfl, by decide, .inl T.g_MarketError⟩ (fun _ _ _ _ _ hz hf => (pss_one (ps_ret pe_str))) .nil)))), ?_⟩
  try dsimp only [L2.cxOf]
  have cP := T.c_Pool
  have nu := T.no_Pool_unit
  have nm := T.no_Pool_money
  have ns := T.no_Pool_stock
  have nh := T.no_Pool_shares
  obtain ⟨v, t, rfl, ty, ok, q⟩ := hc
  refine ws_try fun W pn xe => ?_
  walk_at "go"
  refine w_isC ?_
  walk_at "go"
  refine ⟨rfl, ?_⟩
  walk_at "go"
  refine ⟨rfl, v, t, rfl, ty, ok, ?_⟩
  rcases parse_or v with e | ⟨u, a, b, c, e⟩
  · rw [read_none e]
    rw [e] at q
    show clD _ _ _ _ _ _
    refine clD_yes T.q_BadText_BadText fun a ob d pn => ?_
    walk_at "go"
    exact q
  · rw [read_some e]
    rw [e] at q
    refine ⟨_, frz_pool, ?_⟩
    walk_at "go"
    refine ⟨_, _, _, rfl, cP, nu, rfl, ?_⟩
    walk_at "go"
    refine ⟨_, _, _, rfl, cP, nm, rfl, ?_⟩
    walk_at "go"
    refine ⟨_, _, _, rfl, cP, ns, rfl, ?_⟩
    walk_at "go"
    refine ⟨_, _, _, rfl, cP, nh, rfl, ?_⟩
    walk_at "go"
    exact q
def c_Llaw_is_from : CD := ⟨fun ds k => ∃ v t w, ds = [v, .int w] ∧ TyB v t ∧ k (.ret (.sh (.bl (fitB v w)))), by
  rintro ds k k' h ⟨v, t, w, e, ty, q⟩
  exact ⟨v, t, w, e, ty, h _ q⟩⟩
theorem sc_Llaw_is_from : FnScope ["thing", "most"] ["thing", "most"] (defScope s_Llaw_is_from) := ⟨rfl, rfl, rfl, by decide +kernel, rfl, by decide +kernel, by decide +kernel⟩
theorem ok_Llaw_is_from (T : Tx K mg) : ∃ fd, DC.FnG prg wd K mg bs (L2.CX prg wd) 1 (He.ga K "_law_is_from") fd ["thing", "most"] (toSp K 2 c_Llaw_is_from.con) ∧ L2.Binds K fd ["thing", "most"] [] ∧ PySem.W.keepIn K (.ref (He.ga K "_law_is_from")) = true := by
  obtain ⟨fd, F0⟩ := T.d_Llaw_is_from
  refine ⟨fd, def_D (N := ["thing", "most"]) F0 sc_Llaw_is_from rfl ?_, F0.bindsN fun _ _ _ _ _ _ us hl => match us, hl with | [_, _], _ => rfl, F0.kp⟩
  intro cdv A fr s H E ds kk gd room hc hl
  have hu := room.units
  have hu7 := room70 room
  have sc := sc_Llaw_is_from
  refine ⟨_, (pss_one (ps_ret (pe_and (pe_callB call_isi (by rfl) T.n_isinstance (by decide +kernel) (pa_cons (pv 0) (pa_cons (pe_bltn (by rfl) T.n_int (by decide +kernel) (show RelV (.ty "int") (.type "int") from rfl)) pa_nil))) (pe_and (pe_not (pe_callB call_isi (by rfl) T.n_isinstance (by decide +kernel) (pa_cons (pv 0) (pa_cons (pe_bltn (by rfl) T.n_bool (by decide +kernel) (show RelV (.ty "bool") (.type "bool") from rfl)) pa_nil)))) (pe_one (pe_chain o_le o_le pe_int (pv 0) (pv 1))))))), ?_⟩
  try dsimp only [L2.cxOf]
  obtain ⟨v, t, w, rfl, ty, q⟩ := hc
  walk_at "go"
  refine rc_isInt ⟨t, ty⟩ ?_
  refine ⟨_, rfl, ?_⟩
  refine if_b (fun z => ?_) (fun z => ?_)
  rotate_left
  · have e : fitB v w = false := by cases ty <;> first | rfl | cases z
    rw [e] at q
    exact q
  walk_at "go"
  refine rc_isBool ⟨t, ty⟩ ?_
  refine ⟨_, rfl, _, rfl, ?_⟩
  refine if_nb (fun z2 => ?_) (fun z2 => ?_)
  rotate_left
  · have e : fitB v w = false := by cases ty <;> first | rfl | cases z2
    rw [e] at q
    exact q
  obtain ⟨n, rfl⟩ : ∃ n, v = .int n := by cases ty <;> first | exact ⟨_, rfl⟩ | (cases z; done) | (cases z2; done)
  have ef : fitB (.int n) w = decide (1 ≤ n ∧ n ≤ w) := rfl
  walk_at "go"
  refine if_dec (fun c1 => ?_) (fun c1 => ?_)
  · walk_at "go"
    rw [ef, show decide (1 ≤ n ∧ n ≤ w) = decide (n ≤ w) by rw [Bool.eq_iff_iff]; simp only [decide_eq_true_eq]; exact ⟨fun h => h.2, fun h => ⟨c1, h⟩⟩] at q
    exact q
  · rw [ef, decide_eq_false fun h => c1 h.1] at q
    exact q
def madeV (x a b c : D) : D := if goodB x = false then .lst [.str "unit", x] else if fitB a 9999 = false then .lst [.str "money", a] else if fitB b 99 = false then .lst [.str "stock", b] else if fitB c 9999 = false then .lst [.str "shares", c] else .non
def c_Llaw_made : CD := ⟨fun ds k => ∃ x a b c t1 t2 t3 t4, ds = [x, a, b, c] ∧ TyB x t1 ∧ TyB a t2 ∧ TyB b t3 ∧ TyB c t4 ∧ smallD x ∧ k (.ret (.sh (madeV x a b c))), by
  rintro ds k k' h ⟨x, a, b, c, t1, t2, t3, t4, e, y1, y2, y3, y4, s, q⟩
  exact ⟨x, a, b, c, t1, t2, t3, t4, e, y1, y2, y3, y4, s, h _ q⟩⟩
theorem init_cases (x a b c : D) : (initO x a b c = .err "BadUnit" [("given", x)] ∧ madeV x a b c = .lst [.str "unit", x]) ∨ (∃ f v, initO x a b c = .err "BadPool" [("value", v), ("field", .str f)] ∧ madeV x a b c = .lst [.str f, v]) ∨
    ∃ m : List (Str × M), initO x a b c = .ret (.sh .non) ∧ madeV x a b c = .non ∧ initM x a b c = .obj "Pool" m ∧ m = ([("unit", .sh x), ("money", .sh a), ("stock", .sh b), ("shares", .sh c)] : List (Str × M)) := by
  unfold initO madeV initM
  cases goodB x <;> cases fitB a 9999 <;> cases fitB b 99 <;> cases fitB c 9999 <;> first
    | exact .inl ⟨rfl, rfl⟩
    | exact .inr (.inl ⟨_, _, rfl, rfl⟩)
    | exact .inr (.inr ⟨_, rfl, rfl, rfl, rfl⟩)
theorem sc_Llaw_made : FnScope ["unit", "money", "goods", "shares", "e"] ["unit", "money", "goods", "shares"] (defScope s_Llaw_made) := ⟨rfl, rfl, rfl, by decide +kernel, rfl, by decide +kernel, by decide +kernel⟩
theorem ok_Llaw_made (T : Tx K mg) : ∃ fd, DC.FnG prg wd K mg bs (L2.CX prg wd) 6 (He.ga K "_law_made") fd ["unit", "money", "goods", "shares"] (toSp K 4 c_Llaw_made.con) ∧ L2.Binds K fd ["unit", "money", "goods", "shares"] [] ∧ PySem.W.keepIn K (.ref (He.ga K "_law_made")) = true := by
  obtain ⟨fd, F0⟩ := T.d_Llaw_made
  obtain ⟨_, F_Pool_init, b_Pool_init, k_Pool_init⟩ := ok_Pool_init (prg := prg) (wd := wd) (bs := bs) T
  refine ⟨fd, def_D (N := ["unit", "money", "goods", "shares", "e"]) F0 sc_Llaw_made rfl ?_, F0.bindsN fun _ _ _ _ _ _ us hl => match us, hl with | [_, _, _, _], _ => rfl, F0.kp⟩
  intro cdv A fr s H E ds kk gd room hc hl
  have hu := room.units
  have hu7 := room70 room
  have sc := sc_Llaw_made
  refine ⟨_, (pss_cons (DC.ps_tryC rfl rfl (takes_of rfl rfl rfl rfl) (fun W pn xe tk pw => (pss_one (ps_expr (DC.pe_makeG T.k_Pool F_Pool_init gd (room.mono (by decide)) (by rfl) T.g_Pool b_Pool_init .nil (fun σ => passAt tk σ) (pa_cons (pv 0) (pa_cons (pv 1) (pa_cons (pv 2) (pa_cons (pv 3) pa_nil)))))))) (.named (i := 4) ⟨rfl, by decide, .inl T.g_BadUnit⟩ sc.nd rfl rfl (fun _ _ _ _ _ hz hf => (pss_one (ps_ret (pe_lst (pa_cons pe_str (pa_cons (pe_xf T.x_BadUnit T.no_BadUnit_given hz hf (pv 4)) pa_nil)))))) (.named (i := 4) ⟨rfl, by decide, .inl T.g_BadPool⟩ sc.nd rfl rfl (fun _ _ _ _ _ hz hf => (pss_one (ps_ret (pe_lst (pa_cons (pe_xf T.x_BadPool T.no_BadPool_field hz hf (pv 4)) (pa_cons (pe_xf T.x_BadPool T.no_BadPool_value hz hf (pv 4)) pa_nil)))))) (.plain ⟨rfl, by decide, .inl T.g_MarketError⟩ (fun _ _ _ _ _ hz hf => (pss_one (ps_ret (pe_lst (pa_cons pe_str (pa_cons pe_non pa_nil)))))) .nil))))
  (pss_one (ps_ret pe_non))), ?_⟩
  try dsimp only [L2.cxOf]
  have cP := T.c_Pool
  have nu := T.no_Pool_unit
  have nm := T.no_Pool_money
  have ns := T.no_Pool_stock
  have nh := T.no_Pool_shares
  obtain ⟨x, a, b, c, t1, t2, t3, t4, rfl, y1, y2, y3, y4, sm, q⟩ := hc
  refine ws_seq ?_
  refine ws_try fun W pn xe => ?_
  refine ws_drop ?_
  refine w_mk repL_nil (c := "Pool") ?_
  walk_at "go"
  refine ⟨rfl, rfl, x, a, b, c, t1, t2, t3, t4, rfl, rfl, y1, y2, y3, y4, sm, ?_⟩
  rcases init_cases x a b c with ⟨e1, e2⟩ | ⟨f, v, e1, e2⟩ | ⟨m, e1, e2, e3, e4⟩
  · rw [e1]
    rw [e2] at q
    show clD _ _ _ _ _ _
    refine clD_as T.q_BadUnit_BadUnit (by simp) (by walk_at "px") fun a ob dd pn => ?_
    walk_at "go"
    refine ⟨_, _, rfl, rfl, rfl, ?_⟩
    walk_at "go"
    exact q
  · rw [e1]
    rw [e2] at q
    refine clD_no T.q_BadPool_BadUnit (clD_as T.q_BadPool_BadPool (by simp) (by walk_at "px") fun a ob dd pn => ?_)
    walk_at "go"
    refine ⟨_, _, rfl, rfl, rfl, ?_⟩
    walk_at "go"
    refine ⟨_, _, rfl, rfl, rfl, ?_⟩
    walk_at "go"
    exact q
  · rw [e1, e3, e4]
    rw [e2] at q
    refine ⟨rfl, .obj "Pool" [("unit", x), ("money", a), ("stock", b), ("shares", c)], .obj (.cons (.sh _) (.cons (.sh _) (.cons (.sh _) (.cons (.sh _) .nil)))), ?_⟩
    walk_at "go"
    exact q
end K24

namespace K24
open PySem PySem.Spec PyProof.Rows L2 DL
variable {prg : Program} {wd : World} {K : PySem.W.Frag} {mg : Str → Option Value} {bs : Heap}
local macro_rules | `(tactic| walk_at "px") => `(tactic| first | exact List.not_mem_nil | (show _ ∉ ([0] : List Nat); decide) | (show _ ∉ ([] : List Nat); decide) | fail)
local macro_rules | `(tactic| walk_at "s") => `(tactic| with_reducible first
  | refine ws_seq ?_ | refine ws_if ?_ | refine ws_next ?_ | refine ws_ret ?_ | refine ws_retN ?_ | refine ws_asg (by walk_at "px") ?_ | refine ws_par (by walk_at "px") (by walk_at "px") ?_
  | refine w_var (by with_unfolding_all rfl) ?_ | refine w_int ?_ | refine w_bl ?_ | refine w_non ?_ | refine w_str ?_ | refine w_dnew ?_ | refine w_ty ?_ | refine w_fun ?_
  | refine w_split ?_ | refine w_op ?_ | refine w_un ?_ | refine w_fld ?_ | refine w_xf ?_ | refine wt_test ?_ | refine wt_B ?_ | refine wt_yes ?_ | refine wt_and ?_ | refine wt_or ?_ | refine wt_not ?_ | refine w_andV ?_ | refine w_orV ?_ | refine w_notV ?_ | refine w_ifE ?_ | refine w_chain ?_
  | refine wa_nil ?_ | refine wa_cons ?_ | refine w_tup ?_ | refine w_lst ?_ | refine w_slice ?_ | refine wp_no ?_ | refine wp_int ?_
  | refine w_cd repL_nil ?_ | refine w_md repL_nil ?_ | refine w_mk repL_nil ?_ | refine w_co repL_nil ⟨_, by with_unfolding_all rfl⟩ ?_ | refine w_lenO (by with_unfolding_all rfl) ?_ | refine w_call ?_
  | refine rd_add ?_ | refine rd_sub ?_ | refine rd_lt ?_ | refine rd_le ?_ | refine rd_gt ?_ | refine rd_ge ?_ | refine rd_ltS ?_ | refine rd_leS ?_ | refine rd_gtS ?_ | refine rd_geS ?_ | refine rd_isN ?_ | refine rd_notN ?_ | refine rd_eqI ?_ | refine rd_neI ?_
  | refine wg_tup rfl ?_ | refine wgs_cons ?_ | refine wg_name (by walk_at "px") (by simp) ?_ | refine wgs_nil ?_
  | refine ru_neg ?_ | refine ⟨(by show List.length _ ≤ 100000; simp), ?_⟩
  | refine rc_abs ?_ | refine rc_int1 ?_ | refine rc_min2 ?_ | refine rc_max2 ?_
  | refine ⟨_, rfl, ?_⟩ | fail)
local macro_rules | `(tactic| walk_at "go") => `(tactic| repeat' walk_at "s")

theorem ws_asc4 {G : Gx} {ρ : DL.Env} {P : Post} {a b c d u : TS} (h : WS G (tSeq (tSeq a (tSeq b (tSeq c d))) u) ρ P) : WS G (tSeq a (tSeq b (tSeq c (tSeq d u)))) ρ P := h
theorem ixN_in {n : Nat} {i : Int} (h0 : 0 ≤ i) (h1 : i < n) : ixN n i = some i.toNat := by
  unfold ixN
  rw [if_pos h0, if_pos h1]
theorem at_in {α : Type} {xs : List α} {i : Int} (h0 : 0 ≤ i) (h1 : i < xs.length) : ∃ x, atI xs i = some x ∧ x ∈ xs := by
  have hk : i.toNat < xs.length := by omega
  refine ⟨xs[i.toNat], ?_, List.getElem_mem hk⟩
  unfold atI
  rw [ixN_in h0 h1]
  exact List.getElem?_eq_getElem hk
theorem odd12 {i : Int} (h0 : 0 ≤ i) (h1 : i < 12) : ∃ w, atI [D.str "", .str "0", .str "01", .str "-5", .str "1000000000", .str "999999999", .str "pool", .str "money", .str "Corn", .str "1.5", .str "a", .str "7"] i = some (.str w) ∧ plainS w ∧ w.length ≤ 10 := by
  obtain ⟨x, hx, hm⟩ := at_in (xs := [D.str "", .str "0", .str "01", .str "-5", .str "1000000000", .str "999999999", .str "pool", .str "money", .str "Corn", .str "1.5", .str "a", .str "7"]) h0 h1
  simp only [List.mem_cons, or_false, List.not_mem_nil] at hm
  rcases hm with rfl | rfl | rfl | rfl | rfl | rfl | rfl | rfl | rfl | rfl | rfl | rfl <;> exact ⟨_, hx, by unfold plainS; decide +kernel, by decide +kernel⟩
theorem odd6 {i : Int} (h0 : 0 ≤ i) (h1 : i < 6) : ∃ w, atI [D.str "\n", .str " ", .str "0", .str "-", .str "a", .str ""] i = some (.str w) ∧ plainS w ∧ w.length ≤ 1 := by
  obtain ⟨x, hx, hm⟩ := at_in (xs := [D.str "\n", .str " ", .str "0", .str "-", .str "a", .str ""]) h0 h1
  simp only [List.mem_cons, or_false, List.not_mem_nil] at hm
  rcases hm with rfl | rfl | rfl | rfl | rfl | rfl <;> exact ⟨_, hx, by unfold plainS; decide +kernel, by decide +kernel⟩
theorem jl_take (a : List Str) (i : Nat) : jl (a.take i) ≤ jl a := by
  have := jl_cut a i
  omega
theorem jl_drop (a : List Str) (i : Nat) : jl (a.drop i) ≤ jl a := by
  have := jl_cut a i
  omega
theorem cut_str (ws : List Str) (lo hi : Option Int) : ∃ i j, DL.cutD (ws.map D.str) lo hi = ((ws.drop i).take j).map D.str := by
  unfold DL.cutD
  rw [List.length_map]
  exact ⟨_, _, by rw [List.map_take, List.map_drop]⟩
theorem er_str (ws : List Str) (i : Nat) : (ws.map D.str).eraseIdx i = (ws.eraseIdx i).map D.str := by
  induction ws generalizing i with
  | nil => rfl
  | cons w r ih =>
    cases i with
    | zero => rfl
    | succ i =>
      rw [List.map_cons, List.eraseIdx_cons_succ, ih, List.eraseIdx_cons_succ, List.map_cons]
theorem split_jl {n : Nat} {x : Str} (h : okT n x) : jl (Txt.split x " ") = x.length + 1 ∧ (∀ w ∈ Txt.split x " ", plainS w) ∧ 1 ≤ (Txt.split x " ").length := by
  obtain ⟨a, b, c⟩ := split_ok h
  exact ⟨a, fun w hw => (c w hw).2, b⟩
def c_Llaw_spoilt : CO := ⟨fun m ds k => ∃ n L x, m = .ex n ∧ ds = [.str x] ∧ okT L x ∧ L ≤ 5000 ∧ n ≤ 900000 ∧ ∀ y n', okT (2 * L + 20) y → n' ≤ n + 10 → k (.ret (.sh (.str y))) (.ex n'), by
  rintro m ds k k' h ⟨n, L, x, e1, e2, g1, g2, g3, q⟩
  exact ⟨n, L, x, e1, e2, g1, g2, g3, fun y n' a b => h _ _ (q y n' a b)⟩⟩
theorem sc_Llaw_spoilt : FnScope ["state", "text", "words", "spot", "plan", "sum1", "place", "odd"] ["state", "text"] (defScope s_Llaw_spoilt) := ⟨rfl, rfl, rfl, by decide +kernel, rfl, by decide +kernel, by decide +kernel⟩
theorem ok_Llaw_spoilt (T : Tx K mg) : ∃ fd, DC.FnG prg wd K mg bs (L2.CX prg wd) 2 (He.ga K "_law_spoilt") fd ["state", "text"] (toSp K 2 c_Llaw_spoilt.con) ∧ L2.Binds K fd ["state", "text"] [] ∧ PySem.W.keepIn K (.ref (He.ga K "_law_spoilt")) = true := by
  obtain ⟨fd, F0⟩ := T.d_Llaw_spoilt
  obtain ⟨_, F_Llaw_draw, b_Llaw_draw, k_Llaw_draw⟩ := ok_Llaw_draw (prg := prg) (wd := wd) (bs := bs) T
  refine ⟨fd, def_O (N := ["state", "text", "words", "spot", "plan", "sum1", "place", "odd"]) F0 sc_Llaw_spoilt rfl ?_, F0.bindsN fun _ _ _ _ _ _ us hl => match us, hl with | [_, _], _ => rfl, F0.kp⟩
  intro cdv A fr s H E v0 m0 ds kk gd room hc hl
  have hu := room.units
  have hu7 := room70 room
  have sc := sc_Llaw_spoilt
  refine ⟨_, (pss_cons (ps_set (i := 2) sc.nd rfl (Or.inl rfl) (pe_split (pv 1) pe_str))
  (pss_cons (ps_set (i := 3) sc.nd rfl (Or.inl rfl) (DC.pe_callG F_Llaw_draw gd (room.mono (by decide)) (by rfl) T.g__law_draw k_Llaw_draw b_Llaw_draw .nil (fun σ => passAt (takes_of rfl rfl rfl rfl) σ) (pa_cons (pv 0) (pa_cons (pe_callB call_len (by rfl) T.n_len (by decide +kernel) (pa_cons (pv 2) pa_nil)) pa_nil))))
  (pss_cons (ps_set (i := 4) sc.nd rfl (Or.inl rfl) (DC.pe_callG F_Llaw_draw gd (room.mono (by decide)) (by rfl) T.g__law_draw k_Llaw_draw b_Llaw_draw .nil (fun σ => passAt (takes_of rfl rfl rfl rfl) σ) (pa_cons (pv 0) (pa_cons pe_int pa_nil))))
  (pss_cons (ps_if (pt_cmpR (op_eqD hu) (pv 4) pe_int (nomark _)) (pss_one (ps_expr (pe_bm PySem.F.plainAttrs_list PySem.F.slot_list_pop PySem.F.type_list_pop mt_popAt (pv 2) (pa_cons (pv 3) pa_nil)))) pss_nil)
  (pss_cons (ps_if (pt_cmpR (op_eqD hu) (pv 4) pe_int (nomark _)) (pss_one (ps_expr (pe_bm PySem.F.plainAttrs_list PySem.F.slot_list_insert PySem.F.type_list_insert DL.mt_insertR (pv 2) (pa_cons (pv 3) (pa_cons (pe_ix ix_seq (pv 2) (pv 3) (fun _ _ => rfl)) pa_nil))))) pss_nil)
  (pss_cons (ps_if (pt_cmpR (op_eqD hu) (pv 4) pe_int (nomark _)) (pss_cons (ps_set (i := 7) sc.nd rfl (Or.inl rfl) (pe_lst (pa_cons pe_str (pa_cons pe_str (pa_cons pe_str (pa_cons pe_str (pa_cons pe_str (pa_cons pe_str (pa_cons pe_str (pa_cons pe_str (pa_cons pe_str (pa_cons pe_str (pa_cons pe_str (pa_cons pe_str pa_nil))))))))))))))
    (pss_one (ps_asg (pe_ix ix_seq (pv 7) (DC.pe_callG F_Llaw_draw gd (room.mono (by decide)) (by rfl) T.g__law_draw k_Llaw_draw b_Llaw_draw .nil (fun σ => passAt (takes_of rfl rfl rfl rfl) σ) (pa_cons (pv 0) (pa_cons pe_int pa_nil))) (fun _ _ => rfl)) (pg_sub (pv 2) (pv 3) set_list)))) pss_nil)
  (pss_cons (ps_if (pt_cmpR (op_eqD hu) (pv 4) pe_int (nomark _)) (pss_one (ps_set (i := 2) sc.nd rfl (Or.inl rfl) (pe_op o_add (pe_slice o_sl (pv 2) (po_some (pv 3)) po_none) (pe_slice o_sl (pv 2) po_none (po_some (pv 3)))))) pss_nil)
  (pss_cons (ps_set (i := 5) sc.nd rfl (Or.inl rfl) (pe_join pe_str (pv 2)))
  (pss_cons (ps_if (pt_cmpR o_lt (pv 4) pe_int (nomark _)) (pss_one (ps_ret (pv 5))) pss_nil)
  (pss_cons (ps_set (i := 6) sc.nd rfl (Or.inl rfl) (DC.pe_callG F_Llaw_draw gd (room.mono (by decide)) (by rfl) T.g__law_draw k_Llaw_draw b_Llaw_draw .nil (fun σ => passAt (takes_of rfl rfl rfl rfl) σ) (pa_cons (pv 0) (pa_cons (pe_op o_add (pe_callB call_len (by rfl) T.n_len (by decide +kernel) (pa_cons (pv 5) pa_nil)) pe_int) pa_nil))))
  (pss_one (ps_ret (pe_op o_add (pe_op o_add (pe_slice o_sl (pv 5) po_none (po_some (pv 6))) (pe_ix ix_seq (pe_lst (pa_cons pe_str (pa_cons pe_str (pa_cons pe_str (pa_cons pe_str (pa_cons pe_str (pa_cons pe_str pa_nil))))))) (DC.pe_callG F_Llaw_draw gd (room.mono (by decide)) (by rfl) T.g__law_draw k_Llaw_draw b_Llaw_draw .nil (fun σ => passAt (takes_of rfl rfl rfl rfl) σ) (pa_cons (pv 0) (pa_cons pe_int pa_nil))) (fun _ _ => rfl))) (pe_slice o_sl (pv 5) (po_some (pe_op op_sub (pe_op o_add (pv 6) (pv 4)) pe_int)) po_none)))))))))))))), ?_⟩
  try dsimp only [L2.cxOf]
  have cP := T.c_Pool
  have nu := T.no_Pool_unit
  have nm := T.no_Pool_money
  have ns := T.no_Pool_stock
  have nh := T.no_Pool_shares
  obtain ⟨n, L, x, rfl, rfl, ok, L5, n9, q⟩ := hc
  obtain ⟨j1, pl0, len1⟩ := split_jl ok
  have xl := ok.1
  generalize hW : Txt.split x " " = W at j1 pl0 len1
  have jW : jl W ≤ L + 1 := by omega
  clear j1
  have lenW : W.length ≤ jl W := by
    unfold jl
    omega
  refine ws_seq ?_
  refine ws_asgO (by walk_at "px") (by show 2 < 8; decide) ?_
  refine wo_split ?_
  walk_at "go"
  refine ⟨by omega, ?_⟩
  walk_at "go"
  refine ⟨sp_ne, rfl, ?_⟩
  rw [hW]
  show WS _ _ _ _
  walk_at "go"
  refine ⟨rfl, n, _, rfl, rfl, by rw [List.length_map, List.length_map]; omega, by rw [List.length_map, List.length_map]; omega, by omega, fun sp s0 s1 => ⟨_, .sh _, ?_⟩⟩
  rw [List.length_map, List.length_map] at s1
  walk_at "go"
  refine ⟨rfl, n + 1, _, rfl, rfl, by omega, by omega, by omega, fun pl p0 p1 => ⟨_, .sh _, ?_⟩⟩
  refine ws_asc4 ?_
  refine ws_mid (fun ρ => ∃ ws : List Str, ∃ n' o7, (∀ w ∈ ws, plainS w) ∧ jl ws ≤ 2 * L + 14 ∧ (4 ≤ pl → jl ws ≤ L + 1) ∧ n' ≤ n + 3 ∧ ρ = [some (.ex n'), some (.sh (.str x)), some (.sh (.lst (ws.map .str))), some (.sh (.int sp)), some (.sh (.int pl)), none, none, o7]) ?_ ?_
  · have pcs : pl = 0 ∨ pl = 1 ∨ pl = 2 ∨ pl = 3 ∨ 4 ≤ pl := by omega
    rcases pcs with rfl | rfl | rfl | rfl | p4
    · walk_at "go"
      refine if_dec (fun _ => ?_) (fun z => absurd rfl z)
      refine ws_popAt ⟨_, rfl⟩ ?_
      refine w_var rfl ?_
      refine ⟨W.map .str, sp, rfl, rfl, s0, by rw [List.length_map]; omega, by rw [List.length_map]; omega, ?_⟩
      rw [er_str]
      show WS _ _ _ _
      walk_at "go"
      refine if_dec (fun z => absurd z (by decide)) (fun _ => ?_)
      refine ws_next ?_
      show WS _ _ _ _
      walk_at "go"
      refine if_dec (fun z => absurd z (by decide)) (fun _ => ?_)
      refine ws_next ?_
      show WS _ _ _ _
      refine ws_letBe (i := 2) (d := .lst ((W.eraseIdx sp.toNat).map .str)) rfl frz_lst (by walk_at "px") ?_
      walk_at "go"
      refine if_dec (fun z => absurd z (by decide)) (fun _ => ?_)
      refine ws_next ?_
      have := jl_erase W sp.toNat
      exact ⟨W.eraseIdx sp.toNat, _, _, fun w hw => pl0 w (List.mem_of_mem_eraseIdx hw), by omega, fun z => absurd z (by decide), by omega, rfl⟩
    · walk_at "go"
      refine if_dec (fun z => absurd z (by decide)) (fun _ => ?_)
      refine ws_next ?_
      show WS _ _ _ _
      walk_at "go"
      refine if_dec (fun _ => ?_) (fun z => absurd rfl z)
      obtain ⟨dd, hd, hm⟩ := at_in (xs := W.map D.str) s0 (by rw [List.length_map]; exact s1)
      obtain ⟨dw, hdw, rfl⟩ := List.mem_map.mp hm
      refine ws_insert ⟨_, rfl⟩ ?_
      refine w_var rfl ?_
      refine w_ixO ⟨_, rfl⟩ ?_
      refine w_var rfl ?_
      refine ⟨W.map .str, sp, .str dw, rfl, rfl, hd, ?_⟩
      refine ⟨W.map .str, sp, rfl, rfl, s0, by omega, by rw [List.length_map]; omega, ?_⟩
      rw [show ((W.map D.str).take sp.toNat ++ [.str dw] ++ (W.map D.str).drop sp.toNat) = (W.take sp.toNat ++ [dw] ++ W.drop sp.toNat).map D.str by rw [List.map_append, List.map_append, List.map_take, List.map_drop]; rfl]
      show WS _ _ _ _
      walk_at "go"
      refine if_dec (fun z => absurd z (by decide)) (fun _ => ?_)
      refine ws_next ?_
      show WS _ _ _ _
      refine ws_letBe (i := 2) (d := .lst ((W.take sp.toNat ++ [dw] ++ W.drop sp.toNat).map .str)) rfl frz_lst (by walk_at "px") ?_
      walk_at "go"
      refine if_dec (fun z => absurd z (by decide)) (fun _ => ?_)
      refine ws_next ?_
      have jm := jl_mem hdw
      have jc := jl_cut W sp.toNat
      refine ⟨W.take sp.toNat ++ [dw] ++ W.drop sp.toNat, _, _, fun w hw => ?_, by rw [jl_app, jl_app, jl_cons, jl_nil]; omega, fun z => absurd z (by decide), by omega, rfl⟩
      rcases List.mem_append.mp hw with hw | hw
      · rcases List.mem_append.mp hw with hw | hw
        · exact pl0 w (List.mem_of_mem_take hw)
        · rw [List.mem_singleton.mp hw]
          exact pl0 dw hdw
      · exact pl0 w (List.mem_of_mem_drop hw)
    · walk_at "go"
      refine if_dec (fun z => absurd z (by decide)) (fun _ => ?_)
      refine ws_next ?_
      show WS _ _ _ _
      walk_at "go"
      refine if_dec (fun z => absurd z (by decide)) (fun _ => ?_)
      refine ws_next ?_
      show WS _ _ _ _
      walk_at "go"
      refine if_dec (fun _ => ?_) (fun z => absurd rfl z)
      refine ws_seq ?_
      refine ws_asg (by walk_at "px") ?_
      refine w_lst ?_
      walk_at "go"
      refine ws_setO ⟨_, rfl⟩ ?_
      walk_at "go"
      refine ⟨rfl, n + 2, 12, rfl, rfl, by omega, by omega, by omega, fun i i0 i1 => ⟨_, .sh _, ?_⟩⟩
      obtain ⟨ow, hw, ow1, ow2⟩ := odd12 i0 i1
      refine rd_ixL (.lst _) hw ?_
      refine ⟨⟨W.map .str, rfl⟩, ?_⟩
      refine w_var rfl ?_
      refine ⟨W.map .str, sp, sp.toNat, rfl, rfl, by rw [List.length_map]; exact ixN_in s0 s1, ?_⟩
      rw [show (W.map D.str).set sp.toNat (.str ow) = (W.set sp.toNat ow).map D.str by rw [List.map_set]]
      show WS _ _ _ _
      refine ws_letBe (i := 2) (d := .lst ((W.set sp.toNat ow).map .str)) rfl frz_lst (by walk_at "px") ?_
      walk_at "go"
      refine if_dec (fun z => absurd z (by decide)) (fun _ => ?_)
      refine ws_next ?_
      have := jl_set W sp.toNat ow
      refine ⟨W.set sp.toNat ow, _, _, fun w hw => ?_, by omega, fun z => absurd z (by decide), by omega, rfl⟩
      rcases List.mem_or_eq_of_mem_set hw with hw | hw
      · exact pl0 w hw
      · rw [hw]
        exact ow1
    · walk_at "go"
      refine if_dec (fun z => absurd z (by decide)) (fun _ => ?_)
      refine ws_next ?_
      show WS _ _ _ _
      walk_at "go"
      refine if_dec (fun z => absurd z (by decide)) (fun _ => ?_)
      refine ws_next ?_
      show WS _ _ _ _
      walk_at "go"
      refine if_dec (fun z => absurd z (by decide)) (fun _ => ?_)
      refine ws_next ?_
      show WS _ _ _ _
      refine ws_letBe (i := 2) (d := .lst (W.map .str)) rfl frz_lst (by walk_at "px") ?_
      walk_at "go"
      refine if_dec (fun _ => ?_) (fun z => absurd rfl z)
      walk_at "go"
      refine rs_list (.lst _) ?_
      walk_at "go"
      refine rs_list (.lst _) ?_
      obtain ⟨a1, a2, ea⟩ := cut_str W (some sp) none
      obtain ⟨b1, b2, eb⟩ := cut_str W none (some sp)
      rw [ea, eb]
      have k1 := Nat.le_trans (jl_take (W.drop a1) a2) (jl_drop W a1)
      have k2 := Nat.le_trans (jl_take (W.drop b1) b2) (jl_drop W b1)
      have l1 : ((W.drop a1).take a2).length ≤ jl ((W.drop a1).take a2) := by
        unfold jl
        omega
      have l2 : ((W.drop b1).take b2).length ≤ jl ((W.drop b1).take b2) := by
        unfold jl
        omega
      refine rd_addL (.lst _) (.lst _) (by rw [List.length_map, List.length_map]; omega) ?_
      rw [← List.map_append]
      refine ⟨(W.drop a1).take a2 ++ (W.drop b1).take b2, _, _, fun w hw => ?_, by rw [jl_app]; omega, fun z => absurd z (by decide), by omega, rfl⟩
      rcases List.mem_append.mp hw with hw | hw
      · exact pl0 w (List.mem_of_mem_drop (List.mem_of_mem_take hw))
      · exact pl0 w (List.mem_of_mem_drop (List.mem_of_mem_take hw))
    · walk_at "go"
      refine if_dec (fun z => absurd z (by omega)) (fun _ => ?_)
      refine ws_next ?_
      show WS _ _ _ _
      walk_at "go"
      refine if_dec (fun z => absurd z (by omega)) (fun _ => ?_)
      refine ws_next ?_
      show WS _ _ _ _
      walk_at "go"
      refine if_dec (fun z => absurd z (by omega)) (fun _ => ?_)
      refine ws_next ?_
      show WS _ _ _ _
      refine ws_letBe (i := 2) (d := .lst (W.map .str)) rfl frz_lst (by walk_at "px") ?_
      walk_at "go"
      refine if_dec (fun z => absurd z (by omega)) (fun _ => ?_)
      refine ws_next ?_
      exact ⟨W, _, _, pl0, by omega, fun _ => by omega, by omega, rfl⟩
  rintro ρ ⟨ws, n', o7, h1, h2, h3, h4, rfl⟩
  obtain ⟨y1, y2⟩ := join_ok h1
  have le : (ws.map (·.length)).sum + ws.length * (" " : Str).length = jl ws := by
    rw [show (" " : Str).length = 1 by decide +kernel, Nat.mul_one]
    rfl
  refine ws_seq ?_
  refine ws_asg (by walk_at "px") ?_
  refine w_join ?_
  walk_at "go"
  refine ⟨ws, .lst _, by rw [le]; omega, ?_⟩
  generalize Txt.join " " ws = y at y1 y2
  show WS _ _ _ _
  walk_at "go"
  refine if_dec (fun z => ?_) (fun z => ?_)
  · walk_at "go"
    exact q y n' ⟨by omega, y2⟩ (by omega)
  have h3 := h3 (by omega)
  have oy : okT (L + 1) y := ⟨by omega, y2⟩
  walk_at "go"
  refine rc_lenS (by omega) ?_
  walk_at "go"
  refine ⟨rfl, n', _, rfl, rfl, by omega, by omega, by omega, fun pc c0 c1 => ⟨_, .sh _, ?_⟩⟩
  walk_at "go"
  refine rs_str (by omega) ?_
  walk_at "go"
  refine ⟨rfl, n' + 1, 6, rfl, rfl, by omega, by omega, by omega, fun i i0 i1 => ⟨_, .sh _, ?_⟩⟩
  obtain ⟨ow, hw, ow1, ow2⟩ := odd6 i0 i1
  refine rd_ixL (.lst _) hw ?_
  have cut1 := oy.cut none (some pc)
  have cut2 := oy.cut (some (pc + pl - 4)) none
  refine rd_addS (by have := cut1.1; omega) ?_
  walk_at "go"
  refine rs_str (by omega) ?_
  have o1 : okT 1 ow := ⟨ow2, ow1⟩
  refine rd_addS (by have := (cut1.app o1).1; have := cut2.1; omega) ?_
  refine ⟨_, rfl, q _ (n' + 2) (((cut1.app o1).app cut2).up (by omega)) (by omega)⟩
end K24

namespace K24
open PySem PySem.Spec PyProof.Rows L2 DL
variable {prg : Program} {wd : World} {K : PySem.W.Frag} {mg : Str → Option Value} {bs : Heap}
local macro_rules | `(tactic| walk_at "px") => `(tactic| first | exact List.not_mem_nil | (show _ ∉ ([0] : List Nat); decide) | (show _ ∉ ([] : List Nat); decide) | fail)
local macro_rules | `(tactic| walk_at "s") => `(tactic| with_reducible first
  | refine ws_seq ?_ | refine ws_if ?_ | refine ws_next ?_ | refine ws_ret ?_ | refine ws_retN ?_ | refine ws_asg (by walk_at "px") ?_ | refine ws_par (by walk_at "px") (by walk_at "px") ?_
  | refine w_var (by with_unfolding_all rfl) ?_ | refine w_int ?_ | refine w_bl ?_ | refine w_non ?_ | refine w_str ?_ | refine w_dnew ?_ | refine w_ty ?_ | refine w_fun ?_
  | refine w_split ?_ | refine w_op ?_ | refine w_un ?_ | refine w_fld ?_ | refine w_xf ?_ | refine wt_test ?_ | refine wt_B ?_ | refine wt_yes ?_ | refine wt_and ?_ | refine wt_or ?_ | refine wt_not ?_ | refine w_andV ?_ | refine w_orV ?_ | refine w_notV ?_ | refine w_ifE ?_ | refine w_chain ?_
  | refine wa_nil ?_ | refine wa_cons ?_ | refine w_tup ?_ | refine w_lst ?_ | refine w_slice ?_ | refine wp_no ?_ | refine wp_int ?_
  | refine w_cd repL_nil ?_ | refine w_md repL_nil ?_ | refine w_mk repL_nil ?_ | refine w_co repL_nil ⟨_, by with_unfolding_all rfl⟩ ?_ | refine w_lenO (by with_unfolding_all rfl) ?_ | refine w_call ?_
  | refine rd_add ?_ | refine rd_sub ?_ | refine rd_lt ?_ | refine rd_le ?_ | refine rd_gt ?_ | refine rd_ge ?_ | refine rd_ltS ?_ | refine rd_leS ?_ | refine rd_gtS ?_ | refine rd_geS ?_ | refine rd_isN ?_ | refine rd_notN ?_ | refine rd_eqI ?_ | refine rd_neI ?_
  | refine wg_tup rfl ?_ | refine wgs_cons ?_ | refine wg_name (by walk_at "px") (by simp) ?_ | refine wgs_nil ?_
  | refine ru_neg ?_ | refine ⟨(by show List.length _ ≤ 100000; simp), ?_⟩
  | refine rc_abs ?_ | refine rc_int1 ?_ | refine rc_min2 ?_ | refine rc_max2 ?_
  | refine ⟨_, rfl, ?_⟩ | fail)
local macro_rules | `(tactic| walk_at "go") => `(tactic| repeat' walk_at "s")
local macro_rules | `(tactic| walk_at "args") => `(tactic| repeat' (with_reducible first | refine wa_cons ?_ | refine wa_nil ?_ | refine w_int ?_ | refine w_bl ?_ | refine w_non ?_ | refine w_str ?_ | refine w_dnew ?_ | refine w_tup ?_ | refine w_lst ?_ | refine w_un ?_ | refine ru_neg ?_ | refine ⟨(by show List.length _ ≤ 100000; simp), ?_⟩ | fail))

/-- what may be handed to the constructor -/
structure GV (v : D) : Prop where
  ty : ∃ t, TyB v t
  ok : okV v
  sh : ∃ p, Shw v p
theorem gv_int {i : Int} (h0 : 0 ≤ i) (h1 : i < 10 ^ 9) : GV (.int i) := by
  have e := sg_num h0
  have l := okT_num h0 h1
  refine ⟨⟨_, .int i⟩, trivial, .int i, rfl, ?_, by simp [PyData.depth], Nat.le_trans l.1 (by decide), l.str⟩
  refine decide_eq_true ?_
  exact Nat.lt_of_lt_of_le (PySem.Flt.log2_lt_of (show 0 < 30 by decide) (show i.natAbs < 2 ^ 30 by omega)) (by decide)
abbrev oddL : List D := [.non, .bl true, .int 0, .int (-1), .str "5", .tup [.int 5], .lst [], .int 10000, .int 100, .str "", .str "money", .str "house", .str "Corn", .dic []]
theorem gv_str {x : Str} (h : okT 20000 x) (l : (reprText x).length ≤ 1000) (o : PyData.strOk (reprText x) = true) : GV (.str x) := ⟨⟨_, .str x⟩, h, .str x, rfl, rfl, by simp [PyData.depth], l, o⟩
theorem odd14 {i : Int} (h0 : 0 ≤ i) (h1 : i < 14) : ∃ v, atI oddL i = some v ∧ GV v := by
  obtain ⟨x, hx, hm⟩ := at_in (xs := oddL) h0 h1
  refine ⟨x, hx, ?_⟩
  simp only [oddL, List.mem_cons, List.not_mem_nil, or_false] at hm
  rcases hm with rfl | rfl | rfl | rfl | rfl | rfl | rfl | rfl | rfl | rfl | rfl | rfl | rfl | rfl
  · exact ⟨⟨_, .non⟩, trivial, .none, rfl, rfl, by decide +kernel, by decide +kernel, by decide +kernel⟩
  · exact ⟨⟨_, .bl _⟩, trivial, .bool true, rfl, rfl, by decide +kernel, by decide +kernel, by decide +kernel⟩
  · exact gv_int (by decide) (by decide)
  · exact ⟨⟨_, .int _⟩, trivial, .int (-1), rfl, by decide +kernel, by decide +kernel, by decide +kernel, by decide +kernel⟩
  · exact gv_str ⟨by decide +kernel, by decide +kernel⟩ (by decide +kernel) (by decide +kernel)
  · exact ⟨⟨_, .tup _⟩, trivial, .tuple [.int 5], rfl, by decide +kernel, by decide +kernel, by decide +kernel, by decide +kernel⟩
  · exact ⟨⟨_, .lst _⟩, trivial, .list [], rfl, by decide +kernel, by decide +kernel, by decide +kernel, by decide +kernel⟩
  · exact gv_int (by decide) (by decide)
  · exact gv_int (by decide) (by decide)
  · exact gv_str ⟨by decide +kernel, by decide +kernel⟩ (by decide +kernel) (by decide +kernel)
  · exact gv_str ⟨by decide +kernel, by decide +kernel⟩ (by decide +kernel) (by decide +kernel)
  · exact gv_str ⟨by decide +kernel, by decide +kernel⟩ (by decide +kernel) (by decide +kernel)
  · exact gv_str ⟨by decide +kernel, by decide +kernel⟩ (by decide +kernel) (by decide +kernel)
  · exact ⟨⟨_, .dic _⟩, trivial, .dict [], rfl, by decide +kernel, by decide +kernel, by decide +kernel, by decide +kernel⟩
theorem gv_corn : GV (.str "corn") := gv_str ⟨by decide +kernel, by decide +kernel⟩ (by decide +kernel) (by decide +kernel)
theorem GV.small {v : D} (g : GV v) : smallD v := by
  cases v with
  | str x => exact (show okT 20000 x from g.ok).1
  | _ => exact trivial
/-- what is due can be shown -/
def ShwL (d : D) : Prop := ∃ p, d.pyR = some p ∧ p.showable = true ∧ p.depth ≤ 64 ∧ p.shown.length ≤ 100000 ∧ PyData.strOk p.shown = true
theorem shw_made {x a b c : D} (gx : GV x) (ga : GV a) (gb : GV b) (gc : GV c) : ShwL (madeV x a b c) := by
  obtain ⟨px, sx⟩ := gx.sh
  obtain ⟨pa, sa⟩ := ga.sh
  obtain ⟨pb, sb⟩ := gb.sh
  obtain ⟨pc, sc⟩ := gc.sh
  unfold madeV
  split
  · exact ⟨_, shw_two sx (by decide +kernel) (by decide +kernel)⟩
  split
  · exact ⟨_, shw_two sa (by decide +kernel) (by decide +kernel)⟩
  split
  · exact ⟨_, shw_two sb (by decide +kernel) (by decide +kernel)⟩
  split
  · exact ⟨_, shw_two sc (by decide +kernel) (by decide +kernel)⟩
  · exact ⟨.none, rfl, rfl, by decide +kernel, by decide +kernel, by decide +kernel⟩
/-- what is due behind i looks -/
def due1 (c : D) : D := if fitB c 9999 = true then .non else .lst [.str "shares", c]
def due2 (b c : D) : D := if fitB b 99 = true then due1 c else .lst [.str "stock", b]
def due3 (a b c : D) : D := if fitB a 9999 = true then due2 b c else .lst [.str "money", a]
def dueD (a b c : D) : Nat → D
  | 0 => .non
  | 1 => due1 c
  | 2 => due2 b c
  | _ => due3 a b c
theorem due_made (x a b c : D) : (if goodB x = true then dueD a b c 3 else .lst [.str "unit", x]) = madeV x a b c := by
  unfold madeV
  show (if goodB x = true then due3 a b c else .lst [.str "unit", x]) = _
  unfold due3 due2 due1
  cases goodB x <;> cases fitB a 9999 <;> cases fitB b 99 <;> cases fitB c 9999 <;> rfl
def c_Llaw_made_right : CO := ⟨fun m ds k => ∃ n, m = .ex n ∧ ds = [] ∧ n ≤ 900000 ∧ ∀ n', n' ≤ n + 12 → k (.ret (.sh (.bl true))) (.ex n'), by
  rintro m ds k k' h ⟨n, e1, e2, g1, q⟩
  exact ⟨n, e1, e2, g1, fun n' a => h _ _ (q n' a)⟩⟩
theorem sc_Llaw_made_right : FnScope ["state", "odd", "given", "turn", "due", "place", "name", "most"] ["state"] (defScope s_Llaw_made_right) := ⟨rfl, rfl, rfl, by decide +kernel, rfl, by decide +kernel, by decide +kernel⟩
theorem ok_Llaw_made_right (T : Tx K mg) : ∃ fd, DC.FnG prg wd K mg bs (L2.CX prg wd) 7 (He.ga K "_law_made_right") fd ["state"] (toSp K 1 c_Llaw_made_right.con) ∧ L2.Binds K fd ["state"] [] ∧ PySem.W.keepIn K (.ref (He.ga K "_law_made_right")) = true := by
  obtain ⟨fd, F0⟩ := T.d_Llaw_made_right
  obtain ⟨_, F_Llaw_draw, b_Llaw_draw, k_Llaw_draw⟩ := ok_Llaw_draw (prg := prg) (wd := wd) (bs := bs) T
  obtain ⟨_, F_Llaw_is_from, b_Llaw_is_from, k_Llaw_is_from⟩ := ok_Llaw_is_from (prg := prg) (wd := wd) (bs := bs) T
  obtain ⟨_, F_Llaw_is_word, b_Llaw_is_word, k_Llaw_is_word⟩ := ok_Llaw_is_word (prg := prg) (wd := wd) (bs := bs) T
  obtain ⟨_, F_Llaw_made, b_Llaw_made, k_Llaw_made⟩ := ok_Llaw_made (prg := prg) (wd := wd) (bs := bs) T
  refine ⟨fd, def_O (N := ["state", "odd", "given", "turn", "due", "place", "name", "most"]) F0 sc_Llaw_made_right rfl ?_, F0.bindsN fun _ _ _ _ _ _ us hl => match us, hl with | [_], _ => rfl, F0.kp⟩
  intro cdv A fr s H E v0 m0 ds kk gd room hc hl
  have hu := room.units
  have hu7 := room70 room
  have sc := sc_Llaw_made_right
  refine ⟨_, (pss_cons (ps_set (i := 1) sc.nd rfl (Or.inl rfl) (pe_lst (pa_cons pe_non (pa_cons pe_bl (pa_cons pe_int (pa_cons (pe_un un_neg pe_int) (pa_cons pe_str (pa_cons (pe_tup (pa_cons pe_int pa_nil)) (pa_cons (pe_lst pa_nil) (pa_cons pe_int (pa_cons pe_int (pa_cons pe_str (pa_cons pe_str (pa_cons pe_str (pa_cons pe_str (pa_cons pe_dnewK pa_nil))))))))))))))))
  (pss_cons (ps_set (i := 2) sc.nd rfl (Or.inl rfl) (pe_lst (pa_cons pe_str (pa_cons (pe_op o_add pe_int (DC.pe_callG F_Llaw_draw gd (room.mono (by decide)) (by rfl) T.g__law_draw k_Llaw_draw b_Llaw_draw .nil (fun σ => passAt (takes_of rfl rfl rfl rfl) σ) (pa_cons (pv 0) (pa_cons pe_int pa_nil)))) (pa_cons (pe_op o_add pe_int (DC.pe_callG F_Llaw_draw gd (room.mono (by decide)) (by rfl) T.g__law_draw k_Llaw_draw b_Llaw_draw .nil (fun σ => passAt (takes_of rfl rfl rfl rfl) σ) (pa_cons (pv 0) (pa_cons pe_int pa_nil)))) (pa_cons (pe_op o_add pe_int (DC.pe_callG F_Llaw_draw gd (room.mono (by decide)) (by rfl) T.g__law_draw k_Llaw_draw b_Llaw_draw .nil (fun σ => passAt (takes_of rfl rfl rfl rfl) σ) (pa_cons (pv 0) (pa_cons pe_int pa_nil)))) pa_nil))))))
  (pss_cons (ps_for (passes_of rfl) rfl (pi_range1 (by rfl) T.n_range (pa_cons (DC.pe_callG F_Llaw_draw gd (room.mono (by decide)) (by rfl) T.g__law_draw k_Llaw_draw b_Llaw_draw .nil (fun σ => passAt (takes_of rfl rfl rfl rfl) σ) (pa_cons (pv 0) (pa_cons pe_int pa_nil))) pa_nil)) (pg_name (i := 3) sc.nd rfl (Or.inl rfl)) (pss_one (ps_asg (pe_ix ix_seq (pv 1) (DC.pe_callG F_Llaw_draw gd (room.mono (by decide)) (by rfl) T.g__law_draw k_Llaw_draw b_Llaw_draw .nil (fun σ => passAt (takes_of rfl rfl rfl rfl) σ) (pa_cons (pv 0) (pa_cons pe_int pa_nil))) (fun _ _ => rfl)) (pg_sub (pv 2) (DC.pe_callG F_Llaw_draw gd (room.mono (by decide)) (by rfl) T.g__law_draw k_Llaw_draw b_Llaw_draw .nil (fun σ => passAt (takes_of rfl rfl rfl rfl) σ) (pa_cons (pv 0) (pa_cons pe_int pa_nil))) set_list))))
  (pss_cons (ps_set (i := 4) sc.nd rfl (Or.inl rfl) pe_non)
  (pss_cons (ps_for (passes_of rfl) rfl (pi_list (pe_lst (pa_cons (pe_tup (pa_cons pe_int (pa_cons pe_str (pa_cons pe_int pa_nil)))) (pa_cons (pe_tup (pa_cons pe_int (pa_cons pe_str (pa_cons pe_int pa_nil)))) (pa_cons (pe_tup (pa_cons pe_int (pa_cons pe_str (pa_cons pe_int pa_nil)))) pa_nil))))) (pg_tup (by rfl) (pgs_cons (pg_name (i := 5) sc.nd rfl (Or.inl rfl)) (pgs_cons (pg_name (i := 6) sc.nd rfl (Or.inl rfl)) (pgs_cons (pg_name (i := 7) sc.nd rfl (Or.inl rfl)) pgs_nil)))) (pss_one (ps_if (pt_not (pt_val (DC.pe_callG F_Llaw_is_from gd (room.mono (by decide)) (by rfl) T.g__law_is_from k_Llaw_is_from b_Llaw_is_from .nil (fun σ => passAt (takes_of rfl rfl rfl rfl) σ) (pa_cons (pe_ix ix_seq (pv 2) (pv 5) (fun _ _ => rfl)) (pa_cons (pv 7) pa_nil))))) (pss_one (ps_set (i := 4) sc.nd rfl (Or.inl rfl) (pe_lst (pa_cons (pv 6) (pa_cons (pe_ix ix_seq (pv 2) (pv 5) (fun _ _ => rfl)) pa_nil))))) pss_nil)))
  (pss_cons (ps_if (pt_not (pt_val (DC.pe_callG F_Llaw_is_word gd (room.mono (by decide)) (by rfl) T.g__law_is_word k_Llaw_is_word b_Llaw_is_word .nil (fun σ => passAt (takes_of rfl rfl rfl rfl) σ) (pa_cons (pe_ix ix_seq (pv 2) pe_int (fun _ _ => rfl)) pa_nil)))) (pss_one (ps_set (i := 4) sc.nd rfl (Or.inl rfl) (pe_lst (pa_cons pe_str (pa_cons (pe_ix ix_seq (pv 2) pe_int (fun _ _ => rfl)) pa_nil))))) pss_nil)
  (pss_one (ps_ret (pe_cmpR (op_eqD hu) (pe_callB (o_reprD gd hu7 T.sm) (by rfl) T.n_repr (by decide +kernel) (pa_cons (DC.pe_callG F_Llaw_made gd (room.mono (by decide)) (by rfl) T.g__law_made k_Llaw_made b_Llaw_made .nil (fun σ => passAt (takes_of rfl rfl rfl rfl) σ) (pa_cons (pe_ix ix_seq (pv 2) pe_int (fun _ _ => rfl)) (pa_cons (pe_ix ix_seq (pv 2) pe_int (fun _ _ => rfl)) (pa_cons (pe_ix ix_seq (pv 2) pe_int (fun _ _ => rfl)) (pa_cons (pe_ix ix_seq (pv 2) pe_int (fun _ _ => rfl)) pa_nil))))) pa_nil)) (pe_callB (o_reprD gd hu7 T.sm) (by rfl) T.n_repr (by decide +kernel) (pa_cons (pv 4) pa_nil)) (nomark _)))))))))), ?_⟩
  try dsimp only [L2.cxOf]
  obtain ⟨n, rfl, rfl, n9, q⟩ := hc
  refine ws_seq ?_
  refine ws_asg (by walk_at "px") ?_
  refine w_lst ?_
  walk_at "args"
  show WS _ _ _ _
  refine ws_seq ?_
  refine ws_asgO (by walk_at "px") (by show 2 < 8; decide) ?_
  refine wo_lst ?_
  walk_at "go"
  refine ⟨rfl, n, 9999, rfl, rfl, by omega, by omega, by omega, fun a a0 a1 => ⟨_, .sh _, ?_⟩⟩
  walk_at "go"
  refine ⟨rfl, n + 1, 99, rfl, rfl, by omega, by omega, by omega, fun b b0 b1 => ⟨_, .sh _, ?_⟩⟩
  walk_at "go"
  refine ⟨rfl, n + 2, 9999, rfl, rfl, by omega, by omega, by omega, fun c c0 c1 => ⟨_, .sh _, ?_⟩⟩
  refine rd_add ?_
  refine wa_nil ?_
  refine ⟨by show 4 ≤ 100000; decide, rfl, ?_⟩
  show WS _ _ _ _
  refine ws_seq ?_
  refine ws_for (sl := [3]) ?_
  refine wi_rng1 ?_
  walk_at "go"
  refine ⟨rfl, n + 3, 4, rfl, rfl, by omega, by omega, by omega, fun r r0 r1 => ⟨_, .sh _, ?_⟩⟩
  walk_at "go"
  refine ⟨by omega, fun i ρ => ∃ y0 y1 y2 y3, ∃ n' t3, GV y0 ∧ GV y1 ∧ GV y2 ∧ GV y3 ∧ i ≤ 3 ∧ n' ≤ n + 4 + 2 * i ∧ ρ = [some (.ex n'), some (.sh (.lst oddL)), some (.lst ([y0, y1, y2, y3].map .sh)), t3, none, none, none, none], ⟨_, _, _, _, _, _, gv_corn, gv_int (by omega) (by omega), gv_int (by omega) (by omega), gv_int (by omega) (by omega), by omega, by omega, rfl⟩, ?_, ?_⟩
  · rintro i d ρ2 hd ⟨y0, y1, y2, y3, n', t3, g0, g1, g2, g3, hi, hn, rfl⟩
    obtain ⟨hi, rfl⟩ := intsD_get hd
    have hi : i < 3 := by omega
    refine wg_name (by walk_at "px") (by simp) ?_
    refine ws_setO ⟨_, rfl⟩ ?_
    walk_at "go"
    refine ⟨rfl, n', 14, rfl, rfl, by omega, by omega, by omega, fun o o0 o1 => ⟨_, .sh _, ?_⟩⟩
    obtain ⟨v, hv, gv⟩ := odd14 o0 o1
    refine rd_ixL (.lst _) hv ?_
    refine ⟨⟨[y0, y1, y2, y3], rfl⟩, ?_⟩
    walk_at "go"
    refine ⟨rfl, n' + 1, 4, rfl, rfl, by omega, by omega, by omega, fun j j0 j1 => ⟨_, .sh _, ?_⟩⟩
    refine ⟨[y0, y1, y2, y3], j, j.toNat, rfl, rfl, ixN_in j0 j1, ?_⟩
    obtain rfl | rfl | rfl | rfl : j = 0 ∨ j = 1 ∨ j = 2 ∨ j = 3 := by omega
    · exact ⟨v, y1, y2, y3, n' + 2, _, gv, g1, g2, g3, by omega, by omega, rfl⟩
    · exact ⟨y0, v, y2, y3, n' + 2, _, g0, gv, g2, g3, by omega, by omega, rfl⟩
    · exact ⟨y0, y1, v, y3, n' + 2, _, g0, g1, gv, g3, by omega, by omega, rfl⟩
    · exact ⟨y0, y1, y2, v, n' + 2, _, g0, g1, g2, gv, by omega, by omega, rfl⟩
  rintro ρ2 ⟨y0, y1, y2, y3, n', t3, g0, g1, g2, g3, hi, hn, rfl⟩
  rw [intsD_len] at hn
  have hn : n' ≤ n + 10 := by omega
  obtain ⟨tx0, tz0⟩ := g0.ty
  obtain ⟨tx1, tz1⟩ := g1.ty
  obtain ⟨tx2, tz2⟩ := g2.ty
  obtain ⟨tx3, tz3⟩ := g3.ty
  show WS _ _ _ _
  refine ws_letBe (i := 2) rfl frz_lst (by walk_at "px") ?_
  refine ws_seq ?_
  refine ws_asg (by walk_at "px") ?_
  refine w_non ?_
  show WS _ _ _ _
  refine ws_seq ?_
  refine ws_for (sl := [5, 6, 7]) ?_
  refine wi_list ?_
  walk_at "args"
  refine ⟨_, rfl, ?_⟩
  refine ⟨fun i ρ => ∃ t5 t6 t7, ρ = [some (.ex n'), some (.sh (.lst oddL)), some (.sh (.lst [y0, y1, y2, y3])), t3, some (.sh (dueD y1 y2 y3 i)), t5, t6, t7], ⟨_, _, _, rfl⟩, ?_, ?_⟩
  · rintro i d ρ2 hd ⟨t5, t6, t7, rfl⟩
    have hd2 : ∃ j nm w v t, d = .tup [.int j, .str nm, .int w] ∧ atI [y0, y1, y2, y3] j = some v ∧ TyB v t ∧ dueD y1 y2 y3 (i + 1) = if fitB v w = true then dueD y1 y2 y3 i else .lst [.str nm, v] := by
      rcases i with _ | _ | _ | i
      · exact ⟨_, _, _, y3, tx3, (Option.some.inj hd).symm, rfl, tz3, rfl⟩
      · exact ⟨_, _, _, y2, tx2, (Option.some.inj hd).symm, rfl, tz2, rfl⟩
      · exact ⟨_, _, _, y1, tx1, (Option.some.inj hd).symm, rfl, tz1, rfl⟩
      · cases hd
    obtain ⟨j, nm, w, v, t, rfl, hv, ty, ed⟩ := hd2
    walk_at "go"
    refine rd_ixL (.lst _) hv ?_
    walk_at "go"
    refine ⟨rfl, v, t, w, rfl, ty, _, .sh _, _, rfl, ?_⟩
    cases hf : fitB v w with
    | true =>
      rw [hf, if_pos rfl] at ed
      rw [if_neg (by decide)]
      refine ws_next ?_
      refine ⟨some (.sh (.int j)), some (.sh (.str nm)), some (.sh (.int w)), ?_⟩
      rw [ed]
      rfl
    | false =>
      rw [hf, if_neg (by decide)] at ed
      rw [if_pos (by decide)]
      walk_at "go"
      refine rd_ixL (.lst _) hv ?_
      walk_at "go"
      refine ⟨some (.sh (.int j)), some (.sh (.str nm)), some (.sh (.int w)), ?_⟩
      rw [ed]
      rfl
  rintro ρ2 ⟨t5, t6, t7, rfl⟩
  show WS _ _ _ _
  rw [show dueD y1 y2 y3 [D.tup [.int 3, .str "shares", .int 9999], .tup [.int 2, .str "stock", .int 99], .tup [.int 1, .str "money", .int 9999]].length = due3 y1 y2 y3 from rfl]
  have edue : (if goodB y0 = true then due3 y1 y2 y3 else .lst [.str "unit", y0]) = madeV y0 y1 y2 y3 := due_made y0 y1 y2 y3
  refine ws_mid (fun ρ => ∃ t5 t6 t7, ρ = [some (.ex n'), some (.sh (.lst oddL)), some (.sh (.lst [y0, y1, y2, y3])), t3, some (.sh (madeV y0 y1 y2 y3)), t5, t6, t7]) ?_ ?_
  · walk_at "go"
    refine rd_ixL (.lst _) rfl ?_
    walk_at "go"
    refine ⟨rfl, y0, tx0, rfl, tz0, g0.ok, _, .sh _, _, rfl, ?_⟩
    cases hg : goodB y0 with
    | true =>
      rw [hg, if_pos rfl] at edue
      rw [if_neg (by decide)]
      refine ws_next ?_
      refine ⟨t5, t6, t7, ?_⟩
      first | (rw [← edue]; done) | (rw [← edue]; rfl)
    | false =>
      rw [hg, if_neg (by decide)] at edue
      rw [if_pos (by decide)]
      walk_at "go"
      refine rd_ixL (.lst _) rfl ?_
      walk_at "go"
      refine ⟨t5, t6, t7, ?_⟩
      first | (rw [← edue]; done) | (rw [← edue]; rfl)
  rintro ρ2 ⟨t5, t6, t7, rfl⟩
  obtain ⟨p, s1, s2, s3, s4, s5⟩ := shw_made g0 g1 g2 g3
  walk_at "go"
  refine rd_ixL (.lst _) rfl ?_
  walk_at "go"
  refine rd_ixL (.lst _) rfl ?_
  walk_at "go"
  refine rd_ixL (.lst _) rfl ?_
  walk_at "go"
  refine rd_ixL (.lst _) rfl ?_
  walk_at "go"
  refine ⟨rfl, y0, y1, y2, y3, tx0, tx1, tx2, tx3, rfl, tz0, tz1, tz2, tz3, g0.small, _, .sh _, ?_⟩
  walk_at "go"
  refine rc_reprD s1 s2 s3 s4 ?_
  walk_at "go"
  refine rc_reprD s1 s2 s3 s4 ?_
  refine rd_eqS s5 s5 ?_
  rw [decide_eq_true rfl]
  exact ⟨_, rfl, q n' (by omega)⟩
end K24

namespace K24
open PySem PySem.Spec PyProof.Rows L2 DL
variable {prg : Program} {wd : World} {K : PySem.W.Frag} {mg : Str → Option Value} {bs : Heap}
local macro_rules | `(tactic| walk_at "px") => `(tactic| first | exact List.not_mem_nil | (show _ ∉ ([0] : List Nat); decide) | (show _ ∉ ([] : List Nat); decide) | fail)
local macro_rules | `(tactic| walk_at "s") => `(tactic| with_reducible first
  | refine ws_seq ?_ | refine ws_if ?_ | refine ws_next ?_ | refine ws_ret ?_ | refine ws_retN ?_ | refine ws_asg (by walk_at "px") ?_ | refine ws_par (by walk_at "px") (by walk_at "px") ?_
  | refine w_var (by with_unfolding_all rfl) ?_ | refine w_int ?_ | refine w_bl ?_ | refine w_non ?_ | refine w_str ?_ | refine w_dnew ?_ | refine w_ty ?_ | refine w_fun ?_
  | refine w_split ?_ | refine w_op ?_ | refine w_un ?_ | refine w_fld ?_ | refine w_xf ?_ | refine wt_test ?_ | refine wt_B ?_ | refine wt_yes ?_ | refine wt_and ?_ | refine wt_or ?_ | refine wt_not ?_ | refine w_andV ?_ | refine w_orV ?_ | refine w_notV ?_ | refine w_ifE ?_ | refine w_chain ?_
  | refine wa_nil ?_ | refine wa_cons ?_ | refine w_tup ?_ | refine w_lst ?_ | refine w_slice ?_ | refine wp_no ?_ | refine wp_int ?_
  | refine w_cd repL_nil ?_ | refine w_md repL_nil ?_ | refine w_mk repL_nil ?_ | refine w_co repL_nil ⟨_, by with_unfolding_all rfl⟩ ?_ | refine w_lenO (by with_unfolding_all rfl) ?_ | refine w_call ?_
  | refine rd_add ?_ | refine rd_sub ?_ | refine rd_lt ?_ | refine rd_le ?_ | refine rd_gt ?_ | refine rd_ge ?_ | refine rd_ltS ?_ | refine rd_leS ?_ | refine rd_gtS ?_ | refine rd_geS ?_ | refine rd_isN ?_ | refine rd_notN ?_ | refine rd_eqI ?_ | refine rd_neI ?_
  | refine wg_tup rfl ?_ | refine wgs_cons ?_ | refine wg_name (by walk_at "px") (by simp) ?_ | refine wgs_nil ?_
  | refine ru_neg ?_ | refine ⟨(by show List.length _ ≤ 100000; simp), ?_⟩
  | refine rc_abs ?_ | refine rc_int1 ?_ | refine rc_min2 ?_ | refine rc_max2 ?_
  | refine ⟨_, rfl, ?_⟩ | fail)
local macro_rules | `(tactic| walk_at "go") => `(tactic| repeat' walk_at "s")
local macro_rules | `(tactic| walk_at "args") => `(tactic| repeat' (with_reducible first | refine wa_cons ?_ | refine wa_nil ?_ | refine w_int ?_ | refine w_bl ?_ | refine w_non ?_ | refine w_str ?_ | refine w_dnew ?_ | refine w_tup ?_ | refine w_lst ?_ | refine w_un ?_ | refine ru_neg ?_ | refine ⟨(by show List.length _ ≤ 100000; simp), ?_⟩ | fail))

theorem eqvP_self {w : Str} {a b c : Int} : eqvP w w a a b b c c = true := by
  unfold eqvP
  simp
theorem ask_in {m s : Int} (hm : 1 ≤ m) (hs : 2 ≤ s) : 1 ≤ -((-m) / (s - 1)) ∧ -((-m) / (s - 1)) ≤ m := by
  have e := Int.mul_ediv_add_emod (-m) (s - 1)
  have r0 := Int.emod_nonneg (-m) (show s - 1 ≠ 0 by omega)
  have r1 := Int.emod_lt_of_pos (-m) (show 0 < s - 1 by omega)
  constructor
  · have : (-m) / (s - 1) < 0 := Int.ediv_neg_of_neg_of_pos (by omega) (by omega)
    omega
  · have k : -m ≤ (-m) / (s - 1) := by
      refine Int.le_ediv_of_mul_le (by omega) ?_
      have : m * 1 ≤ m * (s - 1) := Int.mul_le_mul_of_nonneg_left (by omega) (by omega)
      rw [Int.neg_mul]
      omega
    omega
theorem parse_py (v : D) : ∃ p, (parseD v).py = some p ∧ SeqAt.shaped p = true ∧ PyData.eqv p p = true := by
  cases v with
  | str x =>
    show ∃ p, (wordsD x).py = some p ∧ SeqAt.shaped p = true ∧ PyData.eqv p p = true
    unfold wordsD
    split
    · split
      · rename_i p u a b c _ h
        simp only [decide_eq_true_eq, Bool.and_eq_true] at h
        have so := strOk_of (good_iff.mp h.2.1)
        have cl : (PyData.tuple [.str u, .int (valS a), .int (valS b), .int (valS c)]).canLay0 = true := by
          show (PyData.strOk u && true) = true
          rw [so]
          rfl
        refine ⟨.tuple [.str u, .int (valS a), .int (valS b), .int (valS c)], rfl, ?_, SeqAt.eqv_refl _ cl⟩
        unfold SeqAt.shaped
        rw [cl]
        rfl
      · exact ⟨.none, rfl, rfl, rfl⟩
    · exact ⟨.none, rfl, rfl, rfl⟩
  | _ => exact ⟨.none, rfl, rfl, rfl⟩
abbrev odd7L : List D := [.non, .int 5, .tup [], .lst [.str "pool"], .dic [], .bl true, .str ""]
theorem odd7 {i : Int} (h0 : 0 ≤ i) (h1 : i < 7) : ∃ v, atI odd7L i = some v ∧ (∃ t, TyB v t) ∧ okV v := by
  obtain ⟨x, hx, hm⟩ := at_in (xs := odd7L) h0 h1
  refine ⟨x, hx, ?_⟩
  simp only [odd7L, List.mem_cons, List.not_mem_nil, or_false] at hm
  rcases hm with rfl | rfl | rfl | rfl | rfl | rfl | rfl
  · exact ⟨⟨_, .non⟩, trivial⟩
  · exact ⟨⟨_, .int _⟩, trivial⟩
  · exact ⟨⟨_, .tup _⟩, trivial⟩
  · exact ⟨⟨_, .lst _⟩, trivial⟩
  · exact ⟨⟨_, .dic _⟩, trivial⟩
  · exact ⟨⟨_, .bl _⟩, trivial⟩
  · exact ⟨⟨_, .str _⟩, by decide +kernel, by decide +kernel⟩
theorem poolT_ok {u : Str} {m s h : Int} (g : goodS u) (g1 : nOk m) (g2 : nOk s) (g3 : nOk h) : okT 43 (poolT u m s h) := by
  have ou : okT 8 u := ⟨g.2.1, fun c hc => by have := (g.2.2.1 c hc).2; omega⟩
  have o5 : okT 5 ("pool " : Str) := ⟨by decide +kernel, by decide +kernel⟩
  have o1 : okT 1 (" " : Str) := ⟨by decide +kernel, by decide +kernel⟩
  exact ((((((o5.app ou).app o1).app (okT_num g1.1 g1.2)).app o1).app (okT_num g2.1 g2.2)).app o1).app (okT_num g3.1 g3.2)
def c_Flaw : CD := ⟨fun ds k => ∃ ns : List Int, ds = [.rol (ns.map .int)] ∧ ns.length ≤ 63 ∧ (∀ z ∈ ns, Builtin.Int.intBits z ≤ 1048576) ∧ k (.ret (.sh (.bl true))), by
  rintro ds k k' h ⟨ns, e, g1, g2, q⟩
  exact ⟨ns, e, g1, g2, h _ q⟩⟩
theorem sc_Flaw : FnScope ["script", "state", "turn", "plain", "unit", "pool", "text", "step", "thing"] ["script"] (defScope s_Flaw) := ⟨rfl, rfl, rfl, by decide +kernel, rfl, by decide +kernel, by decide +kernel⟩
theorem ok_Flaw (T : Tx K mg) {fd : FuncData} (F0 : FunD K "law" "law" (defArgs s_Flaw) (defBody s_Flaw) (defScope s_Flaw) [] [] (He.ga K "law") fd) : DC.FnG prg wd K mg bs (L2.CX prg wd) 9 (He.ga K "law") fd ["script"] (toSp K 1 c_Flaw.con) ∧ L2.Binds K fd ["script"] [] ∧ PySem.W.keepIn K (.ref (He.ga K "law")) = true := by
  obtain ⟨_, F_Pool_eq, b_Pool_eq, k_Pool_eq⟩ := ok_Pool_eq (prg := prg) (wd := wd) (bs := bs) T
  obtain ⟨_, F_Llaw_draw, b_Llaw_draw, k_Llaw_draw⟩ := ok_Llaw_draw (prg := prg) (wd := wd) (bs := bs) T
  obtain ⟨_, F_Llaw_made_right, b_Llaw_made_right, k_Llaw_made_right⟩ := ok_Llaw_made_right (prg := prg) (wd := wd) (bs := bs) T
  obtain ⟨_, F_Llaw_parsed, b_Llaw_parsed, k_Llaw_parsed⟩ := ok_Llaw_parsed (prg := prg) (wd := wd) (bs := bs) T
  obtain ⟨_, F_Llaw_pool, b_Llaw_pool, k_Llaw_pool⟩ := ok_Llaw_pool (prg := prg) (wd := wd) (bs := bs) T
  obtain ⟨_, F_Llaw_read, b_Llaw_read, k_Llaw_read⟩ := ok_Llaw_read (prg := prg) (wd := wd) (bs := bs) T
  obtain ⟨_, F_Llaw_spoilt, b_Llaw_spoilt, k_Llaw_spoilt⟩ := ok_Llaw_spoilt (prg := prg) (wd := wd) (bs := bs) T
  obtain ⟨_, F_Llaw_start, b_Llaw_start, k_Llaw_start⟩ := ok_Llaw_start (prg := prg) (wd := wd) (bs := bs) T
  obtain ⟨_, F_Llaw_words, b_Llaw_words, k_Llaw_words⟩ := ok_Llaw_words (prg := prg) (wd := wd) (bs := bs) T
  obtain ⟨_, F_Pool_init, b_Pool_init, k_Pool_init⟩ := ok_Pool_init (prg := prg) (wd := wd) (bs := bs) T
  obtain ⟨_, F_Pool_ask, b_Pool_ask, k_Pool_ask⟩ := ok_Pool_ask (prg := prg) (wd := wd) (bs := bs) T
  obtain ⟨_, F_Pool_read, b_Pool_read, k_Pool_read⟩ := ok_Pool_read (prg := prg) (wd := wd) (bs := bs) T
  obtain ⟨_, F_Pool_sold, b_Pool_sold, k_Pool_sold, _, d_Pool_sold, bd_Pool_sold⟩ := ok_Pool_sold (prg := prg) (wd := wd) (bs := bs) T
  obtain ⟨_, F_Pool_str, b_Pool_str, k_Pool_str⟩ := ok_Pool_str (prg := prg) (wd := wd) (bs := bs) T
  refine ⟨def_D (N := ["script", "state", "turn", "plain", "unit", "pool", "text", "step", "thing"]) F0 sc_Flaw rfl ?_, F0.bindsN fun _ _ _ _ _ _ us hl => match us, hl with | [_], _ => rfl, F0.kp⟩
  intro cdv A fr s H E ds kk gd room hc hl
  have hu := room.units
  have hu7 := room70 room
  have sc := sc_Flaw
  refine ⟨_, (pss_cons (ps_set (i := 1) sc.nd rfl (Or.inl rfl) (DC.pe_callG F_Llaw_start gd (room.mono (by decide)) (by rfl) T.g__law_start k_Llaw_start b_Llaw_start .nil (fun σ => passAt (takes_of rfl rfl rfl rfl) σ) (pa_cons (pv 0) pa_nil)))
  (pss_cons (ps_for (passes_of rfl) rfl (pi_range1 (by rfl) T.n_range (pa_cons pe_int pa_nil)) (pg_name (i := 2) sc.nd rfl (Or.inl rfl)) (pss_cons (ps_set (i := 3) sc.nd rfl (Or.inl rfl) (DC.pe_callG F_Llaw_pool gd (room.mono (by decide)) (by rfl) T.g__law_pool k_Llaw_pool b_Llaw_pool .nil (fun σ => passAt (takes_of rfl rfl rfl rfl) σ) (pa_cons (pv 1) pa_nil)))
    (pss_cons (ps_set (i := 4) sc.nd rfl (Or.inl rfl) (pe_ix ix_seq (DC.pe_callG F_Llaw_words gd (room.mono (by decide)) (by rfl) T.g__law_words k_Llaw_words b_Llaw_words .nil (fun σ => passAt (takes_of rfl rfl rfl rfl) σ) (pa_cons (pv 1) (pa_cons pe_int pa_nil))) pe_int (fun _ _ => rfl)))
    (pss_cons (ps_set (i := 5) sc.nd rfl (Or.inl rfl) (DC.pe_makeG T.k_Pool F_Pool_init gd (room.mono (by decide)) (by rfl) T.g_Pool b_Pool_init .nil (fun σ => passAt (takes_of rfl rfl rfl rfl) σ) (pa_cons (pv 4) (pa_cons (pe_ix ix_seq (pv 3) pe_int (fun _ _ => rfl)) (pa_cons (pe_ix ix_seq (pv 3) pe_int (fun _ _ => rfl)) (pa_cons (pe_ix ix_seq (pv 3) pe_int (fun _ _ => rfl)) pa_nil))))))
    (pss_cons (ps_if (PW.pt (pw_and (pt_cmpR op_notN (DC.pe_methG0 (pv 5) T.c_Pool T.m_Pool_ask F_Pool_ask gd (room.mono (by decide)) b_Pool_ask .nil (fun σ => passAt (takes_of rfl rfl rfl rfl) σ)) pe_non (nomark _)) (pw_and1 (pt_cmpR (op_eqD hu) (DC.pe_callG F_Llaw_draw gd (room.mono (by decide)) (by rfl) T.g__law_draw k_Llaw_draw b_Llaw_draw .nil (fun σ => passAt (takes_of rfl rfl rfl rfl) σ) (pa_cons (pv 1) (pa_cons pe_int pa_nil))) pe_int (nomark _))))) (pss_one (ps_set (i := 5) sc.nd rfl (Or.inl rfl) (DC.pe_methG0 (pv 5) T.c_Pool T.m_Pool_sold F_Pool_sold gd (room.mono (by decide)) bd_Pool_sold d_Pool_sold (fun σ => passAt (takes_of rfl rfl rfl rfl) σ)))) pss_nil)
    (pss_cons (ps_set (i := 6) sc.nd rfl (Or.inl rfl) (pe_op o_add (pe_op o_add (pe_op o_add pe_str (pv 4)) pe_str) (pe_callTy call_str_int (by rfl) T.n_str (by decide +kernel) (pa_cons (pe_fld (pv 5) rfl) pa_nil))))
    (pss_cons (ps_set (i := 6) sc.nd rfl (Or.inl rfl) (pe_op o_add (pe_op o_add (pe_op o_add (pe_op o_add (pv 6) pe_str) (pe_callTy call_str_int (by rfl) T.n_str (by decide +kernel) (pa_cons (pe_fld (pv 5) rfl) pa_nil))) pe_str) (pe_callTy call_str_int (by rfl) T.n_str (by decide +kernel) (pa_cons (pe_fld (pv 5) rfl) pa_nil))))
    (pss_cons (ps_if (PW.pt (pw_or (pt_cmpR (op_neD hu) (pe_callTy (DC.call_strOwn ⟨T.m_Pool_str.at_, T.m_Pool_str.fn⟩ F_Pool_str gd (room.mono (by decide)) b_Pool_str) (by rfl) T.n_str (by decide +kernel) (pa_cons (pv 5) pa_nil)) (pv 6) (nomark _)) (pw_or1 (pt_cmpR (DC.op_ownNe T.eq_Pool F_Pool_eq gd (room.mono (by decide)) b_Pool_eq) (DC.pe_cmethG (pe_glob (by rfl) T.g_Pool (show RelV (.ref _) (.ref _) from rfl)) T.cm_Pool_read.1 T.cm_Pool_read.2 F_Pool_read gd (room.mono (by decide)) b_Pool_read .nil (fun σ => passAt (takes_of rfl rfl rfl rfl) σ) (pa_cons (pv 6) pa_nil)) (pv 5) (nomark _))))) (pss_one (ps_ret pe_bl)) pss_nil)
    (pss_cons (ps_for (passes_of rfl) rfl (pi_range1 (by rfl) T.n_range (pa_cons (pe_op o_add pe_int (DC.pe_callG F_Llaw_draw gd (room.mono (by decide)) (by rfl) T.g__law_draw k_Llaw_draw b_Llaw_draw .nil (fun σ => passAt (takes_of rfl rfl rfl rfl) σ) (pa_cons (pv 1) (pa_cons pe_int pa_nil)))) pa_nil)) (pg_name (i := 7) sc.nd rfl (Or.inl rfl)) (pss_one (ps_set (i := 6) sc.nd rfl (Or.inl rfl) (DC.pe_callG F_Llaw_spoilt gd (room.mono (by decide)) (by rfl) T.g__law_spoilt k_Llaw_spoilt b_Llaw_spoilt .nil (fun σ => passAt (takes_of rfl rfl rfl rfl) σ) (pa_cons (pv 1) (pa_cons (pv 6) pa_nil))))))
    (pss_cons (ps_for (passes_of rfl) rfl (pi_list (pe_lst (pa_cons (pv 6) (pa_cons (pe_ix ix_seq (pe_lst (pa_cons pe_non (pa_cons pe_int (pa_cons (pe_tup pa_nil) (pa_cons (pe_lst (pa_cons pe_str pa_nil)) (pa_cons pe_dnewK (pa_cons pe_bl (pa_cons pe_str pa_nil)))))))) (DC.pe_callG F_Llaw_draw gd (room.mono (by decide)) (by rfl) T.g__law_draw k_Llaw_draw b_Llaw_draw .nil (fun σ => passAt (takes_of rfl rfl rfl rfl) σ) (pa_cons (pv 1) (pa_cons pe_int pa_nil))) (fun _ _ => rfl)) pa_nil)))) (pg_name (i := 8) sc.nd rfl (Or.inl rfl)) (pss_one (ps_if (pt_cmpR (op_neD hu) (DC.pe_callG F_Llaw_read gd (room.mono (by decide)) (by rfl) T.g__law_read k_Llaw_read b_Llaw_read .nil (fun σ => passAt (takes_of rfl rfl rfl rfl) σ) (pa_cons (pv 8) pa_nil)) (DC.pe_callG F_Llaw_parsed gd (room.mono (by decide)) (by rfl) T.g__law_parsed k_Llaw_parsed b_Llaw_parsed .nil (fun σ => passAt (takes_of rfl rfl rfl rfl) σ) (pa_cons (pv 8) pa_nil)) (nomark _)) (pss_one (ps_ret pe_bl)) pss_nil)))
    (pss_one (ps_if (pt_not (pt_val (DC.pe_callG F_Llaw_made_right gd (room.mono (by decide)) (by rfl) T.g__law_made_right k_Llaw_made_right b_Llaw_made_right .nil (fun σ => passAt (takes_of rfl rfl rfl rfl) σ) (pa_cons (pv 1) pa_nil)))) (pss_one (ps_ret pe_bl)) pss_nil))))))))))))
  (pss_one (ps_ret (pe_bl))))), ?_⟩
  try dsimp only [L2.cxOf]
  have cP := T.c_Pool
  have nu := T.no_Pool_unit
  have nm := T.no_Pool_money
  have ns := T.no_Pool_stock
  have nh := T.no_Pool_shares
  obtain ⟨zs, rfl, z1, z2, q⟩ := hc
  refine ws_seq ?_
  refine ws_asgO (by walk_at "px") (by show 1 < 9; decide) ?_
  refine wo_cd repL_nil ?_
  walk_at "go"
  refine ⟨rfl, zs, rfl, z1, z2, rfl, ?_⟩
  show WS _ _ _ _
  refine ws_seq ?_
  refine ws_for (sl := [2]) ?_
  refine wi_rng1 ?_
  walk_at "go"
  refine ⟨by omega, ?_⟩
  refine ⟨fun i ρ => ∃ n' t2 t3 t4 t5 t6 t7 t8, n' ≤ 300 * i ∧ i ≤ 3 ∧ ρ = [some (.sh (.rol (zs.map .int))), some (.ex n'), t2, t3, t4, t5, t6, t7, t8], ⟨0, _, _, _, _, _, _, _, by omega, by omega, rfl⟩, ?_, ?_⟩
  rotate_left
  · rintro ρ2 ⟨n', t2, t3, t4, t5, t6, t7, t8, _, _, rfl⟩
    show WS _ _ _ _
    walk_at "go"
    exact q
  rintro i d ρ2 hd ⟨n', t2, t3, t4, t5, t6, t7, t8, hn, hi3, rfl⟩
  obtain ⟨hi, rfl⟩ := intsD_get hd
  have hi : i < 3 := hi
  have hn : n' ≤ 900 := by omega
  walk_at "go"
  refine ⟨rfl, n', rfl, rfl, by omega, fun m s h m1 m2 s1 s2 h1 h2 => ⟨_, .sh _, ?_⟩⟩
  walk_at "go"
  refine ⟨rfl, n' + 6, rfl, rfl, by omega, fun w n1 gw hn1 => ⟨_, .sh _, ?_⟩⟩
  walk_at "go"
  refine rd_ixL (.lst _) rfl ?_
  show WS _ _ _ _
  refine ws_seq ?_
  refine ws_asg (by walk_at "px") ?_
  refine w_mk repL_nil (c := "Pool") ?_
  walk_at "go"
  refine rd_ixT rfl ?_
  walk_at "go"
  refine rd_ixT rfl ?_
  walk_at "go"
  refine rd_ixT rfl ?_
  walk_at "go"
  have gu := good_iff.mpr gw
  obtain ⟨i1, i2⟩ := init_ok (x := .str w) (a := .int m) (b := .int s) (c := .int h) gu (decide_eq_true ⟨m1, m2⟩) (decide_eq_true ⟨s1, s2⟩) (decide_eq_true ⟨h1, h2⟩)
  refine ⟨rfl, rfl, .str w, .int m, .int s, .int h, _, _, _, _, rfl, rfl, .str _, .int _, .int _, .int _, good_small gw, ?_⟩
  rw [i1, i2]
  refine ⟨rfl, _, frz_pool, ?_⟩
  show WS _ _ _ _
  refine ws_mid (fun ρ => ∃ m' s' n2, nOk m' ∧ nOk s' ∧ 1 ≤ m' ∧ 1 ≤ s' ∧ n2 ≤ n1 + 1 ∧ ρ = [some (.sh (.rol (zs.map .int))), some (.ex n2), some (.sh (.int (0 + (i : Int)))), some (.sh (tri m s h)), some (.sh (.str w)), some (.sh (poolD w m' s' h)), t6, t7, t8]) ?_ ?_
  · walk_at "go"
    refine ⟨"Pool", _, rfl, rfl, rfl, ?_⟩
    walk_at "go"
    refine ⟨rfl, w, m, s, h, rfl, by omega, by omega, _, .sh _, ?_⟩
    walk_at "go"
    by_cases low : s < 2
    · rw [show askD m s = .non from if_pos low]
      refine if_b (fun z => by cases z) (fun _ => ?_)
      rw [if_neg (by decide)]
      refine ws_next ?_
      exact ⟨m, s, n1, ⟨by omega, by omega⟩, ⟨by omega, by omega⟩, m1, s1, by omega, rfl⟩
    rw [show askD m s = .int (-((-m) / (s - 1))) from if_neg low]
    refine if_b (fun _ => ?_) (fun z => by cases z)
    walk_at "go"
    refine ⟨rfl, n1, 2, rfl, rfl, by omega, by omega, by omega, fun r r0 r1 => ⟨_, .sh _, ?_⟩⟩
    walk_at "go"
    refine if_dec (fun _ => ?_) (fun _ => ?_)
    · have as1 : asksL (1 : Int).toNat m s = [-((-m) / (s - 1))] := by
        show asksL 1 m s = _
        unfold asksL
        rw [if_neg low]
        rfl
      obtain ⟨k1, k2⟩ := ask_in m1 (show 2 ≤ s by omega)
      generalize -((-m) / (s - 1)) = ak at k1 k2 as1
      walk_at "go"
      refine w_md (repL_int 1) ?_
      walk_at "go"
      refine ⟨"Pool", _, rfl, rfl, rfl, ?_⟩
      walk_at "go"
      refine ⟨rfl, w, m, s, h, .int 1, _, rfl, gw, by omega, by omega, .int _, fun z => absurd z (by decide), fun c ec _ => ?_⟩
      cases ec
      rw [as1]
      refine ⟨by decide, by show (ak + 0).natAbs < 2 ^ 1000; omega, ?_⟩
      rw [if_neg (by show ¬ ((1 : Nat) : Int) < 1; decide)]
      refine ⟨_, .sh _, ?_⟩
      rw [show [ak].sum = ak + 0 from rfl]
      exact ⟨m + (ak + 0), s - 1, n1 + 1, ⟨by omega, by omega⟩, ⟨by omega, by omega⟩, by omega, by omega, by omega, rfl⟩
    · walk_at "go"
      exact ⟨m, s, n1 + 1, ⟨by omega, by omega⟩, ⟨by omega, by omega⟩, m1, s1, by omega, rfl⟩
  rintro ρ2 ⟨m', s', n2, om, os, m1', s1', hn2, rfl⟩
  have oh : nOk h := ⟨by omega, by omega⟩
  have okp := poolT_ok gw om os oh
  have lu : (sg w).length ≤ 8 := by rw [← sg_len]; exact gw.2.1
  have lm : (sg (Str.ofString (toString m'))).length ≤ 9 := by rw [← sg_len]; exact (okT_num om.1 om.2).1
  have ls : (sg (Str.ofString (toString s'))).length ≤ 9 := by rw [← sg_len]; exact (okT_num os.1 os.2).1
  have lh : (sg (Str.ofString (toString h))).length ≤ 9 := by rw [← sg_len]; exact (okT_num oh.1 oh.2).1
  have spl5 : sg ("pool " : Str) = [112, 111, 111, 108, 32] := by decide +kernel
  walk_at "go"
  refine rd_addS (by simp only [sg_len, sg_app, List.length_append, spl5, sp1, List.length_cons, List.length_nil]; omega) ?_
  walk_at "go"
  refine rd_addS (by simp only [sg_len, sg_app, List.length_append, spl5, sp1, List.length_cons, List.length_nil]; omega) ?_
  walk_at "go"
  refine ⟨_, _, _, rfl, cP, nm, rfl, ?_⟩
  walk_at "go"
  refine rc_str om.log ?_
  refine rd_addS (by simp only [sg_len, sg_app, List.length_append, spl5, sp1, List.length_cons, List.length_nil]; omega) ?_
  show WS _ _ _ _
  walk_at "go"
  refine rd_addS (by simp only [sg_len, sg_app, List.length_append, spl5, sp1, List.length_cons, List.length_nil]; omega) ?_
  walk_at "go"
  refine ⟨_, _, _, rfl, cP, ns, rfl, ?_⟩
  walk_at "go"
  refine rc_str os.log ?_
  refine rd_addS (by simp only [sg_len, sg_app, List.length_append, spl5, sp1, List.length_cons, List.length_nil]; omega) ?_
  walk_at "go"
  refine rd_addS (by simp only [sg_len, sg_app, List.length_append, spl5, sp1, List.length_cons, List.length_nil]; omega) ?_
  walk_at "go"
  refine ⟨_, _, _, rfl, cP, nh, rfl, ?_⟩
  walk_at "go"
  refine rc_str oh.log ?_
  refine rd_addS (by simp only [sg_len, sg_app, List.length_append, spl5, sp1, List.length_cons, List.length_nil]; omega) ?_
  rw [show "pool " ++ w ++ " " ++ Str.ofString (toString m') ++ " " ++ Str.ofString (toString s') ++ " " ++ Str.ofString (toString h) = poolT w m' s' h from rfl]
  show WS _ _ _ _
  walk_at "go"
  refine rc_strOwn (c := "Pool") (C := c_Pool_str) ?_
  refine ⟨w, m', s', h, rfl, gw, om, os, oh, _, rfl, ?_⟩
  walk_at "go"
  refine rd_neS okp.str okp.str ?_
  rw [decide_eq_true rfl]
  refine ⟨_, rfl, ?_⟩
  rw [if_neg (by decide)]
  walk_at "go"
  refine w_isC ?_
  walk_at "go"
  refine ⟨rfl, ?_⟩
  walk_at "go"
  have rd := read_some (v := .str (poolT w m' s' h)) (pool_words gw m1' om.2 s1' os.2 h1 oh.2)
  refine ⟨rfl, .str (poolT w m' s' h), _, rfl, .str _, okp.up (by decide), ?_⟩
  rw [rd]
  refine ⟨_, frz_pool, ?_⟩
  walk_at "go"
  refine rd_own (neg := true) (C := c_Pool_eq) (.inl ⟨_, rfl⟩) ?_
  refine ⟨w, m', s', h, _, rfl, .inl ⟨w, m', s', h, rfl, gw, gw, _, rfl, ?_⟩⟩
  rw [eqvP_self]
  refine ⟨_, rfl, ?_⟩
  rw [if_neg (by decide)]
  refine ws_next ?_
  show WS _ _ _ _
  refine ws_seq ?_
  refine ws_for (sl := [7]) ?_
  refine wi_rng1 ?_
  walk_at "go"
  refine ⟨rfl, n2, 3, rfl, rfl, by omega, by omega, by omega, fun r r0 r1 => ⟨_, .sh _, ?_⟩⟩
  walk_at "go"
  refine ⟨by omega, ?_⟩
  refine ⟨fun j ρ => ∃ L y n3 t7, okT L y ∧ L + 20 ≤ 63 * 2 ^ j ∧ j ≤ 3 ∧ n3 ≤ n2 + 1 + 10 * j ∧ ρ = [some (.sh (.rol (zs.map .int))), some (.ex n3), some (.sh (.int (0 + (i : Int)))), some (.sh (tri m s h)), some (.sh (.str w)), some (.sh (poolD w m' s' h)), some (.sh (.str y)), t7, t8], ⟨43, _, _, _, okp, by decide, by omega, by omega, rfl⟩, ?_, ?_⟩
  · rintro j d ρ2 hd ⟨L, y, n3, t7', oy, l63, hj, hn3, rfl⟩
    obtain ⟨hj, rfl⟩ := intsD_get hd
    have hj : j < 3 := by omega
    have l2 : 63 * 2 ^ (j + 1) = 2 * (63 * 2 ^ j) := by rw [Nat.pow_succ]; omega
    have l3 : 63 * 2 ^ j ≤ 63 * 4 := by
      obtain rfl | rfl | rfl : j = 0 ∨ j = 1 ∨ j = 2 := by omega
      all_goals decide
    refine wg_name (by walk_at "px") (by simp) ?_
    walk_at "go"
    refine ⟨rfl, n3, L, y, rfl, rfl, oy, by omega, by omega, fun z n4 oz hn4 => ⟨_, .sh _, ?_⟩⟩
    exact ⟨2 * L + 20, z, n4, _, oz, by omega, by omega, by omega, rfl⟩
  rintro ρ2 ⟨L, y, n3, t7', oy, l63, hj, hn3, rfl⟩
  rw [intsD_len] at l63 hj hn3
  have oy : okT 20000 y := oy.up (by
    have : (1 + r - 0).toNat ≤ 3 := by omega
    have z : 2 ^ (1 + r).toNat ≤ 2 ^ 3 := Nat.pow_le_pow_right (by decide) (by omega)
    omega)
  have hn3 : n3 ≤ 2000 := by omega
  clear l63 hj
  show WS _ _ _ _
  refine ws_seq ?_
  refine ws_for (sl := [8]) ?_
  refine wi_list ?_
  refine w_lst ?_
  refine wa_cons ?_
  walk_at "go"
  refine ⟨rfl, n3, 7, rfl, rfl, by omega, by omega, by omega, fun o o0 o1 => ⟨_, .sh _, ?_⟩⟩
  obtain ⟨v7, hv7, ⟨tv7, ty7⟩, ok7⟩ := odd7 o0 o1
  refine rd_ixL (.lst _) hv7 ?_
  refine wa_nil ?_
  refine ⟨by show 2 ≤ 100000; decide, _, rfl, ?_⟩
  refine ⟨fun j ρ => ∃ t8, ρ = [some (.sh (.rol (zs.map .int))), some (.ex (n3 + 1)), some (.sh (.int (0 + (i : Int)))), some (.sh (tri m s h)), some (.sh (.str w)), some (.sh (poolD w m' s' h)), some (.sh (.str y)), t7', t8], ⟨_, rfl⟩, ?_, ?_⟩
  · rintro j d ρ2 hd ⟨t8', rfl⟩
    have hd2 : ∃ t, TyB d t ∧ okV d := by
      rcases j with _ | _ | j
      · rw [← Option.some.inj hd]
        exact ⟨_, .str _, oy⟩
      · rw [← Option.some.inj hd]
        exact ⟨_, ty7, ok7⟩
      · cases hd
    obtain ⟨t, ty, od⟩ := hd2
    obtain ⟨p, e1, e2, e3⟩ := parse_py d
    walk_at "go"
    refine ⟨rfl, d, t, rfl, ty, od, _, .sh _, ?_⟩
    walk_at "go"
    refine ⟨rfl, d, t, rfl, ty, od, _, .sh _, ?_⟩
    refine rd_neD e1 e1 e2 e2 ?_
    rw [e3]
    refine ⟨_, rfl, ?_⟩
    rw [if_neg (by decide)]
    refine ws_next ?_
    exact ⟨_, rfl⟩
  rintro ρ2 ⟨t8', rfl⟩
  show WS _ _ _ _
  walk_at "go"
  refine ⟨rfl, n3 + 1, rfl, rfl, by omega, fun n5 hn5 => ⟨_, .sh _, ?_⟩⟩
  walk_at "go"
  rw [if_neg (by decide)]
  refine ws_next ?_
  exact ⟨n5, _, _, _, _, _, _, _, by omega, by omega, rfl⟩
end K24

open PySem PySem.Calls PySem.W PyProof.Rows
theorem PySem.Challenge.cw_evenmarket_k24_pools_by_text_holds : PySem.Challenge.rw_evenmarket_k24_pools_by_text.Holds := by
  w_on; o_law
  refine HandSHeadRun.head_any (r := OpenLaw.row PySem.Challenge.rw_evenmarket_k24_pools_by_text) (q := view (OpenLaw.row PySem.Challenge.rw_evenmarket_k24_pools_by_text).prog [38]) (H := K24.hk) (ob := K24.ob) (M := 60000) (loose := K24.loose) (d := HandSHeadRun.topDef (OpenLaw.row PySem.Challenge.rw_evenmarket_k24_pools_by_text).prog 38) (kwd := []) K24.ob_eq
    (by kernel_rfl) (fun s => by kernel_rfl) K24.run (by kernel_rfl) (by kernel_rfl) (by kernel_rfl) (by rfl) (by first | assumption | decide +kernel) (by decide +kernel) ⟨rfl, rfl, rfl, rfl, rfl, by decide +kernel⟩ ?hw ?hc
  case hw => w_witness2
  case hc =>
    refine DL.walk_DL (l := PySem.Challenge.rw_evenmarket_k24_pools_by_text) (n := 63) (lv := 9) (x := "script") (C := K24.c_Flaw) rfl (by decide) (by kernel_rfl) ⟨rfl, by decide, by decide⟩ ?F (fun ns hn hb => ⟨ns, rfl, hn, hb, rfl⟩)
    intro w mg fa h Y G hmg0
    obtain ⟨K, KX, y⟩ := Y
    have there : mg ("law" : PySem.Str) = some (.ref fa) := by
      have e : (HandSHeadRun.topDef (OpenLaw.row PySem.Challenge.rw_evenmarket_k24_pools_by_text).prog 38).name = ("law" : PySem.Str) := by kernel_rfl
      rw [← e]
      exact hmg0
    have T := K24.tx_of (w := w) KX G y
    have e := there.symm.trans T.g_law
    cases e
    obtain ⟨fd, F⟩ := T.d_Flaw
    exact ⟨K, fd, KX, fun s u => F.bindsA (ps := ["script"]) (fun _ _ _ _ _ _ us hl => match us, hl with | [_], _ => rfl) s [u] rfl, fun bs _ _ => (K24.ok_Flaw T F).1⟩


