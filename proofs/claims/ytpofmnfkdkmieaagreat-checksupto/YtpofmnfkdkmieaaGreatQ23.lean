/- What is proved here: the statement Forms gives true for every -/
import Derived.Test.YtpofmnfkdkmieaaGreatQ22
set_option linter.unusedVariables false
set_option linter.unusedSimpArgs false
namespace Go.Proofs.YtpofmnfkdkmieaaGreat
section
open Go Go.RowKit At E
def bk0:Bk:=⟨W0,W0,W0,W0,W0,W0,W0,[],[],[],[],[],[],[]⟩
theorem Mu (e:Nat) (mk:Nat→List Value) (w:World):(Wl e mk W0 []).A w:=⟨World.ownsRow_nil w 0 e 1,fun i u hi=>by simp at hi,fun x hx=>by simp [Y0,W0,Value.ownBlock] at hx⟩
theorem bk0_S:(S8 bk0).S=[]:=rfl
theorem bk0_A (w:World):(S8 bk0).A w :=
 and0 (and0 (Mu _ _ w) (and0 (Mu _ _ w) (and0 (Mu _ _ w) (and0 (Mu _ _ w) (and0 (Mu _ _ w) (Mu _ _ w) rfl) rfl) rfl) rfl) rfl) (Mu _ _ w) rfl
theorem bk0_in (R:Asr):R.Imp ((S8 bk0).and R):=⟨fun x hx=>by simpa [Asr.and,bk0_S] using hx,fun w hw=>and0 (bk0_A w) hw bk0_S⟩
theorem bk0_ok:BkOk bk0 0:=⟨⟨rfl,Nat.le_refl _⟩,⟨rfl,Nat.le_refl _⟩,⟨rfl,Nat.le_refl _⟩,⟨rfl,Nat.le_refl _⟩,⟨rfl,Nat.le_refl _⟩,⟨rfl,Nat.le_refl _⟩,⟨rfl,Nat.le_refl _⟩⟩
end
end Go.Proofs.YtpofmnfkdkmieaaGreat
