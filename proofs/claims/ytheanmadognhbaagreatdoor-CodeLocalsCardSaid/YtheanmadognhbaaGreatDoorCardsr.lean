import Derived.Test.YtheanmadognhbaaGreatDoorRows
import GoSem.ClaimSeven
namespace Go.Proofs.YtheanmadognhbaaGreatDoor
namespace Rows
def codeTextsCard:Claim7:={stood:={row:=codeTextsRow,standIns:=[],harness:=(true,"15efa5c0b783041a866d390ad58605ebe9e7bd5fb484820fb9a3bda929985d92"),looks:=true },kinds:=[],alts:=[],laidByText:=true,laidKinds:=[.data,.data,.data],laidTests:=true,laidLooks:=.later }
def CodeTextsCardSaid:Prop:=Claim7.holds Tryz.pinned (.plain (OpenSpec.ofChange codeTextsSpec)) codeTextsCard
def codeNamesCard:Claim7:={stood:={row:=codeNamesRow,standIns:=[],harness:=(true,"15efa5c0b783041a866d390ad58605ebe9e7bd5fb484820fb9a3bda929985d92"),looks:=true },kinds:=[],alts:=[],laidByText:=true,laidKinds:=[.data,.data,.data],laidTests:=true,laidLooks:=.later }
def CodeNamesCardSaid:Prop:=Claim7.holds Tryz.pinned (.plain (OpenSpec.ofChange codeNamesSpec)) codeNamesCard
def codeLocalsCard:Claim7:={stood:={row:=codeLocalsRow,standIns:=[],harness:=(true,"15efa5c0b783041a866d390ad58605ebe9e7bd5fb484820fb9a3bda929985d92"),looks:=true },kinds:=[],alts:=[],laidByText:=true,laidKinds:=[.data,.data,.data],laidTests:=true,laidLooks:=.later }
def CodeLocalsCardSaid:Prop:=Claim7.holds Tryz.pinned (.plain (OpenSpec.ofChange codeLocalsSpec)) codeLocalsCard
end Rows
end Go.Proofs.YtheanmadognhbaaGreatDoor
