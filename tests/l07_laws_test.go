package tests

import (
	"fmt"
	"math/rand/v2"
	"slices"
	"testing"

	"loop.example/g03221/impl"
)

// descentFamilies has the house, and n families by chance of any size.
func descentFamilies(t *testing.T, r *rand.Rand, n int) []impl.Family {
	t.Helper()
	list := append(someFamilies(t, r, n), without(t, "cain ada"), chain(t))
	for range n {
		list = append(list, chanceFamily(r), kinFamily(r, 1+r.IntN(impl.MaxPeople)))
	}
	return list
}

// checkDivided: each person is in one group, and groups and persons are in order.
func checkDivided(t *testing.T, f impl.Family, groups [][]int, label string) {
	t.Helper()
	for i, group := range groups {
		if len(group) == 0 || i > 0 && groups[i-1][0] >= group[0] || !slices.IsSorted(group) {
			t.Fatalf("%s: %v of %v", label, groups, f)
		}
	}
	all := slices.Concat(groups...)
	expect(t, len(all) == len(f.People) && wantPermutation(all), true, "%s: %v of %v", label, groups, f)
}

// groupOf returns the index of the group of a person.
func groupOf(groups [][]int, p int) int {
	return slices.IndexFunc(groups, func(group []int) bool { return slices.Contains(group, p) })
}

// TestP7LinesDivide: each person is in one line, which has one founder, who has no parent of the sex.
func TestP7LinesDivide(t *testing.T) {
	r := newChance(136)
	for _, f := range descentFamilies(t, r, 60) {
		for _, sex := range []int{impl.Man, impl.Woman} {
			lines := impl.LinesOf(f, sex)
			checkDivided(t, f, lines, "LinesOf")
			for p := range f.People {
				line := lines[groupOf(lines, p)]
				founder, ok := impl.FounderOf(f, p, sex)
				expect(t, ok && founder == line[0], true, "FounderOf %d for %d begins the line %v of %v", p, sex, line, f)
				expect(t, wantLineParent(f, founder, sex), -1, "the parent of the founder %d of %v", founder, f)
				if parent := wantLineParent(f, p, sex); parent != -1 {
					expect(t, impl.SameLine(f, p, parent, sex), true, "SameLine of %d and the parent %d of %v", p, parent, f)
				}
				for q := range f.People {
					expect(t, impl.SameLine(f, p, q, sex), slices.Contains(line, q), "SameLine %d %d for %d of %v", p, q, sex, f)
				}
			}
		}
	}
}

// TestP7LinesAreReached: two persons are of one line if the same one is reached from both by steps to parents of the sex.
func TestP7LinesAreReached(t *testing.T) {
	r := newChance(137)
	for _, f := range descentFamilies(t, r, 30) {
		for sex, kind := range map[int]int{impl.Man: impl.StepFather, impl.Woman: impl.StepMother} {
			up := impl.JoinRelations(impl.ClosureRelation(impl.StepRelation(f, impl.Step{Kind: kind})), impl.IdentityRelation(len(f.People)))
			common := impl.ComposeRelations(up, impl.ConverseRelation(up))
			for a := range f.People {
				founder, _ := impl.FounderOf(f, a, sex)
				expect(t, impl.IsRelated(up, a, founder), true, "the founder of %d for %d is reached, of %v", a, sex, f)
				for b := range f.People {
					expect(t, impl.SameLine(f, a, b, sex), impl.IsRelated(common, a, b), "SameLine %d %d for %d of %v", a, b, sex, f)
				}
			}
		}
	}
}

func TestP7DoubleLinesDivideLines(t *testing.T) {
	r := newChance(138)
	for _, f := range descentFamilies(t, r, 60) {
		groups := impl.DoubleLines(f)
		checkDivided(t, f, groups, "DoubleLines")
		for a := range f.People {
			for b := range f.People {
				want := impl.SameLine(f, a, b, impl.Man) && impl.SameLine(f, a, b, impl.Woman)
				expect(t, groupOf(groups, a) == groupOf(groups, b), want, "DoubleLines of %d and %d of %v", a, b, f)
			}
		}
		for p := range f.People {
			for _, q := range impl.FullSiblings(f, p) {
				expect(t, groupOf(groups, p), groupOf(groups, q), "DoubleLines of the siblings %d and %d of %v", p, q, f)
			}
		}
	}
}

// foundersOf returns the founder of each person.
func foundersOf(f impl.Family, sex int) []int {
	list := []int{}
	for p := range f.People {
		founder, _ := impl.FounderOf(f, p, sex)
		list = append(list, founder)
	}
	return list
}

// TestP7MoietiesAgree: moieties are made of lines, the two of a union are of different ones, and the other way round is as good.
func TestP7MoietiesAgree(t *testing.T) {
	r := newChance(139)
	count := map[bool]int{}
	for _, f := range descentFamilies(t, r, 100) {
		for _, sex := range []int{impl.Man, impl.Woman} {
			list, ok := impl.MoietiesOf(f, sex)
			count[ok]++
			if !ok {
				continue
			}
			expect(t, len(list), len(f.People), "MoietiesOf %v", f)
			swapped := []int{}
			for p, x := range list {
				expect(t, x == 0 || x == 1, true, "MoietiesOf %v: %d", f, x)
				expect(t, x == 0 || p > 0, true, "MoietiesOf %v: the first one", f)
				swapped = append(swapped, 1-x)
				founder, _ := impl.FounderOf(f, p, sex)
				expect(t, x, list[founder], "the moieties of %d and of the founder, of %v", p, f)
			}
			both := impl.IsExogamous(f, list) && impl.IsExogamous(f, swapped) && impl.IsExogamous(f, foundersOf(f, sex))
			expect(t, both, true, "IsExogamous: moieties %v and lines of %v", list, f)
		}
	}
	if count[true] < 50 || count[false] < 50 {
		t.Errorf("with moieties or without: %v", count)
	}
}

// TestP7MoietiesNeedExogamousLines: a union within a line leaves no moieties.
func TestP7MoietiesNeedExogamousLines(t *testing.T) {
	r := newChance(140)
	within := 0
	for _, f := range descentFamilies(t, r, 100) {
		for _, sex := range []int{impl.Man, impl.Woman} {
			if !impl.IsExogamous(f, foundersOf(f, sex)) {
				within++
				list, ok := impl.MoietiesOf(f, sex)
				notNumber(t, list, ok, "MoietiesOf %v for %d", f, sex)
			}
		}
	}
	if within < 20 {
		t.Errorf("%d families have a union within a line", within)
	}
}

// TestP7MoietiesAreClasses: if the parents of each person are known and united, moieties are classes of a system of two.
func TestP7MoietiesAreClasses(t *testing.T) {
	r := newChance(141)
	count := map[bool]int{}
	bySex := map[int]impl.Classes{impl.Man: system(t, "10 01"), impl.Woman: system(t, "10 10")}
	for i := range 400 {
		f := kinFamily(r, 1+r.IntN(14))
		if i%2 == 0 {
			f, _ = classedFamily(r, bySex[1+i/2%2], r.IntN(30))
		}
		for k, p := range f.People {
			if p.Father == -1 || p.Mother == -1 {
				f.People[k].Father, f.People[k].Mother = -1, -1
			}
		}
		for sex, c := range bySex {
			list, ok := impl.MoietiesOf(f, sex)
			classes, hasClasses := impl.AssignClasses(f, c, allOpen(len(f.People)))
			count[ok]++
			expect(t, ok, hasClasses, "MoietiesOf and AssignClasses of %v for %d succeed", f, sex)
			expect(t, list, classes, "MoietiesOf and AssignClasses of %v for %d", f, sex)
		}
	}
	if count[true] < 100 || count[false] < 100 {
		t.Errorf("with moieties or without: %v", count)
	}
}

// TestP7AssignedClassesAgree: assigned classes have no errors, keep what is given, and none come before them.
func TestP7AssignedClassesAgree(t *testing.T) {
	r := newChance(142)
	for range 300 {
		c := chanceSystem(r, 1+r.IntN(8))
		f, classes := classedFamily(r, c, r.IntN(impl.MaxPeople+1))
		given := opened(r, classes)
		list, ok := impl.AssignClasses(f, c, given)
		expect(t, ok && agrees(list, given) && slices.Compare(list, classes) <= 0, true, "AssignClasses %s %v of %v: %v", systemText(c), given, f, list)
		wrong, ok := impl.ClassErrors(f, c, list)
		expect(t, ok && len(wrong) == 0, true, "ClassErrors %s %v of %v: %v", systemText(c), list, f, wrong)
		again, ok := impl.AssignClasses(f, c, list)
		expect(t, ok && slices.Equal(again, list), true, "AssignClasses %s %v of %v: %v", systemText(c), list, f, again)
		checkNoneBefore(t, r, f, c, given, list)
	}
}

// checkNoneBefore: with any lesser class for a person, and the classes of those before, there is no list.
func checkNoneBefore(t *testing.T, r *rand.Rand, f impl.Family, c impl.Classes, given []int, list []int) {
	t.Helper()
	for i, x := range list {
		if given[i] != -1 || x == 0 {
			continue
		}
		lesser := slices.Concat(list[:i], []int{r.IntN(x)}, given[i+1:])
		other, ok := impl.AssignClasses(f, c, lesser)
		notNumber(t, other, ok, "AssignClasses %s %v of %v", systemText(c), lesser, f)
	}
}

// TestP7ErrorsAreOfChildrenAndWives: there are no errors if the classes follow by each step to a child or a wife.
func TestP7ErrorsAreOfChildrenAndWives(t *testing.T) {
	r := newChance(143)
	steps := []string{"m:S", "m:D", "w:S", "w:D", "m:W"}
	count := map[bool]int{}
	for range 300 {
		c := chanceSystem(r, 1+r.IntN(8))
		f, given := classedFamily(r, c, 1+r.IntN(20))
		for range r.IntN(4) {
			given[r.IntN(len(given))] = r.IntN(len(c.Wife))
		}
		var wrong []int
		for _, text := range steps {
			k := kinType(t, text)
			p := classesBy(t, c, k)
			for _, pair := range impl.PairsOf(impl.RelationFor(f, k)) {
				if given[pair.B] != p[given[pair.A]] {
					wrong = append(wrong, pair.B)
				}
			}
		}
		slices.Sort(wrong)
		got, ok := impl.ClassErrors(f, c, given)
		count[len(got) > 0]++
		expect(t, got, slices.Compact(wrong), "ClassErrors %s %v of %v", systemText(c), given, f)
		expect(t, ok, true, "ClassErrors %s %v of %v succeeds", systemText(c), given, f)
	}
	if count[true] < 50 || count[false] < 50 {
		t.Errorf("with errors or without: %v", count)
	}
}

// TestP7ClassesFollowFromTypes: in assigned classes, a relative is of the class that the kin type leads to.
func TestP7ClassesFollowFromTypes(t *testing.T) {
	r := newChance(144)
	types := slices.Concat(impl.TypesFrom(impl.Man, 2), impl.TypesFrom(impl.Woman, 2))
	for range 40 {
		k, _ := joinable(r)
		types = append(types, k)
	}
	reached := 0
	for _, c := range []impl.Classes{impl.SampleClasses("kariera"), impl.SampleClasses("circle"), impl.SampleClasses("moieties"), system(t, "120 102"), system(t, "0213 3021"), chanceSystem(r, 5), chanceSystem(r, 8)} {
		f, classes := classedFamily(r, c, 30)
		list, ok := impl.AssignClasses(f, c, opened(r, classes))
		if !ok {
			t.Fatalf("AssignClasses %s of %v fails", systemText(c), f)
		}
		for _, k := range types {
			p := classesBy(t, c, k)
			for _, pair := range impl.PairsOf(impl.RelationFor(f, k)) {
				reached++
				expect(t, list[pair.B], p[list[pair.A]], "the class of %d, by %v from %d, in %s", pair.B, k, pair.A, fmt.Sprint(f, list))
			}
		}
	}
	if reached < 5000 {
		t.Errorf("%d relatives are reached", reached)
	}
}
