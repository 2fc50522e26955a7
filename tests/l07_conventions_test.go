package tests

import (
	"fmt"
	"math/rand/v2"
	"slices"
	"testing"

	"loop.example/g03221/impl"
)

// checkNoDescent: there are zero values for a family that is not valid.
func checkNoDescent(t *testing.T, f impl.Family, label string) {
	t.Helper()
	n := len(f.People)
	for _, sex := range []int{impl.Man, impl.Woman} {
		checkNoLine(t, f, sex, label)
	}
	expect(t, len(impl.DoubleLines(f)), 0, "DoubleLines: %s", label)
	for _, groups := range [][]int{nil, make([]int, n), newChance(148).Perm(n), newChance(149).Perm(n + 1)} {
		expect(t, impl.IsExogamous(f, groups), false, "IsExogamous: %s", label)
	}
	for _, c := range []impl.Classes{system(t, "0 0"), impl.SampleClasses("moieties"), {}} {
		for _, given := range [][]int{nil, make([]int, n), allOpen(n)} {
			list, ok := impl.ClassErrors(f, c, given)
			notNumber(t, list, ok, "ClassErrors: %s", label)
			list, ok = impl.AssignClasses(f, c, given)
			notNumber(t, list, ok, "AssignClasses: %s", label)
		}
	}
}

// checkNoLine: there are zero values for a sex or a family that is not valid.
func checkNoLine(t *testing.T, f impl.Family, sex int, label string) {
	t.Helper()
	expect(t, len(impl.LinesOf(f, sex)), 0, "LinesOf %d: %s", sex, label)
	list, ok := impl.MoietiesOf(f, sex)
	notNumber(t, list, ok, "MoietiesOf %d: %s", sex, label)
	for p := range f.People {
		founder, ok := impl.FounderOf(f, p, sex)
		expect(t, founder == 0 && !ok, true, "FounderOf %d %d: %s", p, sex, label)
		expect(t, impl.SameLine(f, p, p, sex) || impl.SameLine(f, p, 0, sex), false, "SameLine %d %d: %s", p, sex, label)
	}
}

func TestP13DescentOfFamiliesThatAreNotValid(t *testing.T) {
	for i, f := range notFamilies(t) {
		checkNoDescent(t, f, fmt.Sprint("after change ", i))
	}
}

func TestP13DescentForNoSex(t *testing.T) {
	for _, f := range []impl.Family{parse(t, house), without(t, "cain ada"), parse(t, couple), {}} {
		for _, sex := range notSexes() {
			checkNoLine(t, f, sex, "a valid family")
		}
	}
}

func TestP13DescentOfNoSuchPerson(t *testing.T) {
	for _, f := range []impl.Family{parse(t, house), {}} {
		for _, p := range []int{-1, -2, len(f.People), 40, lowest, highest} {
			for _, sex := range []int{impl.Man, impl.Woman} {
				founder, ok := impl.FounderOf(f, p, sex)
				expect(t, founder == 0 && !ok, true, "FounderOf %d %d", p, sex)
				same := impl.SameLine(f, p, 0, sex) || impl.SameLine(f, 0, p, sex) || impl.SameLine(f, p, p, sex)
				expect(t, same, false, "SameLine %d %d", p, sex)
			}
		}
	}
}

func TestP13DescentBySystemsThatAreNotValid(t *testing.T) {
	for label, c := range notSystems() {
		for _, f := range []impl.Family{parse(t, house), parse(t, couple), {}} {
			for _, given := range [][]int{make([]int, len(f.People)), allOpen(len(f.People))} {
				list, ok := impl.ClassErrors(f, c, given)
				notNumber(t, list, ok, "ClassErrors: %s", label)
				list, ok = impl.AssignClasses(f, c, given)
				notNumber(t, list, ok, "AssignClasses: %s", label)
			}
		}
	}
}

// TestP13ClassesThatAreNotGiven: a list that is too short or too long, and numbers that are no classes.
func TestP13ClassesThatAreNotGiven(t *testing.T) {
	f := parse(t, couple)
	for _, c := range []impl.Classes{system(t, "0 0"), impl.SampleClasses("kariera"), system(t, "12345670 01234567")} {
		n := len(c.Wife)
		good, _ := impl.AssignClasses(f, c, allOpen(3))
		for _, given := range [][]int{nil, good[:2], append(slices.Clone(good), 0), append(slices.Clone(good), -1), make([]int, 40), make([]int, 100000)} {
			list, ok := impl.ClassErrors(f, c, given)
			notNumber(t, list, ok, "ClassErrors %s, %d classes", systemText(c), len(given))
			list, ok = impl.AssignClasses(f, c, given)
			notNumber(t, list, ok, "AssignClasses %s, %d classes", systemText(c), len(given))
		}
		for i := range good {
			for _, x := range []int{lowest, -9, -2, -1, n, n + 1, 64, highest} {
				given := slices.Clone(good)
				given[i] = x
				list, ok := impl.ClassErrors(f, c, given)
				notNumber(t, list, ok, "ClassErrors %s %v", systemText(c), given)
				list, ok = impl.AssignClasses(f, c, given)
				if x == -1 {
					expect(t, ok && slices.Equal(list, good), true, "AssignClasses %s %v is %v", systemText(c), given, list)
					continue
				}
				notNumber(t, list, ok, "AssignClasses %s %v", systemText(c), given)
			}
		}
	}
	list, ok := impl.AssignClasses(impl.Family{}, system(t, "0 0"), []int{-1})
	notNumber(t, list, ok, "AssignClasses of nobody")
	list, ok = impl.ClassErrors(impl.Family{}, system(t, "0 0"), []int{0})
	notNumber(t, list, ok, "ClassErrors of nobody")
}

// askDescent returns the lists that come out of all functions, and what else comes out.
func askDescent(f impl.Family, c impl.Classes, given []int, open []int) ([][]int, string) {
	lists := slices.Concat(impl.LinesOf(f, impl.Man), impl.LinesOf(f, impl.Woman), impl.DoubleLines(f))
	for _, sex := range []int{impl.Man, impl.Woman} {
		list, _ := impl.MoietiesOf(f, sex)
		lists = append(lists, list)
	}
	for _, numbers := range [][]int{given, open} {
		wrong, _ := impl.ClassErrors(f, c, numbers)
		list, _ := impl.AssignClasses(f, c, numbers)
		lists = append(lists, wrong, list)
	}
	return lists, descentOf(f, c, given, open)
}

func TestP13DescentArgumentsAreKept(t *testing.T) {
	r := newChance(150)
	check := func(f impl.Family, c impl.Classes, given []int, label string) {
		t.Helper()
		f, c, given = roomyFamily(f), roomySystem(c), roomy(given, 77)
		open := roomy(opened(r, given), 77)
		all := func() string {
			return fmt.Sprint(f.People[:cap(f.People)], f.Unions[:cap(f.Unions)], systemWithRoom(c), given[:cap(given)], open[:cap(open)])
		}
		before := all()
		askDescent(f, c, given, open)
		expect(t, all() == before, true, "arguments and the room behind them: %s", label)
	}
	for range 100 {
		c := chanceSystem(r, 1+r.IntN(8))
		f, classes := classedFamily(r, c, r.IntN(30))
		check(f, c, classes, systemText(c))
		check(kinFamily(r, len(f.People)), c, classes, systemText(c))
	}
	for i, f := range notFamilies(t) {
		check(f, system(t, "10 01"), make([]int, len(f.People)), fmt.Sprint("after change ", i))
	}
}

func TestP13DescentResultsAreNew(t *testing.T) {
	r := newChance(151)
	for range 100 {
		c := chanceSystem(r, 1+r.IntN(8))
		f, classes := classedFamily(r, c, 1+r.IntN(30))
		open := opened(r, classes)
		before := fmt.Sprint(f, c, classes, open)
		lists, answers := askDescent(f, c, classes, open)
		want := fmt.Sprint(lists)
		expect(t, writeLists(lists), true, "results that share no memory, for %s", before)
		for _, outer := range [][][]int{impl.LinesOf(f, impl.Man), impl.LinesOf(f, impl.Woman), impl.DoubleLines(f)} {
			clear(outer[:cap(outer)])
		}
		expect(t, fmt.Sprint(f, c, classes, open), before, "the arguments after the results were changed")
		again, answersAgain := askDescent(f, c, classes, open)
		expect(t, fmt.Sprint(again), want, "the results after others were changed")
		expect(t, answersAgain, answers, "the answers after others were changed")
	}
}

func TestP13DescentIsTheSameEachTime(t *testing.T) {
	r := newChance(152)
	for range 40 {
		c := chanceSystem(r, 1+r.IntN(8))
		f, classes := classedFamily(r, c, r.IntN(30))
		open := opened(r, classes)
		lists, answers := askDescent(f, c, classes, open)
		for range 3 {
			again, answersAgain := askDescent(roomyFamily(f), roomySystem(c), roomy(classes, 77), roomy(open, 77))
			expect(t, again, lists, "lists")
			expect(t, answersAgain, answers, "answers")
		}
	}
}

// junkFamily is nearly a family, or not at all.
func junkFamily(r *rand.Rand) impl.Family {
	f := kinFamily(r, 1+r.IntN(8))
	numbers := []int{lowest, -2, -1, 0, 1, 2, 7, 39, 40, 9999, 10000, highest}
	for range r.IntN(3) {
		i, x := r.IntN(len(f.People)), numbers[r.IntN(len(numbers))]
		p := &f.People[i]
		*[]*int{&p.Sex, &p.Father, &p.Mother, &p.Born, &p.Died}[r.IntN(5)] = x
		if len(f.Unions) > 0 {
			u := &f.Unions[r.IntN(len(f.Unions))]
			*[]*int{&u.Man, &u.Woman, &u.From, &u.To, &p.Father, &p.Mother}[r.IntN(6)] = numbers[r.IntN(len(numbers))]
		}
	}
	return f
}

// TestP13DescentNoPanic gives functions families, systems and numbers that are far from valid.
func TestP13DescentNoPanic(t *testing.T) {
	r := newChance(153)
	count := map[bool]int{}
	for range 2000 {
		f, c := junkFamily(r), junkSystem(r)
		given := junkList(r, len(f.People))
		if r.IntN(2) == 0 {
			given = numbersBelow(r, len(f.People), 1+len(c.Wife))
		}
		valid := wantFamily(f)
		sex, p, q := r.IntN(4), r.IntN(len(f.People)+2)-1, r.IntN(len(f.People)+2)-1
		known := valid && (sex == 1 || sex == 2) && p >= 0 && p < len(f.People)
		_, ok := impl.FounderOf(f, p, sex)
		expect(t, ok, known, "FounderOf %v %d %d", f, p, sex)
		expect(t, impl.SameLine(f, p, p, sex), known, "SameLine %v %d %d", f, p, sex)
		impl.SameLine(f, p, q, sex)
		impl.MoietiesOf(f, sex)
		expect(t, len(impl.LinesOf(f, sex)) > 0, valid && (sex == 1 || sex == 2), "LinesOf %v %d", f, sex)
		expect(t, len(impl.DoubleLines(f)) > 0, valid, "DoubleLines %v", f)
		expect(t, impl.IsExogamous(f, given), wantExogamous(f, given), "IsExogamous %v %v", f, given)
		all := valid && wantClasses(c) && len(given) == len(f.People) && !slices.ContainsFunc(given, func(x int) bool { return x < 0 || x >= len(c.Wife) })
		count[all]++
		wrong, ok := impl.ClassErrors(f, c, given)
		expect(t, ok, all, "ClassErrors %v %v %v", f, c, given)
		_, assigned := impl.AssignClasses(f, c, given)
		expect(t, assigned && !all, slices.Contains(given, -1) && assigned, "AssignClasses %v %v %v", f, c, given)
		expect(t, !all || assigned == (len(wrong) == 0), true, "AssignClasses %v %v %v", f, c, given)
	}
	if count[true] < 100 || count[false] < 300 {
		t.Errorf("valid or not: %v", count)
	}
}
