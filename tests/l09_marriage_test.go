package tests

import (
	"fmt"
	"slices"
	"testing"

	"loop.example/g03221/impl"
)

// inlaws is a family with sisters of wives and brothers of husbands.
const inlaws = "man jacob - - 0 -\n" +
	"man laban - - 0 -\n" +
	"woman lea laban - 20 -\n" +
	"woman rahel laban - 22 -\n" +
	"man joseph jacob rahel 61 -\n" +
	"woman dina jacob lea 50 -\n" +
	"man esau - - 1 -\n" +
	"man edom esau - 30 -\n" +
	"woman judith - - 10 -\n" +
	"union jacob lea 40 50\n" +
	"union jacob rahel 60 -\n" +
	"union esau judith 30 35\n"

// The persons of inlaws.
const (
	jacob = iota
	laban
	lea
	rahel
	joseph
	dina
	esau
	edom
	judith
)

func TestP13BarConstants(t *testing.T) {
	got := []int{
		impl.BarSex, impl.BarLife, impl.BarAge, impl.BarWives, impl.BarHusbands, impl.BarLineal,
		impl.BarDegree, impl.BarCanon, impl.BarPatriline, impl.BarMatriline, impl.BarAffinity, impl.BarUnion,
	}
	expect(t, got, []int{1, 2, 3, 4, 5, 6, 7, 8, 9, 10, 11, 12}, "the constants")
	const wives, union = impl.BarWives << 62 >> 62, impl.BarUnion
	expect(t, fmt.Sprintf("%T %T", wives, union), "int int", "the types of constants")
}

// A wedding is asked for under the free law, but for one change, and want are the impediments.
type wedding struct {
	change     func(law *impl.Law)
	a, b, year int
	want       []int
}

func checkWeddings(t *testing.T, f impl.Family, list []wedding) {
	t.Helper()
	for _, w := range list {
		law := free
		if w.change != nil {
			w.change(&law)
		}
		label := fmt.Sprintf("%s and %s in %d by %s", f.People[w.a].Name, f.People[w.b].Name, w.year, looseLawText(law))
		expect(t, impl.Impediments(f, law, w.a, w.b, w.year), w.want, "Impediments %s", label)
		expect(t, impl.MayMarry(f, law, w.a, w.b, w.year), len(w.want) == 0, "MayMarry %s", label)
	}
}

func TestP13BarsOfSexLifeAndAge(t *testing.T) {
	age := func(law *impl.Law) { law.Age = 16 }
	oldest := func(law *impl.Law) { law.Age = 99 }
	checkWeddings(t, parse(t, house), []wedding{
		{nil, stranger, zilla, 60, nil},
		{nil, zilla, stranger, 60, []int{1}},
		{nil, stranger, enos, 60, []int{1}},
		{nil, lilith, eva, 60, []int{1}},
		{nil, stranger, stranger, 60, []int{1, 6}},
		{nil, zilla, zilla, 60, []int{1, 6}},
		{nil, stranger, zilla, 51, nil},
		{nil, stranger, zilla, 50, []int{2, 3}},
		{nil, stranger, zilla, lowest, []int{2, 3}},
		{nil, stranger, zilla, -1, []int{2, 3}},
		{nil, stranger, zilla, 10000, nil},
		{nil, stranger, zilla, highest, nil},
		{nil, stranger, eva, 10, nil},
		{nil, stranger, eva, 9, []int{2, 3}},
		{nil, stranger, eva, 60, nil},
		{nil, stranger, eva, 61, []int{2}},
		{nil, stranger, eva, highest, []int{2}},
		{nil, cain, lilith, 70, nil},
		{nil, cain, lilith, 71, []int{2}},
		{nil, cain, eva, 80, []int{2, 6}},
		{age, stranger, zilla, 66, []int{3}},
		{age, stranger, zilla, 67, nil},
		{age, tubal, lilith, 60, []int{3}},
		{age, tubal, lilith, 61, nil},
		{age, tubal, lilith, 44, []int{2, 3}},
		{age, abel, lilith, 41, []int{2}},
		{age, zilla, lilith, 30, []int{1, 2, 3}},
		{oldest, stranger, zilla, 149, []int{3}},
		{oldest, stranger, zilla, 150, nil},
		{oldest, stranger, zilla, highest, nil},
		{oldest, stranger, zilla, lowest, []int{2, 3}},
	})
}

func TestP13BarsOfWivesAndHusbands(t *testing.T) {
	wives := func(n int) func(law *impl.Law) { return func(law *impl.Law) { law.Wives = n } }
	husbands := func(n int) func(law *impl.Law) { return func(law *impl.Law) { law.Husbands = n } }
	checkWeddings(t, parse(t, house), []wedding{
		{wives(1), stranger, ada, 25, nil},
		{wives(1), stranger, ada, 26, []int{4}},
		{wives(2), stranger, ada, 26, nil},
		{wives(1), cain, lilith, 39, nil},
		{wives(1), cain, lilith, 40, []int{4}},
		{wives(1), cain, lilith, 69, []int{4}},
		{wives(1), cain, lilith, 70, nil},
		{wives(1), adam, ada, 30, []int{4, 6}},
		{wives(2), adam, ada, 24, []int{4, 6}},
		{wives(2), adam, ada, 25, []int{6}},
		{wives(3), adam, ada, 24, []int{6}},
		{wives(1), adam, ada, 50, []int{6}},
		// The numbers are those of a and of b, whatever their sexes are.
		{wives(1), lilith, ada, 26, []int{1, 4}},
		{wives(1), lilith, ada, 25, []int{1}},
		{husbands(1), stranger, enos, 30, []int{1}},
		{husbands(1), enos, stranger, 30, []int{1, 5}},
		{husbands(1), abel, lilith, 24, []int{5}},
		{husbands(1), abel, lilith, 25, nil},
		{husbands(1), abel, lilith, 26, []int{5}},
		{husbands(2), abel, lilith, 24, nil},
		{husbands(1), stranger, eva, 18, []int{5}},
		{husbands(1), stranger, eva, 17, nil},
		{husbands(1), stranger, eva, 50, nil},
		{husbands(1), stranger, eva, 49, []int{5}},
		// A union that began later does not count, but that of the two bars them in all years.
		{husbands(1), cain, ada, 39, []int{12}},
		{func(law *impl.Law) { law.Wives, law.Husbands = 1, 1 }, cain, ada, 40, []int{4, 5, 12}},
	})
}

func TestP13BarsOfKin(t *testing.T) {
	degree := func(n int) func(law *impl.Law) { return func(law *impl.Law) { law.Degree = n } }
	canon := func(n int) func(law *impl.Law) { return func(law *impl.Law) { law.Canon = n } }
	checkWeddings(t, parse(t, house), []wedding{
		{nil, cain, eva, 40, []int{6}},
		{nil, adam, ada, 40, []int{6}},
		{nil, tubal, eva, 60, []int{6}},
		{nil, adam, tubal, 50, []int{1, 6}},
		{nil, abel, ada, 30, nil},
		{nil, ada, ada, 30, []int{1, 6}},
		{degree(20), ada, ada, 30, []int{1, 6, 7}},
		{degree(1), ada, ada, 30, []int{1, 6, 7}},
		{canon(1), ada, ada, 30, []int{1, 6, 8}},
		{degree(1), cain, eva, 40, []int{6, 7}},
		{canon(1), cain, eva, 40, []int{6, 8}},
		{degree(1), abel, ada, 30, nil},
		{degree(2), abel, ada, 30, []int{7}},
		{canon(1), abel, ada, 30, []int{8}},
		{degree(2), tubal, zilla, 60, nil},
		{degree(3), tubal, zilla, 60, []int{7}},
		{degree(20), tubal, zilla, 60, []int{7}},
		{canon(1), tubal, zilla, 60, nil},
		{canon(2), tubal, zilla, 60, []int{8}},
		{func(law *impl.Law) { law.Degree, law.Canon = 3, 2 }, tubal, zilla, 60, []int{7, 8}},
		{func(law *impl.Law) { law.Degree, law.Canon = 20, 10 }, enos, zilla, 60, nil},
		{func(law *impl.Law) { law.Degree, law.Canon = 20, 10 }, stranger, zilla, 60, nil},
	})
	// z and b: a is two steps above z, and one above b; by the mother of g, b is five steps above z.
	checkWeddings(t, twoWays(t), []wedding{
		{degree(20), 8, 1, 90, []int{6, 7}},
		{degree(2), 8, 1, 90, []int{6}},
		{canon(1), 8, 1, 90, []int{6}},
		{canon(2), 8, 1, 90, []int{6, 8}},
		{degree(1), 6, 7, 90, nil},
		{degree(2), 6, 7, 90, []int{7}},
	})
}

func TestP13BarsOfLines(t *testing.T) {
	patriline := func(law *impl.Law) { law.Patriline = true }
	matriline := func(law *impl.Law) { law.Matriline = true }
	checkWeddings(t, parse(t, house), []wedding{
		{patriline, tubal, zilla, 60, []int{9}},
		{matriline, tubal, zilla, 60, nil},
		{patriline, seth, zilla, 60, []int{9}},
		{patriline, enos, zilla, 60, nil},
		{matriline, enos, lilith, 60, []int{6, 10}},
		{patriline, enos, lilith, 60, []int{6}},
		{patriline, adam, ada, 30, []int{6, 9}},
		{matriline, adam, ada, 30, []int{6}},
		{matriline, tubal, ada, 60, []int{6, 10}},
		{matriline, tubal, eva, 60, []int{6, 10}},
		{patriline, stranger, zilla, 60, nil},
		{func(law *impl.Law) { law.Patriline, law.Matriline = true, true }, abel, ada, 30, []int{9, 10}},
		{func(law *impl.Law) { law.Patriline, law.Matriline = true, true }, lilith, lilith, 60, []int{1, 6, 9, 10}},
	})
}

func TestP13BarOfAffinity(t *testing.T) {
	affinity := func(n int) func(law *impl.Law) { return func(law *impl.Law) { law.Affinity = n } }
	checkWeddings(t, parse(t, inlaws), []wedding{
		{affinity(1), jacob, rahel, 55, []int{12}},
		{affinity(2), jacob, rahel, 55, []int{11, 12}},
		{affinity(2), jacob, rahel, 40, []int{11, 12}},
		{affinity(2), jacob, rahel, 39, []int{12}},
		{affinity(20), jacob, rahel, highest, []int{11, 12}},
		{nil, jacob, rahel, 55, []int{12}},
		{affinity(2), jacob, lea, 59, []int{12}},
		{affinity(2), jacob, lea, 60, []int{11, 12}},
		{affinity(1), jacob, lea, 60, []int{12}},
		{affinity(1), jacob, dina, 60, []int{6, 11}},
		// lea is the mother of dina, and rahel her mother's sister.
		{affinity(2), edom, dina, 60, nil},
		{affinity(1), edom, judith, 30, []int{11}},
		{affinity(1), edom, judith, 29, []int{2, 3}},
		{affinity(20), edom, judith, 40, []int{11}},
		{nil, edom, judith, 40, nil},
		{affinity(20), esau, judith, 40, []int{12}},
		{affinity(20), esau, lea, 40, nil},
		{affinity(1), joseph, lea, 80, []int{11}},
		{func(law *impl.Law) { law.Affinity, law.Degree = 1, 3 }, joseph, lea, 80, []int{7, 11}},
		// A woman as a, and a man as b: the unions of both are asked for.
		{affinity(1), judith, edom, 40, []int{1, 11}},
		{affinity(2), rahel, jacob, 55, []int{1, 11, 12}},
		{affinity(20), jacob, jacob, 45, []int{1, 6}},
	})
	checkWeddings(t, parse(t, house), []wedding{
		{affinity(1), cain, lilith, 20, []int{11}},
		{affinity(1), cain, lilith, 18, []int{2, 3}},
		{affinity(1), tubal, lilith, 60, nil},
		{affinity(2), tubal, lilith, 60, []int{11}},
		{affinity(2), cain, ada, 60, []int{12}},
		{affinity(20), enos, zilla, 60, nil},
	})
}

func TestP13BarOfUnions(t *testing.T) {
	f := parse(t, house)
	for _, year := range []int{18, 30, 49} {
		expect(t, impl.Impediments(f, free, adam, eva, year), []int{12}, "a union in %d", year)
		expect(t, impl.Impediments(f, free, eva, adam, year), []int{1, 12}, "a union the other way round in %d", year)
	}
	expect(t, impl.Impediments(f, free, adam, lilith, 30), []int{12}, "a union that has ended")
	expect(t, impl.Impediments(f, free, cain, ada, 30), []int{12}, "a union that has not begun")
	expect(t, impl.Impediments(f, free, cain, ada, lowest), []int{2, 3, 12}, "a union in a year before all")
}

// TestP13ImpedimentsByChance holds all answers about two persons against the model.
func TestP13ImpedimentsByChance(t *testing.T) {
	r := newChance(171)
	count := map[int]int{}
	for _, f := range marriageFamilies(t, r, 40) {
		d := stepsOf(f)
		for range 60 * min(1, len(f.People)) {
			law, a, b := chanceLaw(r), r.IntN(len(f.People)), r.IntN(len(f.People))
			if r.IntN(4) > 0 && f.People[a].Sex > f.People[b].Sex {
				a, b = b, a
			}
			year := chanceYear(r, f)
			want := d.impediments(law, a, b, year)
			label := fmt.Sprint(f, looseLawText(law), " ", a, b, year)
			expect(t, impl.Impediments(f, law, a, b, year), want, "Impediments %s", label)
			expect(t, impl.MayMarry(f, law, a, b, year), len(want) == 0, "MayMarry %s", label)
			count[0]++
			for _, bar := range want {
				count[bar]++
			}
		}
	}
	for bar := range 13 {
		if count[bar] < 100 {
			t.Errorf("the impediment %d is found %d times of %d", bar, count[bar], count[0])
		}
	}
}

func TestP13PartnersAllowed(t *testing.T) {
	f := parse(t, house)
	law := impl.Law{Degree: 2, Age: 16, Wives: 1, Husbands: 2}
	expect(t, impl.PartnersAllowed(f, free, stranger, 60), []int{eva, ada, zilla}, "a man")
	expect(t, impl.PartnersAllowed(f, law, tubal, 70), []int{lilith, zilla}, "a man who has no wife")
	expect(t, impl.PartnersAllowed(f, law, cain, 50), []int{}, "a man who has a wife")
	expect(t, impl.PartnersAllowed(f, law, zilla, 70), []int{enos, tubal}, "a woman")
	expect(t, impl.PartnersAllowed(f, law, zilla, 66), []int{}, "a woman who is too young")
	expect(t, impl.PartnersAllowed(f, free, lilith, 60), []int{cain, tubal}, "a woman, but not her sons, nor her husband")
	r := newChance(172)
	count := 0
	for _, f := range marriageFamilies(t, r, 20) {
		d := stepsOf(f)
		for p := range f.People {
			law, year := chanceLaw(r), chanceYear(r, f)
			want := d.partnersAllowed(law, p, year)
			expect(t, impl.PartnersAllowed(f, law, p, year), want, "PartnersAllowed %v %s %d %d", f, looseLawText(law), p, year)
			count += min(1, len(want))
		}
	}
	if count < 300 {
		t.Errorf("%d persons may marry", count)
	}
}

func TestP13ClassPartners(t *testing.T) {
	f := parse(t, "man a - - 0 -\nwoman b - - 0 -\nman c a b 20 -\nwoman d a b 22 -\nman e - - 0 -\n")
	kariera := impl.SampleClasses("kariera")
	given := []int{0, 1, 3, 3, 2}
	for p, want := range [][]int{{1}, {0}, nil, {4}, {3}} {
		expect(t, impl.ClassPartners(f, kariera, given, p), want, "ClassPartners of %d", p)
	}
	// By classes, kin can be partners, and those who are not alive.
	expect(t, impl.ClassPartners(f, system(t, "0 0"), make([]int, 5), 2), []int{1, 3}, "ClassPartners of one class")
	// In a cycle, the men of a class and its women do not marry into the same class.
	cycle := system(t, "120 012")
	for p, want := range [][]int{{1}, {0}, {3}, {2}, nil} {
		expect(t, impl.ClassPartners(f, cycle, []int{0, 1, 1, 2, 2}, p), want, "ClassPartners of %d in a cycle", p)
	}
	r := newChance(173)
	for _, f := range marriageFamilies(t, r, 20) {
		c := chanceSystem(r, 1+r.IntN(8))
		given := numbersBelow(r, len(f.People), len(c.Wife))
		for p := range f.People {
			want := wantClassPartners(f, c, given, p)
			got := impl.ClassPartners(f, c, given, p)
			expect(t, got, want, "ClassPartners %v %s %v %d", f, systemText(c), given, p)
			for _, q := range got {
				back := impl.ClassPartners(f, c, given, q)
				expect(t, slices.Contains(back, p), true, "ClassPartners %v %s %v of %d and %d", f, systemText(c), given, p, q)
			}
		}
	}
}
