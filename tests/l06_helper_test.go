package tests

import (
	"fmt"
	"math/rand/v2"
	"slices"
	"strconv"
	"strings"
	"testing"

	"loop.example/g03221/impl"
)

// The functions below say again, in the plainest way, what the document says of permutations and marriage classes.

// wantPermutation counts how often each number is in the list.
func wantPermutation(p []int) bool {
	for x := range p {
		count := 0
		for _, y := range p {
			if y == x {
				count++
			}
		}
		if count != 1 {
			return false
		}
	}
	return true
}

func wantClasses(c impl.Classes) bool {
	n := len(c.Wife)
	return n >= 1 && n <= 8 && len(c.Child) == n && wantPermutation(c.Wife) && wantPermutation(c.Child)
}

// wantMoved returns the class of the relatives by a step from persons of a sex and of the class x.
func wantMoved(c impl.Classes, s impl.Step, sex int, x int) int {
	switch letters[s.Kind-1] {
	case 'F':
		return slices.Index(c.Child, x)
	case 'M':
		return c.Wife[slices.Index(c.Child, x)]
	case 'S', 'D':
		father := x
		if sex == impl.Woman {
			father = slices.Index(c.Wife, x)
		}
		return c.Child[father]
	case 'H':
		return slices.Index(c.Wife, x)
	case 'W':
		return c.Wife[x]
	}
	return x
}

// wantClassesBy follows the steps of a type from each class.
func wantClassesBy(c impl.Classes, k impl.KinType) ([]int, bool) {
	if !wantClasses(c) || !wantType(k) || len(k.Steps) > 0 && wantEgo(k) == 0 {
		return nil, false
	}
	list := []int{}
	for x := range c.Wife {
		sex := wantEgo(k)
		for _, s := range k.Steps {
			x = wantMoved(c, s, sex, x)
			sex = wantSexOf(s)
		}
		list = append(list, x)
	}
	return list, true
}

// wantGroup returns the whole group, however large it is, sorted.
func wantGroup(c impl.Classes) [][]int {
	group := [][]int{{}}
	for i := range c.Wife {
		group[0] = append(group[0], i)
	}
	known := map[string]bool{fmt.Sprint(group[0]): true}
	for i := 0; i < len(group); i++ {
		for _, generator := range [][]int{c.Wife, c.Child} {
			next := []int{}
			for _, x := range group[i] {
				next = append(next, generator[x])
			}
			if text := fmt.Sprint(next); !known[text] {
				known[text] = true
				group = append(group, next)
			}
		}
	}
	slices.SortFunc(group, slices.Compare[[]int])
	return group
}

// wantRegular counts the ways from each class to each one.
func wantRegular(c impl.Classes) bool {
	if !wantClasses(c) {
		return false
	}
	group := wantGroup(c)
	for i := range c.Wife {
		for k := range c.Wife {
			ways := 0
			for _, p := range group {
				if p[i] == k {
					ways++
				}
			}
			if ways != 1 {
				return false
			}
		}
	}
	return true
}

func wantAllowed(c impl.Classes, k impl.KinType) bool {
	p, ok := wantClassesBy(c, k)
	return ok && slices.Equal(p, c.Wife) && wantEgo(k) == impl.Man && wantSex(k) == impl.Woman
}

// wantRelabeled relies on c and p being valid.
func wantRelabeled(c impl.Classes, p []int) impl.Classes {
	d := impl.Classes{Wife: make([]int, len(p)), Child: make([]int, len(p))}
	for i, name := range p {
		d.Wife[name] = p[c.Wife[i]]
		d.Child[name] = p[c.Child[i]]
	}
	return d
}

// allPermutations has all permutations of n numbers, in order.
func allPermutations(n int) [][]int {
	lists := [][]int{{}}
	for range n {
		longer := [][]int{}
		for _, list := range lists {
			for x := range n {
				if !slices.Contains(list, x) {
					longer = append(longer, append(slices.Clone(list), x))
				}
			}
		}
		lists = longer
	}
	return lists
}

func isBeforeClasses(c impl.Classes, d impl.Classes) bool {
	if order := slices.Compare(c.Wife, d.Wife); order != 0 {
		return order < 0
	}
	return slices.Compare(c.Child, d.Child) < 0
}

// wantCanonical relies on c being valid, with at most five classes.
func wantCanonical(c impl.Classes) impl.Classes {
	best := c
	for _, p := range allPermutations(len(c.Wife)) {
		if d := wantRelabeled(c, p); isBeforeClasses(d, best) {
			best = d
		}
	}
	return best
}

// allSystems has all systems with n classes, in order.
func allSystems(n int) []impl.Classes {
	list := []impl.Classes{}
	for _, wife := range allPermutations(n) {
		for _, child := range allPermutations(n) {
			list = append(list, impl.Classes{Wife: wife, Child: child})
		}
	}
	return list
}

// wantAllRegular keeps the systems that are regular and have no other names that come before.
func wantAllRegular(n int) []impl.Classes {
	return slices.DeleteFunc(allSystems(n), func(c impl.Classes) bool {
		return !wantRegular(c) || !isSameSystem(wantCanonical(c), c)
	})
}

// wantProduct relies on the systems being valid.
func wantProduct(a impl.Classes, b impl.Classes) impl.Classes {
	n, m := len(a.Wife), len(b.Wife)
	c := impl.Classes{Wife: make([]int, n*m), Child: make([]int, n*m)}
	for i := range n {
		for k := range m {
			c.Wife[i*m+k] = a.Wife[i]*m + b.Wife[k]
			c.Child[i*m+k] = a.Child[i]*m + b.Child[k]
		}
	}
	return c
}

// isSameSystem compares without the functions that are tested.
func isSameSystem(c impl.Classes, d impl.Classes) bool {
	return slices.Equal(c.Wife, d.Wife) && slices.Equal(c.Child, d.Child)
}

func isZeroSystem(c impl.Classes) bool { return isSameSystem(c, impl.Classes{}) }

// Systems that are written, made by chance, and made wrong.

// digits reads a list of numbers from 0 to 9.
func digits(text string) []int {
	list := []int{}
	for _, d := range text {
		list = append(list, int(d-'0'))
	}
	return list
}

// permutationText writes a list of numbers from 0 to 9.
func permutationText(p []int) string {
	text := ""
	for _, x := range p {
		text += strconv.Itoa(x)
	}
	return text
}

// system reads Wife and Child, separated by a space.
func system(t *testing.T, text string) impl.Classes {
	t.Helper()
	wife, child, _ := strings.Cut(text, " ")
	c := impl.Classes{Wife: digits(wife), Child: digits(child)}
	if !impl.IsClasses(c) {
		t.Fatalf("IsClasses refuses %q", text)
	}
	return c
}

func systemText(c impl.Classes) string {
	return permutationText(c.Wife) + " " + permutationText(c.Child)
}

func systemTexts(list []impl.Classes) string {
	texts := []string{}
	for _, c := range list {
		texts = append(texts, systemText(c))
	}
	return strings.Join(texts, "; ")
}

func systemNames() []string { return []string{"kariera", "circle", "moieties"} }

func chanceSystem(r *rand.Rand, n int) impl.Classes {
	return impl.Classes{Wife: r.Perm(n), Child: r.Perm(n)}
}

// regularOf returns a regular system with a class for each permutation of the group of c.
func regularOf(c impl.Classes) impl.Classes {
	group := wantGroup(c)
	var d impl.Classes
	for _, p := range group {
		place := func(generator []int) int {
			next := []int{}
			for _, x := range p {
				next = append(next, generator[x])
			}
			return slices.IndexFunc(group, func(q []int) bool { return slices.Equal(q, next) })
		}
		d.Wife = append(d.Wife, place(c.Wife))
		d.Child = append(d.Child, place(c.Child))
	}
	return d
}

// largeRegular has regular systems with six and eight classes, whose groups are not all commutative.
func largeRegular(t *testing.T) []impl.Classes {
	t.Helper()
	list := []impl.Classes{}
	for _, text := range []string{"120 102", "12304 01234", "1230 1032", "1230 3210", "120345 012453", "1203456 0124536", "12345670 01234567", "103254 123450"} {
		c := regularOf(system(t, text))
		if n := len(c.Wife); n <= 8 {
			list = append(list, c)
		}
	}
	return list
}

// someSystems has the samples, all systems of at most three classes, regular ones, and n by chance.
func someSystems(t *testing.T, r *rand.Rand, n int) []impl.Classes {
	t.Helper()
	list := largeRegular(t)
	for _, name := range systemNames() {
		list = append(list, impl.SampleClasses(name))
	}
	for size := 1; size <= 3; size++ {
		list = append(list, allSystems(size)...)
	}
	for range n {
		list = append(list, chanceSystem(r, 1+r.IntN(8)))
	}
	return list
}

// notPermutations returns lists that are no permutations, with what is wrong about each of them.
func notPermutations() map[string][]int {
	long := make([]int, 100000)
	for i := range long {
		long[i] = i
	}
	long[99999] = 0
	return map[string][]int{
		"one number that is 1":        {1},
		"one number that is -1":       {-1},
		"a number twice":              {0, 1, 1, 3},
		"the first number twice":      {0, 0},
		"numbers from 1 on":           {1, 2, 3},
		"-1 in place of a number":     {0, -1, 2},
		"a number too large":          {2, 3, 0},
		"the lowest number":           {1, lowest, 0},
		"the highest number":          {highest, 0, 1},
		"4 times 64":                  {0, 64, 128, 192},
		"all of them 0":               make([]int, 8),
		"very many, the last one bad": long,
		"very many, all of them 0":    make([]int, 100000),
	}
}

// notSystems returns systems that are not valid, with what is wrong about each of them.
func notSystems() map[string]impl.Classes {
	eight, nine := digits("01234567"), digits("012345678")
	list := map[string]impl.Classes{
		"the zero value":           {},
		"empty lists":              {Wife: []int{}, Child: []int{}},
		"no Wife":                  {Child: digits("10")},
		"no Child":                 {Wife: digits("10")},
		"one class, no Child":      {Wife: digits("0")},
		"a Child too much":         {Wife: digits("10"), Child: digits("012")},
		"a Wife too much":          {Wife: digits("0123"), Child: digits("120")},
		"nine classes":             {Wife: nine, Child: nine},
		"nine Wives":               {Wife: nine, Child: eight},
		"nine Children":            {Wife: eight, Child: nine},
		"very many classes":        {Wife: newChance(107).Perm(100000), Child: newChance(108).Perm(100000)},
		"very many of one of them": {Wife: digits("0"), Child: newChance(109).Perm(100000)},
	}
	for label, p := range notPermutations() {
		good := newChance(110).Perm(len(p))
		list["Wife: "+label] = impl.Classes{Wife: p, Child: good}
		list["Child: "+label] = impl.Classes{Wife: good, Child: p}
	}
	return list
}
