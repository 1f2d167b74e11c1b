package equation_test

import (
	"iter"
	"math"
	"math/rand/v2"
	"slices"
	"strconv"
	"strings"
	"sync"
	"testing"

	"univocal/api"
	"univocal/equation"
)

// letters are the letters of the variables 0 to 11 in the texts of equations; all other letters are bytes.
const letters = "XYZUVWABCDEF"

func variable(x int) api.Item { return api.Item{X: x} }

func letter(b byte) api.Item { return api.Item{X: -1, B: b} }

// term returns the term of a text.
func term(text string) []api.Item {
	var l []api.Item
	for _, b := range []byte(text) {
		if x := strings.IndexByte(letters, b); x >= 0 {
			l = append(l, variable(x))
		} else {
			l = append(l, letter(b))
		}
	}
	return l
}

// eq returns the equation of a text with an equals sign between both sides.
func eq(text string) api.Equation {
	l, r, _ := strings.Cut(text, "=")
	return api.Equation{L: term(l), R: term(r)}
}

// eqs returns the equations of texts.
func eqs(texts ...string) []api.Equation {
	var l []api.Equation
	for _, text := range texts {
		l = append(l, eq(text))
	}
	return l
}

// show returns the text of a term; it is in brackets where it has no letters.
func show(t []api.Item) string {
	text := ""
	for _, i := range t {
		switch {
		case i.X == -1 && strings.IndexByte(letters, i.B) < 0:
			text += string([]byte{i.B})
		case i.X >= 0 && i.X < len(letters) && i.B == 0:
			text += letters[i.X : i.X+1]
		default:
			text += "[" + strconv.Itoa(i.X) + " " + strconv.Itoa(int(i.B)) + "]"
		}
	}
	return text
}

// text returns the text of an equation.
func text(e api.Equation) string { return show(e.L) + "=" + show(e.R) }

// texts returns the texts of equations.
func texts(g []api.Equation) []string {
	var l []string
	for _, e := range g {
		l = append(l, text(e))
	}
	return l
}

// stepText returns the text of a step in the form of the chapter's table.
func stepText(s api.Step) string {
	return show([]api.Item{variable(s.X)}) + " " + show(s.Out) + ": " + text(s.E)
}

// stepTexts returns the texts of steps.
func stepTexts(steps []api.Step) []string {
	var l []string
	for _, s := range steps {
		l = append(l, stepText(s))
	}
	return l
}

// words returns an assignment.
func words(w ...string) [][]byte {
	var l [][]byte
	for _, x := range w {
		l = append(l, []byte(x))
	}
	return l
}

// sameWords compares assignments; nil and empty words are the same.
func sameWords(v, w [][]byte) bool {
	return slices.EqualFunc(v, w, func(x, y []byte) bool { return string(x) == string(y) })
}

func inScope(alphabet string, most int) api.Scope {
	return api.Scope{Alphabet: []byte(alphabet), Most: most}
}

// random returns a fixed sequence of numbers.
func random(seed uint64) *rand.Rand { return rand.New(rand.NewPCG(11, seed)) }

// small enumerates all equations over the letters of items with at most most items on each side.
func small(items string, most int) iter.Seq[api.Equation] {
	sides := []string{""}
	for at := 0; at < len(sides); at++ {
		if len(sides[at]) < most {
			for _, b := range []byte(items) {
				sides = append(sides, sides[at]+string(b))
			}
		}
	}
	return func(yield func(api.Equation) bool) {
		for _, l := range sides {
			for _, r := range sides {
				if !yield(eq(l + "=" + r)) {
					return
				}
			}
		}
	}
}

// sample returns a valid equation over at most n variables with at most most items on each side.
func sample(r *rand.Rand, n, most int) api.Equation {
	var order []int
	for _, x := range r.Perm(api.MaxVars)[:n] {
		order = append(order, x)
	}
	bytes := 1 + r.IntN(2)
	side := func() []api.Item {
		var l []api.Item
		for range r.IntN(most + 1) {
			if k := r.IntN(n + 2); k < n {
				l = append(l, variable(order[k]))
			} else {
				l = append(l, letter("ab"[r.IntN(bytes)]))
			}
		}
		return l
	}
	return api.Equation{L: side(), R: side()}
}

// samples returns valid equations of many kinds: most of them are short, so that their graphs are small.
func samples(seed uint64, count int) []api.Equation {
	r := random(seed)
	var l []api.Equation
	for k := range count {
		switch k % 4 {
		case 0:
			l = append(l, sample(r, r.IntN(3), 5))
		case 1:
			l = append(l, sample(r, 1+r.IntN(3), 7))
		case 2:
			l = append(l, sample(r, 2+r.IntN(4), 6))
		default:
			l = append(l, sample(r, r.IntN(api.MaxVars+1), api.MaxItems))
		}
	}
	return l
}

// extremes are numbers that are out of every range.
var extremes = []int{math.MinInt, math.MinInt + 1, -1 << 40, -1 << 32, -257, -256, -2, 12, 13, 255, 256, 1 << 32, 1<<32 - 1, 1 << 40, math.MaxInt}

// invalid returns equations that are not valid, each for one reason.
func invalid() map[string]api.Equation {
	long := strings.Repeat("Xa", 12) + "b"
	l := map[string]api.Equation{
		"left too long": eq(long + "=a"), "right too long": eq("X=" + long), "both too long": eq(long + "=" + long),
		"far too long": eq("X=" + strings.Repeat("X", 70000)),
	}
	add := func(what string, i api.Item) {
		l["left "+what] = api.Equation{L: []api.Item{variable(0), i}, R: term("Xa")}
		l["right "+what] = api.Equation{L: term("aX"), R: []api.Item{i}}
		l["both "+what] = api.Equation{L: []api.Item{i}, R: []api.Item{i}}
	}
	for _, x := range extremes {
		add("variable "+strconv.Itoa(x), variable(x))
		add("byte with "+strconv.Itoa(x), api.Item{X: x, B: 'a'})
	}
	for _, x := range []int{0, 1, 11} {
		for _, b := range []byte{1, 'a', 255} {
			add("variable "+strconv.Itoa(x)+" with "+strconv.Itoa(int(b)), api.Item{X: x, B: b})
		}
	}
	return l
}

// each calls check for all elements of l, several at a time.
func each[T any](l []T, check func(x T)) {
	const workers = 8
	var w sync.WaitGroup
	for i := range workers {
		w.Go(func() {
			for j := i; j < len(l); j += workers {
				check(l[j])
			}
		})
	}
	w.Wait()
}

// graph returns the graph of an equation that has one, and whether it contains a solved equation.
func graph(t *testing.T, e api.Equation) ([]api.Equation, bool) {
	t.Helper()
	g, ok, err := equation.Graph(e)
	if err != api.OK {
		t.Fatalf("Graph(%s): %v", text(e), err)
	}
	return g, ok
}

func clone(e api.Equation) api.Equation {
	return api.Equation{L: slices.Clone(e.L), R: slices.Clone(e.R)}
}

func cloneAll(g []api.Equation) []api.Equation {
	var l []api.Equation
	for _, e := range g {
		l = append(l, clone(e))
	}
	return l
}

// same compares equations; nil and empty terms are the same.
func same(x, y api.Equation) bool { return slices.Equal(x.L, y.L) && slices.Equal(x.R, y.R) }

func sameAll(x, y []api.Equation) bool { return slices.EqualFunc(x, y, same) }

func sameStep(x, y api.Step) bool {
	return x.X == y.X && slices.Equal(x.Out, y.Out) && same(x.E, y.E)
}

func sameSteps(x, y []api.Step) bool { return slices.EqualFunc(x, y, sameStep) }
