package pattern

// Graph is an automaton of which every state that some string leads to has a
// number. The states are numbered by the first string that leads to each; but
// several of them may be alike. Bytes that lead to the same states from
// everywhere are of one letter; the letters are numbered by the least byte of
// each, and several of them too may do the same.
type Graph struct {
	letters []int    // of each letter the spots at which its bytes can stand
	letter  [256]int // of each byte its letter
	granted []bool   // of each state whether its strings match
	next    []int    // of each state, for each letter, the state it leads to
}

// roll has the states that were met so far, in the order of their numbers.
type roll struct {
	states  []int
	numbers []int // of each state its number and one more, or 0, if it was not met
}

// number is the number of a state; one that was not met gets the next.
func (r *roll) number(state int) int {
	if state < 0 || state >= len(r.numbers) {
		return 0
	}
	if r.numbers[state] == 0 {
		r.states = append(r.states, state)
		r.numbers[state] = len(r.states)
	}
	return r.numbers[state] - 1
}

// Draw makes the graph of an automaton. States are looked at in the order of
// their numbers and letters in that of their least bytes: so each state is
// met at its first string.
func Draw(a *Automaton) Graph {
	g := Graph{}
	g.sortBytes(a)
	met := roll{numbers: make([]int, move(1, len(a.next)))}
	met.number(start)
	for i := 0; i < len(met.states); i++ {
		state := met.states[i]
		g.granted = append(g.granted, a.grants(state))
		spots := a.reach(state)
		for k := 0; k < len(g.letters); k++ {
			n := met.number(spots & g.letters[k])
			g.next = append(g.next, n)
		}
	}
	return g
}

// sortBytes finds the letters.
func (g *Graph) sortBytes(a *Automaton) {
	for b := 0; b < len(a.fits); b++ {
		k := 0
		for k < len(g.letters) && g.letters[k] != a.fits[b] {
			k++
		}
		if k == len(g.letters) {
			g.letters = append(g.letters, a.fits[b])
		}
		g.letter[b] = k
	}
}

// States is the number of states.
func (g *Graph) States() int {
	return len(g.granted)
}

// Letters is the number of letters.
func (g *Graph) Letters() int {
	return len(g.letters)
}

// Letter is the letter of a byte.
func (g *Graph) Letter(b byte) int {
	return g.letter[b]
}

// Granted tells whether the strings of a state match.
func (g *Graph) Granted(state int) bool {
	return state >= 0 && state < len(g.granted) && g.granted[state]
}

// Next is the state to which a letter leads from a state.
func (g *Graph) Next(state, letter int) int {
	i := state*len(g.letters) + letter
	if i < 0 || i >= len(g.next) {
		return 0
	}
	return g.next[i]
}
