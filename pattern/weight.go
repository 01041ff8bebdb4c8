package pattern

import "veil/api"

// tooHeavy stands for every weight above MaxWeight. The true weight of a short
// text may be beyond an int; but what is too heavy stays so, whatever is added
// to it or however often it is taken, unless it is taken 0 times.
const tooHeavy = api.MaxWeight + 1

func weigh(t Tree) int {
	weights := []int{}
	w := 0
	for i := 0; i < len(t.nodes); i++ {
		w = weighNode(t.nodes[i], weights)
		weights = append(weights, w)
	}
	return w
}

// weighNode weighs a node by the weights of the nodes before it.
func weighNode(n node, weights []int) int {
	w := 1
	switch n.kind {
	case join, either:
		w = weightAt(weights, n.left) + weightAt(weights, n.right)
	case star, plus, maybe:
		w = weightAt(weights, n.left)
	case times:
		w = weightAt(weights, n.left) * n.high
	}
	if w < 1 {
		return 1
	}
	if w > tooHeavy {
		return tooHeavy
	}
	return w
}

func weightAt(weights []int, i int) int {
	if i < 0 || i >= len(weights) {
		return 0
	}
	return weights[i]
}
