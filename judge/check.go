package judge

import (
	"veil/api"
	"veil/machine"
	"veil/policies"
)

// Check tells whether a secret is granted by an image, and the trace of the
// code that judges it; ErrLong, if the secret has more bytes than it may have.
func Check(m *policies.Image, secret string) (bool, []int, api.Errno) {
	if len(secret) > m.Most() {
		return false, nil, api.ErrLong
	}
	code, data := Code(m)
	before := memory(secret, data)
	after, trace, e := machine.Run(code, before, api.MaxSteps)
	granted := len(after) > api.VerdictAt && after[api.VerdictAt] == 1
	return granted, trace, e
}

// memory is what a secret and the code's data are laid into.
func memory(secret string, data []int) []int {
	words := make([]int, api.DataAt)
	words[api.LengthAt] = len(secret)
	for i := 0; i < len(secret) && i < api.MaxSecret; i++ {
		words[api.SecretAt+i] = int(secret[i])
	}
	return append(words, data...)
}
