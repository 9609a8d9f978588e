package rule

import (
	"testing"

	"roadbook/api"
	"roadbook/tree"
)

// P8.2: what is handed on can be left at any tree; up to there it is what Next has.
func TestNextCanBeLeft(t *testing.T) {
	for set := range 16 {
		for _, x := range tree.All(set) {
			all := Next(x)
			for most := 1; most <= len(all); most++ {
				var l []api.Tree
				for n := range next(x) {
					l = append(l, n)
					if len(l) == most {
						break
					}
				}
				if len(l) != most || !tree.Same(api.Tree{L: l}, api.Tree{L: all[:most]}) {
					t.Fatalf("%s, left at %d: %v", tree.Text(x), most, l)
				}
			}
		}
	}
}
