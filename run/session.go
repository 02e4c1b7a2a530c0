package run

import (
	"strings"

	"sextant/api"
	"sextant/model"
)

// session is a module that is asked about.
type session struct {
	module string
	model  *model.Model
}

// newSession reads a module; with the first fault where it is.
func newSession(module string) (session, int, error) {
	m, at, err := model.New(module)
	return session{module, m}, at, err
}

// answering answers by the numbers that stand first behind a word, and by what is left behind them. What it tells is whole lines; with a fault where it is.
type answering func(numbers []int, left string) (told string, at int, err error)

// means tells what answers to a word, and how many numbers it wants; nil, if there is no such word.
func (s session) means(word string) (tell answering, wanted int) {
	switch word {
	case "show":
		return s.show, 0
	case "kind":
		return s.kind, 0
	case "eval":
		return s.eval, 2
	case "walk":
		return s.walk, 2
	case "explore":
		return s.explore, 0
	case "turned":
		return s.turned, 0
	case "spared":
		return s.spared, 0
	case "rings":
		return s.rings, 0
	case "check":
		return s.check, 0
	case "dead":
		return s.dead, 0
	case "live":
		return s.live, 0
	case "within":
		return s.within, 1
	case "induct":
		return s.induct, 1
	case "seal":
		return s.seal, 0
	case "branch":
		return s.branch, 0
	}
	return nil, 0
}

// answer answers a line.
func (s session) answer(asked string) string {
	word, rest, _ := strings.Cut(asked, " ")
	tell, wanted := s.means(word)
	numbers, left, ok := leading(rest, wanted)
	if tell == nil || !ok {
		return line(refusal(api.ErrSyntax))
	}
	told, at, err := tell(numbers, left)
	if err != nil {
		return line(fault(at, err))
	}
	return told
}
