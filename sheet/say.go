package sheet

import (
	"strconv"
	"strings"

	"verge/api"
	"verge/lit"
)

// okay tells that all is well, with some counts.
func okay(counts ...int) string {
	text := "ok"
	for _, n := range counts {
		text += " " + strconv.Itoa(n)
	}
	return text
}

// exact and exactDecos tell a line for each interval.
func exact(xs ...api.Interval) []string {
	var out []string
	for _, x := range xs {
		out = append(out, lit.Exact(x))
	}
	return out
}

func exactDecos(xs ...api.Deco) []string {
	var out []string
	for _, x := range xs {
		out = append(out, lit.ExactDeco(x))
	}
	return out
}

// exactly tells what a call answers, an interval or an error.
func exactly(x api.Interval, e api.Errno) ([]string, error) {
	if e != api.OK {
		return nil, e
	}
	return exact(x), nil
}

// each tells a line for each box, beginning with a word.
func each(word string, boxes [][]api.Interval) []string {
	var out []string
	for _, b := range boxes {
		out = append(out, strings.Join(append([]string{word}, exact(b...)...), " "))
	}
	return out
}
