package exact

import (
	"strconv"
	"strings"

	"wringing/api"
)

// Print returns the text of a number.
func Print(a api.Rat) (string, api.Errno) {
	if !Valid(a) {
		return "", api.ErrArg
	}
	text := strconv.Itoa(a.Num)
	if a.Den != 1 {
		text += "/" + strconv.Itoa(a.Den)
	}
	return text, api.OK
}

// Parse returns the number of a text.
func Parse(text string) (api.Rat, api.Errno) {
	left, right, slash := strings.Cut(text, "/")
	if !slash {
		right = "1"
	}
	num, notNum := strconv.Atoi(left)
	den, notDen := strconv.Atoi(right)
	if notNum != nil || notDen != nil {
		return api.Rat{}, api.ErrForm
	}
	// Atoi accepts more forms than Print writes: a plus sign, for one, or zeros in front.
	a := api.Rat{Num: num, Den: den}
	again, e := Print(a)
	if e != api.OK || again != text {
		return api.Rat{}, api.ErrForm
	}
	return a, api.OK
}
