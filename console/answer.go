package console

import (
	"errors"
	"strconv"
	"strings"

	"fulmar/api"
)

// done: what is answered, where nothing is asked.
const done = "ok"

// errBad: it is no line that there is. api has no number for that, so it never leaves this package.
var errBad = errors.New("bad")

// command: how many words stand behind its name, and what the desk does by them.
type command struct {
	words int
	do    func(d *desk, words []string) (string, error)
}

// commands by their names.
func commands() map[string]command {
	return map[string]command{
		"set":   {3, (*desk).set},
		"fault": {5, (*desk).fault},
		"step":  {9, (*desk).step},
		"fly":   {0, (*desk).fly},
		"at":    {1, (*desk).at},
		"edges": {0, (*desk).edges},
		"clear": {0, (*desk).clear},
	}
}

// answer a line.
func (d *desk) answer(known map[string]command, line string) string {
	// Parted by one blank: of two side by side there is an empty word between, and that is no word of any command.
	words := strings.Split(line, " ")
	name, rest := words[0], words[1:]
	c, ok := known[name]
	if !ok || len(rest) != c.words {
		return tellError(errBad)
	}
	said, err := c.do(d, rest)
	if err != nil {
		return tellError(err)
	}
	return said
}

// tellError: by its number, if it has one.
func tellError(err error) string {
	var wrong api.Errno
	if errors.As(err, &wrong) {
		return "error " + strconv.Itoa(int(wrong))
	}
	return "bad"
}
